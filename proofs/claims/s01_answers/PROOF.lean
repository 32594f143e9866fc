import PyProof.Rows.All
import Wide.All
import OpenK.AllK
import Wide.FinOn
import Open.SpecLaws
import KE.OsGo
import HandS.ForSpec
import HandS.ForMost
import HandS.DictSubView
import HandS.Conv
import HandS.Sort
import HandS.More
import KE.KDictList
import KE.SortKeyHeap
import HandS.Zip
import HandS.SortKw
import HandS.CallLocal
import HandS.Evl
import HandS.Walk
import HandS.Flt
import PySem.Challenge.RW_evenmatches_s01_answers
set_option Elab.async false
set_option maxRecDepth 100000
set_option maxHeartbeats 4000000
set_option linter.all false
namespace EM
open PySem PySem.Spec PyProof.Rows L2

/-! ### o.values() of a tracked dict, as a value; list(o.values()) -/
def tValsK (td : TE) : TE := fun σ H Q => td σ H fun x H1 => ∃ a kvs, x = .ref a ∧ Rd H1 a (.dK kvs) ∧ ∀ p, H1 p = none → Q (.ref p) (upd H1 p (viewO "dict_values" p a))
section
variable {X : Cx} {e : Expr} {td : TE} {apos cpos : Pos}
theorem pe_valsK (he : PE X e td) (hbase : attributeBase e "values" X.env (eval e X.env) = eval e X.env := by rfl) (hline : (apos.endLine == cpos.line) = true := by rfl) :
    PE X (.Call (.Attribute e "values" apos) [] [] cpos) (tValsK td) := by
  refine ⟨fun pins s σ H Q I h => ?_⟩
  refine wpAny_Call_method (T := "dict") (id := "dict.values") hbase rfl hline F.plainAttrs_dict F.slot_dict_values F.type_dict_values (thn (he.run pins s σ H _ I h) fun u s1 ⟨x, H1, I1, rx, d, kvs, ex, hd, q⟩ => ?_)
  subst ex
  obtain rfl : u = Value.ref d := rx
  obtain ⟨_, hsys, vs, rel, dof⟩ := dk_rd I1.hok hd
  refine ⟨dof.typeIs, dof.mapOf.noDict, ?_⟩
  show wpAny _ _ (callWith cpos (.builtin "dict.values") [.ref d] [] []) _ X.xe s1
  refine method_meetsIn F.slot_dict_values F.entry_dict_values rfl (PySem.evalArgs_none ⟨rfl, dof.typeIs, F.args_dict_values_1 _, _, meets_dict_values (mixKind X.prog X.w) d hsys, ⟨vs, dof⟩, ?_⟩)
  exact ⟨.ref s1.heap.objs.size, _, I1.laid (t' := s1.toks) (fun b o q => Heap.get?_push_of_some _ q) (Nat.le_refl _) (viewO_ok (Heap.get?_push_size _ rfl)), rfl, q _ (I1.hok.fresh (Nat.le_refl _))⟩
end
def rListView : List V → Hp → VK → Prop := fun xs H Q => ∃ p a kvs, xs = [.ref p] ∧ H p = some (viewO "dict_values" p a) ∧ Rd H a (.dK kvs) ∧ ∀ q, H q = none → Q (.ref q) (upd H q (.lst (kvs.map fun kv => kv.2)))
theorem cr_listView {X : Cx} (hc : X.calm = true) : CallR X (.type "list") rListView := by
  intro pins s σ H xs us Q I r h
  obtain ⟨p, a, kvs, rfl, hp, hd, q⟩ := h
  rw [Vals.ref1 r]
  have hv : s.heap.get? p = some (DSub.viewOb "dict_values" a) := (show ObjOk X.prog X.w H s.heap p (viewO "dict_values" p a) from I.hok p _ hp).1
  obtain ⟨hlen, hsys, vs, rel, dof⟩ := dk_rd I.hok hd
  obtain ⟨ep, hat⟩ := dof.dictAt
  have hl : kvs.length = vs.length := Paired.length rel
  refine PySem.W.kdl_call (PySem.W.kdl_values (knd := mixKind X.prog X.w) (kvs := vs) (ep := ep) (r := p) (d := a)) (I.ok.hd hc) ⟨⟨_, hv, rfl, rfl⟩, hat⟩ (by rw [← hl]; exact hlen) fun h' tk acc' c' hkeep hS hacc => ?_
  refine ⟨.ref s.heap.objs.size, upd H s.heap.objs.size (.lst (kvs.map fun kv => kv.2)), I.laid hkeep (Nat.le_refl _) (show ObjOk X.prog X.w _ _ _ (.lst (kvs.map fun kv => kv.2)) from ⟨?_, acc'.toList, c', ?_, ?_⟩), rfl, q _ (I.hok.fresh (Nat.le_refl _))⟩
  · rw [List.length_map]; exact hlen
  · have el : acc'.toList.length = acc'.size := by simp
    refine vals_of_at (by rw [List.length_map, el, hacc.1, hl]) fun j x w h1 h2 => ?_
    obtain ⟨k, hky⟩ := hacc.2 j w (by rw [← Array.getElem?_toList]; exact h2)
    obtain ⟨y, e1, e2⟩ := KV.at' rel hky
    rw [List.getElem?_map, e1] at h1
    cases h1
    exact e2
  · rw [Array.toArray_toList]; exact hS
end EM

namespace EM
open PySem PySem.Spec PyProof.Rows L2
/-! ### len(set(xs)), xs whole numbers, some of them perhaps alike -/
theorem range_getD (ns : List Int) : ∀ i, i ≤ ns.length → (List.range i).map (fun i => ns.getD i 0) = ns.take i
  | 0, _ => rfl
  | i + 1, hi => by
    have hlt : i < ns.length := hi
    rw [List.range_succ, List.map_append, range_getD ns i (Nat.le_of_lt hlt), List.take_add_one, List.getElem?_eq_getElem hlt]
    simp [hlt]
theorem firstMet_full {ns : List Int} : ∀ i, i ≤ ns.length → (PyProof.Rows.firstMet (fun i => ns.getD i 0) i).length = i → (ns.take i).Nodup
  | 0, _, _ => by simp
  | i + 1, hi, hl => by
    have hlt : i < ns.length := hi
    have hle := PyProof.Rows.firstMet_length_le (fun i => ns.getD i 0) i
    rw [PyProof.Rows.firstMet_succ] at hl
    unfold PyProof.Rows.step_dedup at hl
    split at hl
    · omega
    · rename_i hn
      rw [List.length_append, List.length_singleton] at hl
      have ih := firstMet_full (ns := ns) i (Nat.le_of_lt hlt) (by omega)
      have e2 : ns.take (i + 1) = ns.take i ++ [ns[i]] := by
        rw [List.take_add_one, List.getElem?_eq_getElem hlt] <;> rfl
      rw [e2, List.nodup_append]
      refine ⟨ih, by simp, ?_⟩
      intro a ha b hb
      have hb' : b = ns[i] := by simpa using hb
      subst hb'
      intro hab
      apply hn
      rw [PyProof.Rows.firstMet_any, range_getD ns i (Nat.le_of_lt hlt)]
      refine List.any_eq_true.mpr ⟨a, ha, ?_⟩
      have e1 : ns.getD i 0 = ns[i] := by
        rw [List.getD_eq_getElem?_getD, List.getElem?_eq_getElem hlt] <;> rfl
      rw [hab]
      simp [hlt]
def tLenSetA (K : PySem.W.Frag) (ta : TE) : TE := fun σ H Q => ta σ H fun x H1 => ∃ (l : Addr) (ns : List Int), x = .ref l ∧ SqL K H1 l (ns.map V.int) ∧ ns.length ≤ 4000 ∧ ∀ n : Nat, n ≤ ns.length → (n = ns.length ↔ ns.Nodup) → Q (.int (n : Nat)) H1
theorem pe_lenSetA {X : Cx} {a : Expr} {ta : TE} {p p2 q pos : Pos} (hg : Gl X "len") (hm : X.mg "len" = none) (hg2 : Gl X "set") (hm2 : X.mg "set" = none) (ha : PE X a ta) (hc : X.calm = true := by rfl)
    (na : starEach [a] X.env = (false, eval a X.env) :: starEach [] X.env := by rfl) : PE X (.Call (.Name "len" p) [.Call (.Name "set" p2) [a] [] q] [] pos) (tLenSetA X.K ta) := by
  refine ⟨fun pins s σ H Q I h => ?_⟩
  refine Call_ (ld_blt I hg hm boot_len ?_)
  refine PyProof.Rows.callWith_builtin1 (PyProof.Rows.args_cons ?_ rfl) rfl rfl
  refine Call_ (ld_blt I hg2 hm2 boot_set ?_)
  refine PyProof.Rows.callWith_type1 (PyProof.Rows.args_cons (thn (ha.run pins s σ H _ I h) fun v s1 ⟨x, H1, I1, r1, q1⟩ => PyProof.Rows.args_nil ?_) na) na rfl
  obtain ⟨l, ns, rfl, hq, hl, q1⟩ := q1
  cases r1
  obtain ⟨its, r, pl, hz⟩ := I1.list hq
  have hlen : its.toArray.size = ns.length := by rw [List.size_toArray, ← r.length, List.length_map]
  refine call_set_list (I1.ok.hd hc) pl.isList (by simpa using RZ.intsAre_vals r) (by rw [hlen]; unfold scanBound; omega) fun h' tk hS hk => ?_
  refine PyProof.Rows.args_nil ?_
  rw [hlen] at hS
  have hle := PyProof.Rows.firstMet_length_le (fun i => ns.getD i 0) ns.length
  have hiff : (PyProof.Rows.firstMet (fun i => ns.getD i 0) ns.length).length = ns.length ↔ ns.Nodup := by
    constructor
    · intro e
      have z := firstMet_full (ns := ns) ns.length (Nat.le_refl _) e
      rwa [List.take_length] at z
    · intro hnd
      rw [RZ.firstMet_nodup hnd ns.length (Nat.le_refl _), List.take_length]
  obtain ⟨o, es, ep, t, ho, hex, hd, _, _, _, hf, hn⟩ := hS
  have I2 : Inv X pins σ H1 { s1 with heap := h', toks := tk } := I1.kept fun b o e => hk b o (Heap.lt_size e) e
  exact call_len_set ho hex hd hf (by rw [hn] <;> omega) ⟨.int (PyProof.Rows.firstMet (fun i => ns.getD i 0) ns.length).length, H1, I2.tok _, ⟨_, by rw [hn]⟩, q1 _ hle hiff⟩
end EM

namespace EM
open PySem PySem.Spec PyProof.Rows L2
/-! ### sorted(o.values(), key=f), f an own def that gives a tuple of three whole numbers -/
section
variable {prog : Program} {w : World} {A : Around} {E : Value → Shared → Prop} {s : Shared} {T : String} {r d : Addr} {n : Nat} {P : Nat → Value → Prop} {OK : Heap → Prop}
theorem collect_src {Q : List Value → Shared → Prop} (K : PySem.W.KdlSrc prog w T r d n P OK) (hh : A.handled = none) (hok : OK s.heap) (hn : n ≤ sizeLine)
    (hQ : ∀ (h' : Heap) (tk : Nat) (acc : Array Value), (∀ b o, s.heap.get? b = some o → h'.get? b = some o) → ItemsOf P acc n → Q acc.toList { s with heap := h', toks := tk }) :
    wpAny (model prog w) A (collect (.ref r)) Q E s := by
  unfold collect
  refine wpAny_bind (wpAny_runValue (codeAny_builtin F.entry_proto_collect ?_))
  rw [Around.under_plainId F.plain_proto_collect _]
  show wpAny _ A.in1 (newList [] >>= fun l => again (.builtin "list.__iadd__" ⟨[l, .ref r], []⟩)) _ _ s
  refine wpAny_bind (wpAny_newObj_type ?_)
  refine wpAny_pure ⟨plainId_quiet F.plain_list_iadd _, codeAny_builtin F.entry_list_iadd ?_⟩
  rw [Around.under_plainId F.plain_list_iadd _]
  show wpAny _ A.in1 (Builtin.List.listExtendWith (.ref s.heap.objs.size) (.ref r) (.ref s.heap.objs.size)) _ _ _
  have hS : (s.heap.push { cls := .type "list", data := .seq ([] : List Value).toArray }).get? s.heap.objs.size = some { cls := .type "list", data := .seq #[] 0 } := Heap.get?_push_size _ rfl
  have hlt := K.there _ hok
  refine wpAny_mono (PySem.W.kdl_extend (A := A) (R := fun rr s' => rr = .ok (.ret (.ref s.heap.objs.size)) ∧ ∃ (h' : Heap) (tk : Nat) (acc : Array Value) (c' : Nat), s' = { s with heap := h', toks := tk } ∧
      (∀ b o, s.heap.get? b = some o → h'.get? b = some o) ∧ h'.get? s.heap.objs.size = some { cls := .type "list", dict := none, data := .seq acc c', slots := #[] } ∧ ItemsOf P acc n)
    (s := { s with heap := s.heap.push { cls := .type "list", data := .seq ([] : List Value).toArray } }) K hh (K.keep _ _ hok fun b _ o e => Heap.get?_push_of_some _ e) _ (Nat.ne_of_gt hlt.1) (Nat.ne_of_gt hlt.2) _ 0 hS
    (fun h' tk acc c' hk e hi => ⟨rfl, h', tk, acc, c', rfl, fun b o q => hk b o (Nat.ne_of_lt (Heap.lt_size q)) (Heap.get?_push_of_some _ q), e, hi⟩) hn) (fun fin s' h => ?_) (fun e s' h => ?_)
  · cases fin with
    | done f =>
      obtain ⟨e, h', tk, acc, c', rfl, hk, hS', hi⟩ := h
      cases e
      show wpAny _ A (load s.heap.objs.size >>= _) _ _ _
      exact wpAny_bind (wpAny_load hS' (wpAny_pure (hQ h' tk acc hk hi)))
    | again c' =>
      refine ⟨h.1, codeAny_mono h.2 fun rr s'' hr' => ?_⟩
      obtain ⟨rfl, h', tk, acc, c', rfl, hk, hS', hi⟩ := hr'
      show wpAny _ A (load s.heap.objs.size >>= _) _ _ _
      exact wpAny_bind (wpAny_load hS' (wpAny_pure (hQ h' tk acc hk hi)))
  · exact absurd h.1 (by simp)
end
section
variable {X : Cx} {pins : List (Addr × Obj)} {σ : L2.St} {k : Nat} {f : Addr} {fd : FuncData} {ps : List Str} {sp : Sp}
/-- a def called from within a built-in, while some records of that built-in stand by -/
theorem call_pinned (F : FnOk X.prog X.w X.K X.mg X.base CX0 k f fd ps sp) (hr : Room (k + 2) X.A) (hb : Binds X.K fd ps []) {fp : List Addr} {H : Hp} {s : Shared} {v : Value} {x : V} {Q : VK}
    (I : Inv X pins σ H s) (hf : ∀ b ∈ fp, FpOk X pins H b) (ho : ∀ b ∈ fp, ∃ o, s.heap.get? b = some o ∧ ∀ v, o.data ≠ .cell v) (r : RelV x v) (h : sp [x] H Q E0) :
    wpAny (model X.prog X.w) X.A.in1.in1 (call (.ref f) [v]) (fun u s' => ∃ y H', Inv X pins σ H' s' ∧ RelV y u ∧ Q y H' ∧ ∀ b ∈ fp, s'.heap.get? b = s.heap.get? b ∧ H' b = none) (fun _ _ => False) s := by
  have J := I.pinned hf ho
  have hl : ([v] ++ ([] : List Value)).length = ps.length := by
    have z := F.len _ _ _ _ h
    exact z
  have bb := hb s [v] J.kIn hl
  refine wpAny_call (codeAny_mono (F.run X.A.in1.in1 X.stack s H ⟨[v], []⟩ ([v] ++ []) [x] Q E0 hr.in1.in1 J.env0.in1.in1 bb (.cons r .nil) h) fun r s' hq => ?_)
  cases r with
  | error e => exact hq
  | ok fl =>
    cases fl with
    | ret u =>
      obtain ⟨y, H', J', ry, q⟩ := J.after hq
      refine ⟨y, H', J'.unpinned, ry, q, fun b hb => ?_⟩
      obtain ⟨o, e, _⟩ := ho b hb
      have z := J'.pin (b, o) (List.mem_append_right _ (List.mem_append_right _ (mem_pinsAt hb e)))
      exact ⟨z.1.trans e.symm, z.2.1⟩
    | next => exact False.elim hq
    | brk => exact False.elim hq
    | cont => exact False.elim hq
end
end EM

namespace EM
open PySem PySem.Spec PyProof.Rows L2
/-- the key as data -/
def kDat (ns : List Int) : PyData := .tuple (ns.map PyData.int)
theorem alikeAll_ints : ∀ (ns ms : List Int), PySem.W.alikeAll (ns.map PyData.int) (ms.map PyData.int) = true
  | [], ms => by simp [PySem.W.alikeAll]
  | n :: ns, [] => by simp [PySem.W.alikeAll]
  | n :: ns, m :: ms => by
    have ih := alikeAll_ints ns ms
    simp only [List.map_cons, PySem.W.alikeAll, PySem.W.alike, Bool.true_and]
    exact ih
theorem alike_kDat (ns ms : List Int) : PySem.W.alike (kDat ns) (kDat ms) = true := by
  unfold kDat
  simp only [PySem.W.alike]
  exact alikeAll_ints ns ms
theorem readsAll_ints {h : Heap} : ∀ {ns : List Int} {its : List Value}, Vals (ns.map V.int) its → ReadsAll h its (ns.map PyData.int) []
  | [], _, .nil => .nil
  | n :: ns, _, .cons r t => by
    obtain ⟨k, rfl⟩ := r
    have z := ReadsAll.cons (h := h) (Reads.int n k) (readsAll_ints t)
    exact z
theorem reads_tup {X : Cx} {pins : List (Addr × Obj)} {σ : L2.St} {H : Hp} {s : Shared} {t : Addr} {ns : List Int} (I : Inv X pins σ H s) (h : H t = some (.tup (ns.map V.int))) : Reads s.heap (.ref t) (kDat ns) [] := by
  obtain ⟨z, its, r, o, ho, hc, n, hd⟩ := (show ObjOk X.prog X.w H s.heap t (.tup (ns.map V.int)) from I.hok t _ h)
  exact Reads.tuple ho hc hd (by simpa using readsAll_ints r)
theorem same_all {H1 H2 : Hp} (e : Same H1 H2) {b : Addr} (h : H2 b = none) : H1 b = none := e.free h
theorem fpOk_of {X : Cx} {pins : List (Addr × Obj)} {H H' : Hp} {b : Addr} (h : FpOk X pins H b) (hn : H' b = none) : FpOk X pins H' b := ⟨hn, h.2⟩
theorem vals_of_each {xs : List V} {us : List Value} (h : PySem.W.EachIs (fun v x => RelV x v) us xs) : Vals xs us := by
  induction h with
  | nil => exact .nil
  | cons r _ ih => exact .cons r ih
theorem each_of_vals {xs : List V} {us : List Value} (h : Vals xs us) : PySem.W.EachIs (fun v x => RelV x v) us xs := by
  induction h with
  | nil => exact .nil
  | cons r _ ih => exact .cons r ih
theorem get?_freed (h : Heap) (b : Addr) : (h.update b fun o => { o with data := .freed }).get? b = none := by
  cases h with
  | mk objs life =>
    unfold Heap.update Heap.get?
    simp only [Array.getElem?_modify, if_true]
    cases objs[b]? with
    | none => rfl
    | some o => rfl
theorem freed_keeps {h : Heap} {b c : Addr} {o : Obj} (e : (h.update c fun o => { o with data := .freed }).get? b = some o) : h.get? b = some o := by
  by_cases q : b = c
  · subst q
    rw [get?_freed] at e
    cases e
  · rw [Heap.get?_update_ne _ _ _ _ q] at e
    exact e
section
variable {X : Cx} {pins : List (Addr × Obj)} {σ : L2.St} {k : Nat} {f : Addr} {fd : FuncData} {ps : List Str} {sp : Sp}
/-- what f gives as a key, from any heap that holds what H holds -/
def KeyBy (sp : Sp) (H : Hp) (x : V) (ns : List Int) : Prop := ∀ H', Same H H' → ∀ Q : VK, (∀ t H'', Same H' H'' → H'' t = some (.tup (ns.map V.int)) → Q (.ref t) H'') → sp [x] H' Q E0
theorem keyI_rest (F : FnOk X.prog X.w X.K X.mg X.base CX0 k f fd ps sp) (hr : Room (k + 2) X.A) (hb : Binds X.K fd ps []) {a kS : Addr} {e1 : Nat} {vs : List Value} {xs : List V} {key : V → List Int} {H : Hp} {s : Shared}
    {P : PySem.Fin → Shared → Prop} {E : Value → Shared → Prop} (I : Inv X pins σ H s) (fa : FpOk X pins H a) (fk : FpOk X pins H kS) (hka : kS ≠ a)
    (na : s.heap.get? a = some (seqObj "list" #[] e1)) (nk : s.heap.get? kS = some (seqObj "list" #[] 0)) (rv : Vals xs vs) (hZ : vs.length ≤ sizeLine)
    (hkey : ∀ x ∈ xs, KeyBy sp H x (key x)) (hd : ∀ x ∈ xs, ∃ i j l, key x = [i, j, l])
    (h : ∀ H' s' out c, Inv X pins σ H' s' → Same H H' → FpOk X pins H' a → s'.heap.get? a = some (seqObj "list" (List.toArray out) c) → out.length = vs.length →
      Vals (xs.mergeSort (PySem.W.dataLe false fun x => kDat (key x))) out → P (.done (.ret .none)) s') :
    wpAny (model X.prog X.w) X.A.in1.in1 (ksk_rest a (.ref f) false vs.toArray e1 (.ref kS)) P E s := by
  have hlx : xs.length = vs.length := rv.length
  unfold ksk_rest
  refine wpAny_bind (wpAny_rule ?_)
  first
    | rw [List.forIn_toArray]
    | (rw [← Array.forIn_toList]; simp only [List.toList_toArray])
    | rw [← Array.forIn_toList]
  refine wpAny_bind (ksk_fold (fun i s' => ∃ (Hi : Hp) (kA : Array Value) (e : Nat), Inv X pins σ Hi s' ∧ Same H Hi ∧ FpOk X pins Hi a ∧ FpOk X pins Hi kS ∧ s'.heap.get? kS = some (seqObj "list" kA e) ∧ s'.heap.get? a = some (seqObj "list" #[] e1) ∧
      PySem.W.EachIs (fun v ns => ∃ t, v = Value.ref t ∧ Hi t = some (.tup (List.map V.int ns))) kA.toList ((xs.map key).take i)) vs 0 s
    ⟨H, #[], 0, I, Same.refl H, fa, fk, nk, na, by rw [List.take_zero]; exact PySem.W.EachIs.nil⟩ ?step ?done)
  case step =>
    rintro j v s' hv ⟨Hi, kA, e, Ii, si, fai, fki, nki, nai, hk⟩
    simp only [Nat.zero_add] at hk ⊢
    have hj : j < vs.length := (List.getElem?_eq_some_iff.mp hv).1
    obtain ⟨x, hx⟩ : ∃ x, xs[j]? = some x := ⟨_, List.getElem?_eq_getElem (by omega)⟩
    obtain ⟨v', hv', rx⟩ := rv.get hx
    rw [hv] at hv'
    cases hv'
    have hz : kA.size ≤ vs.length := by
      have h1 := hk.length
      rw [Array.length_toList, List.length_take] at h1
      omega
    refine wpAny_bind (wpAny_attempt (wpAny_mono (call_pinned (fp := [kS, a]) F hr hb Ii (fun b hb => ?f1) (fun b hb => ?f2) rx (hkey x (List.mem_of_getElem? hx) Hi si (fun y H' => ∃ t, y = V.ref t ∧ Same Hi H' ∧ H' t = some (.tup ((key x).map V.int))) fun t H'' s2 ht => ⟨t, rfl, s2, ht⟩)) (fun u s'' he => ?_) fun _ _ hF => hF.elim))
    case f1 =>
      rcases List.mem_cons.mp hb with z | z
      · rw [z]; exact fki
      · rw [List.mem_singleton.mp z]; exact fai
    case f2 =>
      rcases List.mem_cons.mp hb with z | z
      · exact ⟨_, by rw [z]; exact nki, fun _ q => by cases q⟩
      · exact ⟨_, by rw [List.mem_singleton.mp z]; exact nai, fun _ q => by cases q⟩
    obtain ⟨y, H', I', ry, ⟨t, rfl, s2, ht⟩, hp⟩ := he
    obtain rfl : u = Value.ref t := ry
    have nk2 : s''.heap.get? kS = some (seqObj "list" kA e) := (hp kS (by simp)).1.trans nki
    have na2 : s''.heap.get? a = some (seqObj "list" #[] e1) := (hp a (by simp)).1.trans nai
    have fk2 : FpOk X pins H' kS := fpOk_of fki (hp kS (by simp)).2
    have fa2 : FpOk X pins H' a := fpOk_of fai (hp a (by simp)).2
    try dsimp only
    have s1 := Heap.SameBut.update s''.heap kS (Obj.mapSeq (·.push (Value.ref t)))
    obtain ⟨c2, hc2⟩ : ∃ c2, (s''.heap.update kS (Obj.mapSeq (·.push (Value.ref t)))).get? kS = some (seqObj "list" (kA.push (Value.ref t)) c2) := ⟨_, get?_update_seq nk2 (·.push (Value.ref t))⟩
    have ek : (xs.map key).take (j + 1) = (xs.map key).take j ++ [key x] := by rw [List.take_add_one, List.getElem?_map, hx]; simp
    have ea : (kA.push (Value.ref t)).toList = kA.toList ++ [Value.ref t] := by simp
    refine wpAny_bind (listUpdate_at nk2 rfl ?_ (Nat.le_trans hz hZ) (Nat.le_trans (Nat.le_of_eq (Array.size_push ..)) (Nat.succ_le_succ (Nat.le_trans hz hZ))))
    have I2 := I'.turnedL (t' := s''.toks) (h' := s''.heap.update kS (Obj.mapSeq (·.push (Value.ref t)))) (ch := [kS]) (fun b o hb e => (s1.2 b (fun z => hb (by simp [z]))).trans e) (fun b hb => by
      rw [List.mem_singleton.mp hb]; exact fk2)
    refine wpAny_pure ⟨rfl, H', kA.push (Value.ref t), c2, I2, si.trans s2, fa2, fk2, hc2, (s1.2 a hka.symm).trans na2, ?_⟩
    rw [ea, ek]
    refine PySem.W.each_snoc ⟨t, rfl, ht⟩ ?_
    exact hk.mono fun v ns ⟨t', e', q⟩ => ⟨t', e', s2 _ _ q⟩
  case done =>
    rintro s' ⟨Hi, kA, e, Ii, si, fai, fki, nki, nai, hk⟩
    have e3 : (xs.map key).take (0 + vs.length) = xs.map key := List.take_of_length_le (by rw [List.length_map]; omega)
    rw [e3] at hk
    have hsz : kA.size = vs.length := by
      have h1 := hk.length
      rw [Array.length_toList, List.length_map] at h1
      omega
    try dsimp only
    refine wpAny_bind (listItems_at nki rfl ?_)
    have hk' : PySem.W.EachIs (fun v d => ∃ as, Reads s'.heap v d as) kA.toList (xs.map fun x => kDat (key x)) := by
      have z : PySem.W.EachIs (fun v ns => ∃ as, Reads s'.heap v (kDat ns) as) kA.toList (xs.map key) := hk.mono fun v ns ⟨t, e', q⟩ => ⟨[], by rw [e']; exact reads_tup Ii q⟩
      have e4 : (xs.map fun x => kDat (key x)) = (xs.map key).map kDat := by rw [List.map_map]; rfl
      rw [e4]
      clear hk hsz e3 e4
      generalize xs.map key = kk at z
      generalize kA.toList = kl at z
      induction z with
      | nil => exact .nil
      | cons r _ ih => exact .cons r ih
    have hal : PySem.W.AllAlike (xs.map fun x => kDat (key x)) := by
      intro d1 h1 d2 h2
      obtain ⟨x1, _, rfl⟩ := List.mem_map.mp h1
      obtain ⟨x2, _, rfl⟩ := List.mem_map.mp h2
      exact alike_kDat _ _
    have hsk : PySem.W.Sortable (xs.map fun x => kDat (key x)) := by
      refine .inl fun d1 h1 => ?_
      obtain ⟨x1, hx1, rfl⟩ := List.mem_map.mp h1
      obtain ⟨i, j, l, e5⟩ := hd x1 hx1
      refine ⟨.int i, [.int j, .int l], ?_⟩
      rw [e5]
      rfl
    have hu : ∀ d, d ∈ (xs.map fun x => kDat (key x)) → X.A.in1.in1.units + d.depth < cLine := by
      intro d1 h1
      obtain ⟨x1, hx1, rfl⟩ := List.mem_map.mp h1
      obtain ⟨i, j, l, e5⟩ := hd x1 hx1
      rw [e5]
      have z : (kDat [i, j, l]).depth ≤ 100 := by
        unfold kDat
        simp [PyData.depth, PyData.depthAll]
      have z2 := hr.un
      show X.A.units + 1 + 1 + _ < cLine
      omega
    have fz : (s'.heap.update kS fun o => { o with data := .freed }).get? kS = none := get?_freed _ _
    have kp : PySem.W.KeepsBut a (s'.heap.update kS fun o => { o with data := .freed }) s'.heap := fun b o _ e => freed_keeps e
    refine PySem.W.keyH_end (κ := PySem.W.dataKind s'.heap (xs.map fun x => kDat (key x))) (h₁ := s'.heap.update kS fun o => { o with data := .freed }) kp fz nki nai hka (PySem.W.SortsAt.data (s := s') hk' hal hsk hu) hsz hZ fun h3 tk3 c k3 n3 => ?_
    have ko : PySem.W.KeyedOut false (xs.map fun x => kDat (key x)) vs (PySem.W.sortVals (PySem.W.dataKind s'.heap (xs.map fun x => kDat (key x))) false kA.toList vs) := ⟨s'.heap, kA.toList, hal, rfl, hk'⟩
    have hout := PySem.W.keyedOut_each (R := fun v x => RelV x v) (fun x => kDat (key x)) ko (each_of_vals rv)
    refine h Hi _ _ c (Ii.turnedL (t' := tk3) (h' := h3) (ch := [kS, a]) (fun b o hb e => ?_) (fun b hb => ?_)) si fai n3 (ko.length (by rw [List.length_map]; exact hlx)) (vals_of_each hout)
    · refine k3 b o (fun z => hb (by simp [z])) ?_
      rw [Heap.get?_update_ne _ _ _ _ (fun z => hb (by simp [z]))]
      exact e
    · rcases List.mem_cons.mp hb with z | z
      · rw [z]; exact fki
      · rw [List.mem_singleton.mp z]; exact fai
end
end EM

namespace EM
open PySem PySem.Spec PyProof.Rows L2
section
variable {X : Cx} {pins : List (Addr × Obj)} {σ : L2.St} {k : Nat} {f : Addr} {fd : FuncData} {ps : List Str} {sp : Sp}
/-- an untracked record of ours is tracked from now on -/
theorem track {H : Hp} {s : Shared} {a : Addr} {o : HO} (I : Inv X pins σ H s) (fa : FpOk X pins H a) (new : ObjOk X.prog X.w (upd H a o) s.heap a o) : Inv X pins σ (upd H a o) s := by
  have ne : ∀ b u, H b = some u → b ≠ a := fun b u e z => by
    rw [z, fa.1] at e
    cases e
  have z := I.step (H' := upd H a o) (h' := s.heap) (g' := s.gens) (t' := s.toks) (d' := s.drawn) (ch := [a])
    (fun b hb => by
      have e : b = a := List.mem_singleton.mp hb
      subst e
      exact ⟨fa.2.2.2.1, fa.2.1, fa.2.2.2.2.1, fa.2.2.2.2.2⟩)
    (fun b ob _ _ _ e _ => e) (fun b ob _ _ _ e _ => ⟨ob.slots, e⟩)
    (fun b ob hb e n => by
      rw [upd_ne (fun q => hb (by simp [q]))]
      exact n)
    (fun b ob _ e => ⟨ob, e⟩)
    (fun b xs e => by
      rw [upd_ne (ne _ _ e)]
      exact e)
    (fun b ob u e => by
      rw [upd_ne (ne _ _ e)]
      exact e)
    (fun b ps e => ⟨#[], by
      rw [upd_ne (ne _ _ e), e]
      simp⟩)
    (fun m hm => hm)
    (fun b u e => by
      by_cases hb : b = a
      · subst hb
        rw [upd_same] at e
        cases e
        exact new
      · rw [upd_ne hb] at e
        exact (I.hok b u e).stay (fun c v _ q => q) (fun c q => by
          rw [upd_ne (ne _ _ q)]
          exact q) fun c xs q => by
          rw [upd_ne (ne _ _ q)]
          exact q)
    I.bare
  exact z
theorem keyI_tree (F : FnOk X.prog X.w X.K X.mg X.base CX0 k f fd ps sp) (hr : Room (k + 2) X.A) (hb : Binds X.K fd ps []) {a : Addr} {n : Nat} {vs : List Value} {xs : List V} {key : V → List Int} {H : Hp} {s : Shared}
    {P : PySem.Fin → Shared → Prop} {E : Value → Shared → Prop} (I : Inv X pins σ H s) (fa : FpOk X pins H a) (ho : s.heap.get? a = some (seqObj "list" vs.toArray n)) (rv : Vals xs vs) (hZ : vs.length ≤ sizeLine)
    (hkey : ∀ x ∈ xs, KeyBy sp H x (key x)) (hd : ∀ x ∈ xs, ∃ i j l, key x = [i, j, l])
    (h : ∀ H' s' out c, Inv X pins σ H' s' → Same H H' → FpOk X pins H' a → s'.heap.get? a = some (seqObj "list" (List.toArray out) c) → out.length = vs.length →
      Vals (xs.mergeSort (PySem.W.dataLe false fun x => kDat (key x))) out → P (.done (.ret .none)) s') :
    wpAny (model X.prog X.w) X.A.in1.in1 (ksk_tree a (.ref f) false) P E s := by
  obtain ⟨e1, ho1⟩ : ∃ e1, (s.heap.update a (Obj.mapSeq fun _ => (#[] : Array Value))).get? a = some (seqObj "list" #[] e1) := ⟨_, get?_update_seq ho fun _ => #[]⟩
  have sb := Heap.SameBut.update s.heap a (Obj.mapSeq fun _ => (#[] : Array Value))
  have I1 := I.turnedL (t' := s.toks) (h' := s.heap.update a (Obj.mapSeq fun _ => (#[] : Array Value))) (ch := [a]) (fun b o hb e => (sb.2 b (fun z => hb (by simp [z]))).trans e) (fun b hb => by
    rw [List.mem_singleton.mp hb]
    exact fa)
  unfold ksk_tree
  refine wpAny_bind (listItems_at ho rfl ?_)
  refine wpAny_bind (listUpdate_at ho rfl ?_ (by rw [List.size_toArray]; exact hZ) (Nat.zero_le _))
  refine wpAny_bind (seqEpoch_at ho1 rfl ?_)
  refine wpAny_bind (wpAny_newTuple ?_ (by show vs.length ≤ _; exact hZ))
  refine wpAny_bind (wpAny_newList ?_ (Nat.zero_le _))
  refine wpAny_holding ?_
  have hlt : a < (s.heap.update a (Obj.mapSeq fun _ => (#[] : Array Value))).objs.size := Heap.lt_size ho1
  have hle : (s.heap.update a (Obj.mapSeq fun _ => (#[] : Array Value))).objs.size ≤ ((s.heap.update a (Obj.mapSeq fun _ => (#[] : Array Value))).push (seqObj "tuple" vs.toArray 0)).objs.size := by
    rw [size_push']
    exact Nat.le_succ _
  have I2 := I1.kept (t' := s.toks) (h' := ((s.heap.update a (Obj.mapSeq fun _ => (#[] : Array Value))).push (seqObj "tuple" vs.toArray 0)).push (seqObj "list" #[] 0)) (fun b u e => Heap.get?_push_of_some _ (Heap.get?_push_of_some _ e))
  exact keyI_rest (e1 := e1) (kS := ((s.heap.update a (Obj.mapSeq fun _ => (#[] : Array Value))).push (seqObj "tuple" vs.toArray 0)).objs.size) F hr hb I2 fa (I1.fpOk hle (I1.hok.fresh hle)) (Nat.ne_of_gt (Nat.lt_of_lt_of_le hlt hle))
    (Heap.get?_push_of_some _ (Heap.get?_push_of_some _ ho1)) (Heap.get?_push_size _ rfl) rv hZ hkey hd h
/-- sorted(view, key=f): the items by their keys, those with equal keys in their old order -/
def rSortedBy (f : Addr) (sp : Sp) : List V → List V → Hp → VK → Prop := fun vs zs H Q => ∃ (p a : Addr) (kvs : List (Key × V)) (key : V → List Int), vs = [V.ref p] ∧ zs = [V.ref f] ∧ H p = some (viewO "dict_values" p a) ∧ Rd H a (.dK kvs) ∧
  (∀ x ∈ kvs.map (·.2), KeyBy sp H x (key x)) ∧ (∀ x ∈ kvs.map (·.2), ∃ i j l, key x = [i, j, l]) ∧
  ∀ (H' : Hp) (q : Addr), Same H H' → H' q = none → Q (.ref q) (upd H' q (.lst ((kvs.map (·.2)).mergeSort (PySem.W.dataLe false fun x => kDat (key x)))))
theorem cr_sortedBy (F : FnOk X.prog X.w X.K X.mg X.base CX0 k f fd ps sp) (hr : Room (k + 2) X.A) (hb : Binds X.K fd ps []) (hc : X.calm = true := by rfl) : CallRK X (.builtin "sorted") [Str.ofString "key"] (rSortedBy f sp) := by
  intro pins s σ H vs zs us ws Q I r rz h
  obtain ⟨p, a, kvs, key, rfl, rfl, hp, hd, hkey, h3, q⟩ := h
  obtain rfl := Vals.ref1 r
  obtain ⟨w1, rfl, e1⟩ := vals1 rz
  obtain rfl : w1 = Value.ref f := e1
  have hv : s.heap.get? p = some (DSub.viewOb "dict_values" a) := (show ObjOk X.prog X.w H s.heap p (viewO "dict_values" p a) from I.hok p _ hp).1
  obtain ⟨hlen, hsys, ws, rel, dof⟩ := dk_rd I.hok hd
  obtain ⟨ep, hat⟩ := dof.dictAt
  have hl : kvs.length = ws.length := Paired.length rel
  refine call_function_entry_kw kind_sorted plain_sorted entry_sorted (ksk_s1 _ _) ?_
  unfold Builtin.«sorted»
  refine wpAny_bind (m := checkCount "sorted" 1 1 _) (wpAny_pure ?_)
  refine wpAny_bind (collect_src (A := X.A.in1) (PySem.W.kdl_values (knd := mixKind X.prog X.w) (kvs := ws) (ep := ep) (r := p) (d := a)) (I.ok.hd hc) ⟨⟨_, hv, rfl, rfl⟩, hat⟩ (by rw [← hl]; exact hlen) fun h1 tk acc hk hacc => ?_)
  have rv : Vals (kvs.map (·.2)) acc.toList := by
    have el : acc.toList.length = acc.size := by simp
    refine vals_of_at (by rw [List.length_map, el, hacc.1, hl]) fun j x w i1 i2 => ?_
    obtain ⟨k, hky⟩ := hacc.2 j w (by rw [← Array.getElem?_toList]; exact i2)
    obtain ⟨y, e1, e2⟩ := KV.at' rel hky
    rw [List.getElem?_map, e1] at i1
    cases i1
    exact e2
  have hL : acc.toList.length ≤ sizeLine := by
    rw [← rv.length, List.length_map]
    exact hlen
  refine wpAny_bind (wpAny_newList ?_ hL)
  have I1 := I.kept (t' := tk) hk
  have fa : FpOk X pins H h1.objs.size := I1.fpOk (Nat.le_refl _) (I1.hok.fresh (Nat.le_refl _))
  have I2 := I1.kept (t' := tk) (h' := h1.push (seqObj "list" acc.toList.toArray 0)) (fun b u e => Heap.get?_push_of_some _ e)
  have hat2 : (h1.push (seqObj "list" acc.toList.toArray 0)).get? h1.objs.size = some (seqObj "list" acc.toList.toArray 0) := Heap.get?_push_size _ rfl
  refine wpAny_bind (wpAny_holding (wpAny_call_entry_kw slot_list_sort ⟨_, hat2, rfl⟩ entry_list_sort ?_ (ksk_l1 _ _)))
  show wpAny (model X.prog X.w) X.A.in1.in1 (ksk_tree h1.objs.size (.ref f) false) _ _ _
  refine keyI_tree F hr hb I2 fa hat2 rv hL hkey h3 fun H' s' out c I3 sm fa3 hget hol hvals => ⟨_, rfl, wpAny_pure ⟨_, rfl, ?_⟩⟩
  refine ⟨.ref h1.objs.size, upd H' h1.objs.size (.lst ((kvs.map (·.2)).mergeSort (PySem.W.dataLe false fun x => kDat (key x)))), track I3 fa3 ?_, rfl, q H' _ sm fa3.1⟩
  refine ⟨?_, out, c, hvals, hget⟩
  rw [hvals.length, hol]
  exact hL
end
end EM

namespace EM
open PySem PySem.Spec PyProof.Rows L2
/-- the i-th statement of the program -/
def top (i : Nat) : Stmt := PySem.Challenge.pw_evenmatches_s01_answers.main.body.getD i (.Pass ⟨0, 0, 0, 0⟩)
/-! ### a def as it stands behind the top; a def that keeps a promise -/
structure Def (K : PySem.W.Frag) (mg : Str → Option Value) (x : Str) (st : Stmt) (ps : List Str) : Prop where
  ex : ∃ f fd, Fun K x x st f fd ∧ mg x = some (.ref f) ∧ Binds K fd ps []
structure Has (P : Program) (w : World) (K : PySem.W.Frag) (mg : Str → Option Value) (base : Heap) (k : Nat) (x : Str) (ps : List Str) (sp : Sp) : Prop where
  ex : ∃ f fd, mg x = some (.ref f) ∧ PySem.W.keepIn K (.ref f) = true ∧ Binds K fd ps [] ∧ FnOk P w K mg base CX0 k f fd ps sp
/-- a method of the class at C -/
structure DefM (K : PySem.W.Frag) (C : Addr) (m qual : Str) (st : Stmt) (ps : List Str) : Prop where
  ex : ∃ f fd, Fun K m qual st f fd ∧ Meth K C m f ∧ Binds K fd ps []
  cl : Cls K C
structure HasM (P : Program) (w : World) (K : PySem.W.Frag) (mg : Str → Option Value) (base : Heap) (k : Nat) (C : Addr) (m : Str) (ps : List Str) (sp : Sp) : Prop where
  ex : ∃ f fd, Meth K C m f ∧ Binds K fd ps [] ∧ FnOk P w K mg base CX0 k f fd ps sp
  cl : Cls K C
/-- a class that is made by its __init__ -/
structure HasC (P : Program) (w : World) (K : PySem.W.Frag) (mg : Str → Option Value) (base : Heap) (k : Nat) (x : Str) (C : Addr) (ps : List Str) (sp : Sp) : Prop where
  ex : ∃ f fd, Mk K C f ∧ mg x = some (.ref C) ∧ Binds K fd ps [] ∧ FnOk P w K mg base CX0 k f fd ps sp
section
variable {P : Program} {w : World} {K : PySem.W.Frag} {mg : Str → Option Value} {base : Heap}
theorem Def.has {x : Str} {st : Stmt} {N ps : List Str} {k : Nat} {sp : Sp} (D : Def K mg x st ps) (S : FnScope N ps (defScope st)) (len : ∀ vs H Q E, sp vs H Q E → vs.length = ps.length)
    (hbody : ∀ (f : Addr) (cdv : Value) (A : Around) (outer : List Env) (s : Shared) (H : Hp) (vs : List V) (Q : VK) (E : XK), Room k (A.deeper (envOfC x (defScope st) s.heap.objs.size f cdv)) → sp vs H Q E →
      ∃ t, PSs (cxOf CX0 P w K mg base N x (defScope st) f cdv A outer s H E).nox (defBody st) t ∧ t { nx := fun _ H' => Q .non H', rt := Q } (start N vs) H) : Has P w K mg base (k + 1) x ps sp := by
  obtain ⟨f, fd, F, m, b⟩ := D.ex
  exact ⟨f, fd, m, F.kp, b, F.ok S len (hbody f)⟩
theorem DefM.has {C : Addr} {m qual : Str} {st : Stmt} {N ps : List Str} {k : Nat} {sp : Sp} (D : DefM K C m qual st ps) (S : FnScope N ps (defScope st)) (len : ∀ vs H Q E, sp vs H Q E → vs.length = ps.length)
    (hbody : ∀ (f : Addr) (cdv : Value) (A : Around) (outer : List Env) (s : Shared) (H : Hp) (vs : List V) (Q : VK) (E : XK), Room k (A.deeper (envOfC qual (defScope st) s.heap.objs.size f cdv)) → sp vs H Q E →
      ∃ t, PSs (cxOf CX0 P w K mg base N qual (defScope st) f cdv A outer s H E).nox (defBody st) t ∧ t { nx := fun _ H' => Q .non H', rt := Q } (start N vs) H) : HasM P w K mg base (k + 1) C m ps sp := by
  obtain ⟨f, fd, F, hm, b⟩ := D.ex
  exact ⟨⟨f, fd, hm, b, F.ok S len (hbody f)⟩, D.cl⟩
theorem DefM.hasC {C : Addr} {x qual : Str} {st : Stmt} {N ps : List Str} {k : Nat} {sp : Sp} (D : DefM K C "__init__" qual st ps) (mk : PySem.W.makesIn K C = true) (kc : PySem.W.keepIn K (.ref C) = true) (gC : mg x = some (.ref C))
    (S : FnScope N ps (defScope st)) (len : ∀ vs H Q E, sp vs H Q E → vs.length = ps.length)
    (hbody : ∀ (f : Addr) (cdv : Value) (A : Around) (outer : List Env) (s : Shared) (H : Hp) (vs : List V) (Q : VK) (E : XK), Room k (A.deeper (envOfC qual (defScope st) s.heap.objs.size f cdv)) → sp vs H Q E →
      ∃ t, PSs (cxOf CX0 P w K mg base N qual (defScope st) f cdv A outer s H E).nox (defBody st) t ∧ t { nx := fun _ H' => Q .non H', rt := Q } (start N vs) H) : HasC P w K mg base (k + 1) x C ps sp := by
  obtain ⟨f, fd, F, hm, b⟩ := D.ex
  exact ⟨f, fd, ⟨mk, hm.at_, hm.fn, kc⟩, gC, b, F.ok S len (hbody f)⟩
end
section
variable {X : Cx} {k : Nat} {C : Addr} {x m : Str} {ps : List Str} {sp : Sp} {p pos apos : Pos} {e o : Expr} {es : List Expr} {t : TA} {ta : TE}
theorem pe_has (G : Has X.prog X.w X.K X.mg X.base k x ps sp) (hr : Room k X.A) (hg : Gl X x) (ha : PA X (e :: es) t) (hdb : (x == ("__debug__" : Str)) = false := by decide)
    (he : starEach (e :: es) X.env = (false, eval e X.env) :: starEach es X.env := by rfl) (hpl : (backTo pos (starEach es X.env)).any (·.1) = false := by rfl) :
    PE X (.Call (.Name x p) (e :: es) [] pos) (tCall sp [] E0 t) := by
  obtain ⟨f, fd, m, kp, b, F⟩ := G.ex
  exact pe_call F hr hg m kp b .nil pass0 ha hdb he hpl
theorem pe_has0 (G : Has X.prog X.w X.K X.mg X.base k x ps sp) (hr : Room k X.A) (hg : Gl X x) (hdb : (x == ("__debug__" : Str)) = false := by decide) : PE X (.Call (.Name x p) [] [] pos) (tCall sp [] E0 tNil) := by
  obtain ⟨f, fd, m, kp, b, F⟩ := G.ex
  exact pe_call0 F hr hg m kp b .nil pass0 hdb
theorem pe_hasM {pl : Sem Bool} (he : PE X o ta) (G : HasM X.prog X.w X.K X.mg X.base k C m ps sp) (hr : Room k X.A) (ha : PA X (e :: es) t)
    (hst : starEach (e :: es) X.env = (false, eval e X.env) :: starEach es X.env := by rfl) (hpl : (backTo pos (starEach es X.env)).any (·.1) = false := by rfl)
    (ht : eval (.Call (.Attribute o m apos) (e :: es) [] pos) X.env = (do
      let ov ← eval o X.env
      standAt apos.atName
      let (f, first) ← holding [ov] (getMethod ov m pl)
      callWith pos f first (backTo pos (starEach (e :: es) X.env)) (backToKw pos (keywordEach [] X.env))) := by rfl) :
    PE X (.Call (.Attribute o m apos) (e :: es) [] pos) (tMeth C m sp [] E0 ta t) := by
  obtain ⟨f, fd, hm, b, F⟩ := G.ex
  exact pe_meth he G.cl hm F hr b .nil pass0 ha hst hpl ht
theorem pe_hasM0 {pl : Sem Bool} (he : PE X o ta) (G : HasM X.prog X.w X.K X.mg X.base k C m ps sp) (hr : Room k X.A)
    (ht : eval (.Call (.Attribute o m apos) [] [] pos) X.env = (do
      let ov ← eval o X.env
      standAt apos.atName
      let (f, first) ← holding [ov] (getMethod ov m pl)
      callWith pos f first (backTo pos (starEach [] X.env)) (backToKw pos (keywordEach [] X.env))) := by rfl) :
    PE X (.Call (.Attribute o m apos) [] [] pos) (tMeth C m sp [] E0 ta tNil) := by
  obtain ⟨f, fd, hm, b, F⟩ := G.ex
  exact pe_meth0 he G.cl hm F hr b .nil pass0 ht
theorem pe_hasC (G : HasC X.prog X.w X.K X.mg X.base k x C ps sp) (hr : Room (k + 1) X.A) (hg : Gl X x) (ha : PA X (e :: es) t) (hdb : (x == ("__debug__" : Str)) = false := by decide)
    (he : starEach (e :: es) X.env = (false, eval e X.env) :: starEach es X.env := by rfl) (hpl : (backTo pos (starEach es X.env)).any (·.1) = false := by rfl) :
    PE X (.Call (.Name x p) (e :: es) [] pos) (tMake C sp [] E0 t) := by
  obtain ⟨f, fd, M, gC, b, F⟩ := G.ex
  exact pe_make M F hr hg gC b .nil pass0 ha hdb he hpl
theorem pe_hasC0 (G : HasC X.prog X.w X.K X.mg X.base k x C ps sp) (hr : Room (k + 1) X.A) (hg : Gl X x) (hdb : (x == ("__debug__" : Str)) = false := by decide) : PE X (.Call (.Name x p) [] [] pos) (tMake C sp [] E0 tNil) := by
  obtain ⟨f, fd, M, gC, b, F⟩ := G.ex
  exact pe_make0 M F hr hg gC b .nil pass0 hdb
/-- the def as a value -/
theorem pe_hasV {f : Addr} (hm : X.mg x = some (.ref f)) (hg : Gl X x) (hd : (x == ("__debug__" : Str)) = false := by decide) : PE X (.Name x pos) (tC (.ref f)) := pe_glob hg hm rfl hd
end
/-! ### what the top has written: constants, and the names that stay the built-in ones -/
structure Txt (mg : Str → Option Value) : Prop where
  TOP : ∃ t, mg "TOP" = some (.int 10000000 t)
  len : mg "len" = none
  max : mg "max" = none
  min : mg "min" = none
  abs : mg "abs" = none
  sum : mg "sum" = none
  any : mg "any" = none
  all : mg "all" = none
  list : mg "list" = none
  set : mg "set" = none
  sorted : mg "sorted" = none
  range : mg "range" = none
  enumerate : mg "enumerate" = none
end EM
namespace EM
open PySem PySem.Spec PyProof.Rows L2
theorem pe_const {X : Cx} {x : Str} {i : Int} {pos : Pos} (h : ∃ t, X.mg x = some (.int i t)) (hg : Gl X x) (hd : (x == ("__debug__" : Str)) = false := by decide) : PE X (.Name x pos) (tC (.int i)) := by
  obtain ⟨t, h⟩ := h
  exact pe_glob hg h ⟨t, rfl⟩ hd
def tSortedBy (sp : Sp) (te : TE) : TE := fun σ H Q => te σ H fun x H1 => ∃ (p a : Addr) (kvs : List (Key × V)) (key : V → List Int), x = V.ref p ∧ H1 p = some (viewO "dict_values" p a) ∧ Rd H1 a (.dK kvs) ∧
  (∀ x ∈ kvs.map (·.2), KeyBy sp H1 x (key x)) ∧ (∀ x ∈ kvs.map (·.2), ∃ i j l, key x = [i, j, l]) ∧
  ∀ (H' : Hp) (q : Addr), Same H1 H' → H' q = none → Q (.ref q) (upd H' q (.lst ((kvs.map (·.2)).mergeSort (PySem.W.dataLe false fun x => kDat (key x)))))
theorem pe_sortedBy {X : Cx} {k : Nat} {y : Str} {ps : List Str} {sp : Sp} {p q pos kpos : Pos} {e : Expr} {te : TE} (G : Has X.prog X.w X.K X.mg X.base k y ps sp) (hr : Room (k + 2) X.A) (hg : Gl X "sorted") (hg2 : Gl X y) (hm : X.mg "sorted" = none) (he : PE X e te)
    (hc : X.calm = true := by rfl) (hd : (y == ("__debug__" : Str)) = false := by decide)
    (h0 : starEach [e] X.env = (false, eval e X.env) :: starEach [] X.env := by rfl) (h1 : backTo pos (starEach [e] X.env) = (false, eval e X.env) :: backTo pos (starEach [] X.env) := by rfl) (hpl : (backTo pos (starEach [e] X.env)).any (·.1) = false := by rfl)
    (hall : (backToKw pos (keywordEach [⟨some "key", .Name y q, kpos⟩] X.env)).all (·.1.isSome) = true := by rfl) (hnone : (backToKw pos (keywordEach [⟨some "key", .Name y q, kpos⟩] X.env)).any (·.1.isNone) = false := by rfl)
    (hks : (backToKw pos (keywordEach [⟨some "key", .Name y q, kpos⟩] X.env)).filterMap (·.1) = [Str.ofString "key"] := by rfl) :
    PE X (.Call (.Name "sorted" p) [e] [⟨some "key", .Name y q, kpos⟩] pos) (tSortedBy sp te) := by
  obtain ⟨f, fd, m, kp, b, F⟩ := G.ex
  have z := pe_callBK (p := p) (pos := pos) (cr_sortedBy F hr b hc) hg hm (by decide +kernel) (pa_cons he pa_nil h0) (pk_cons (nm := some "key") (kpos := kpos) (pe_hasV (pos := q) m hg2 hd) pk_nil) (by decide) (by decide) h1 hpl hall hnone hks
  refine ⟨fun pins s σ H Q I h => z.run pins s σ H Q I ?_⟩
  have h' : te σ H fun x H1 => tCons (tC (.ref f)) tNil σ H1 fun zs H2 => rSortedBy f sp [x] zs H2 Q := by
    have e0 : (fun (x : V) (H1 : Hp) => tCons (tC (.ref f)) tNil σ H1 fun zs H2 => rSortedBy f sp [x] zs H2 Q) = fun x H1 => ∃ (p a : Addr) (kvs : List (Key × V)) (key : V → List Int), x = V.ref p ∧ H1 p = some (viewO "dict_values" p a) ∧ Rd H1 a (.dK kvs) ∧
        (∀ x ∈ kvs.map (·.2), KeyBy sp H1 x (key x)) ∧ (∀ x ∈ kvs.map (·.2), ∃ i j l, key x = [i, j, l]) ∧
        ∀ (H' : Hp) (q : Addr), Same H1 H' → H' q = none → Q (.ref q) (upd H' q (.lst ((kvs.map (·.2)).mergeSort (PySem.W.dataLe false fun x => kDat (key x))))) := by
      funext x H1
      apply propext
      show (∃ (p a : Addr) (kvs : List (Key × V)) (key : V → List Int), [x] = [V.ref p] ∧ [V.ref f] = [V.ref f] ∧ _) ↔ _
      constructor
      · rintro ⟨p, a, kvs, key, e1, _, r⟩
        exact ⟨p, a, kvs, key, by simpa using e1, r⟩
      · rintro ⟨p, a, kvs, key, e1, r⟩
        exact ⟨p, a, kvs, key, by rw [e1], rfl, r⟩
    rw [e0]
    exact h
  exact h'
end EM

namespace EM
open PySem PySem.Spec PyProof.Rows L2 Evl
/-! ### readings: fields, comprehensions over typed lists, loops -/
theorem lk_here {k : Str} {v : V} {r : List (Str × V)} : List.lookup k ((k, v) :: r) = some v := by
  have e : (k == k) = true := beq_self_eq_true k
  simp only [List.lookup, e]
theorem lk_past {k g : Str} {v : V} {r : List (Str × V)} (h : (k == g) = false) : List.lookup k ((g, v) :: r) = List.lookup k r := by
  simp only [List.lookup, h]
theorem pf_here {f : Str} {v x : V} {r : List (Str × V)} : putF f v ((f, x) :: r) = (f, v) :: r := if_pos rfl
theorem pf_past {f g : Str} {v x : V} {r : List (Str × V)} (h : ¬ g = f) : putF f v ((g, x) :: r) = (g, x) :: putF f v r := if_neg h
theorem lookup_mem {f : Str} {v : V} : ∀ {fs : List (Str × V)}, fs.lookup f = some v → f ∈ fs.map (·.1)
  | [], h => by simp [List.lookup] at h
  | (g, x) :: r, h => by
    by_cases e : (f == g) = true
    · have e' : f = g := eq_of_beq e
      subst e'
      simp
    · have e' : (f == g) = false := by simpa using e
      rw [lk_past e'] at h
      exact List.mem_cons_of_mem _ (lookup_mem h)
structure ClsN (K : PySem.W.Frag) (C : Addr) (names : List Str) : Prop where
  cl : Cls K C
  na : ∀ f ∈ names, NoAttr K C f
section
variable {K : PySem.W.Frag} {σ : L2.St} {H H' : Hp} {ta tb te tx : TE} {t u : TT} {x y z v : V}
theorem ev_fld {a C dx : Addr} {fs : List (Str × V)} {f : Str} (N : ClsN K C (fs.map (·.1))) (ha : Ev ta σ H (.ref a)) (h : H a = some (.ins C dx fs)) (l : fs.lookup f = some v) : Ev (tFld K ta f) σ H v := fun H1 e Q q =>
  ha H1 e _ fun H2 e2 => ⟨a, C, dx, fs, v, rfl, (e.trans e2) _ _ h, N.cl, N.na _ (lookup_mem l), l, q H2 e2⟩
/-- a part of a list, and what a comprehension makes of it -/
theorem given_take {α : Type} {l : List α} {p : α → Bool} {g : α → V} : ∀ k, k ≤ l.length → given k (fun i => (l[i]?).elim true p) (fun i => (l[i]?).elim .non g) = ((l.take k).filter p).map g
  | 0, _ => rfl
  | k + 1, hk => by
    have hlt : k < l.length := hk
    have e1 : l.take (k + 1) = l.take k ++ [l[k]] := by
      rw [List.take_add_one, List.getElem?_eq_getElem hlt] <;> rfl
    have e2 : (l[k]?).elim true p = p l[k] := by rw [List.getElem?_eq_getElem hlt]; rfl
    have e3 : (l[k]?).elim V.non g = g l[k] := by rw [List.getElem?_eq_getElem hlt]; rfl
    have ih := given_take (l := l) (p := p) (g := g) k (Nat.le_of_lt hlt)
    rw [e1, List.filter_append, List.map_append]
    cases hp : p l[k] with
    | true =>
      rw [given_yes (by rw [e2]; exact hp), ih, e3]
      simp [hp]
    | false =>
      rw [given_no (by rw [e2]; exact hp), ih]
      simp [hp]
/-- [e for x in xs if t], xs a list of what stands for the items of l -/
theorem el_lcT {α : Type} {a : Addr} {tl : TE} {j : Nat} {vs : List Nat} {l : List α} (r : α → V) (p : α → Bool) (g : α → V) (h : Ev tl σ H (.ref a)) (hx : SqL K H a (l.map r)) (hz : l.length ≤ 40000) (hw : ∀ x, wipe ((wipe σ vs).set j (some x)) vs = wipe σ vs)
    (ht : ∀ y ∈ l, ∀ H1, Ex H H1 → EvT t ((wipe σ vs).set j (some (r y))) H1 (p y)) (he : ∀ y ∈ l, p y = true → ∀ H1, Ex H H1 → Ev te ((wipe σ vs).set j (some (r y))) H1 (g y)) :
    EvL (tLc (iList K tl) (gName j) t te vs) σ H ((l.filter p).map g) := by
  have z := el_lcL (K := K) (t := t) (te := te) (j := j) (vs := vs) (fun i => (l[i]?).elim true p) (fun i => (l[i]?).elim .non g) h hx (by rw [List.length_map]; exact hz) hw
    (fun i x H1 e hi => by
      rw [List.getElem?_map] at hi
      cases q : l[i]? with
      | none => rw [q] at hi; cases hi
      | some y =>
        rw [q] at hi
        cases hi
        exact ht y (List.mem_of_getElem? q) H1 e)
    (fun i x H1 e hi hf => by
      rw [List.getElem?_map] at hi
      cases q : l[i]? with
      | none => rw [q] at hi; cases hi
      | some y =>
        rw [q] at hi hf
        cases hi
        exact he y (List.mem_of_getElem? q) hf H1 e)
  rw [List.length_map, given_take l.length (Nat.le_refl _), List.take_length] at z
  exact z
theorem et_yes {σ : L2.St} {H : Hp} : EvT tYes σ H true := fun H1 _ _ q => q H1 (Ex.refl H1)
theorem el_mapT {α : Type} {a : Addr} {tl : TE} {j : Nat} {vs : List Nat} {l : List α} (r g : α → V) (h : Ev tl σ H (.ref a)) (hx : SqL K H a (l.map r)) (hz : l.length ≤ 40000) (hw : ∀ x, wipe ((wipe σ vs).set j (some x)) vs = wipe σ vs)
    (he : ∀ y ∈ l, ∀ H1, Ex H H1 → Ev te ((wipe σ vs).set j (some (r y))) H1 (g y)) :
    EvL (tLc (iList K tl) (gName j) tYes te vs) σ H (l.map g) := by
  have z := el_lcT (K := K) (t := tYes) (te := te) (j := j) (vs := vs) r (fun _ => true) g h hx hz hw (fun _ _ _ _ => et_yes) (fun y hy _ => he y hy)
  rw [List.filter_eq_self.mpr (fun _ _ => rfl)] at z
  exact z
/-- the same over a list that was made on the spot -/
theorem el_lcNT {α : Type} {tl : TE} {j : Nat} {vs : List Nat} {l : List α} (r : α → V) (p : α → Bool) (g : α → V) (h : EvL tl σ H (l.map r)) (hz : l.length ≤ 40000) (hw : ∀ x, wipe ((wipe σ vs).set j (some x)) vs = wipe σ vs)
    (ht : ∀ y ∈ l, ∀ H1, Ex H H1 → EvT t ((wipe σ vs).set j (some (r y))) H1 (p y)) (he : ∀ y ∈ l, p y = true → ∀ H1, Ex H H1 → Ev te ((wipe σ vs).set j (some (r y))) H1 (g y)) :
    EvL (tLc (iList K tl) (gName j) t te vs) σ H ((l.filter p).map g) := by
  have z := el_lcNL (K := K) (t := t) (te := te) (j := j) (vs := vs) (fun i => (l[i]?).elim true p) (fun i => (l[i]?).elim .non g) h (by rw [List.length_map]; exact hz) hw
    (fun i x H1 e hi => by
      rw [List.getElem?_map] at hi
      cases q : l[i]? with
      | none => rw [q] at hi; cases hi
      | some y =>
        rw [q] at hi
        cases hi
        exact ht y (List.mem_of_getElem? q) H1 e)
    (fun i x H1 e hi hf => by
      rw [List.getElem?_map] at hi
      cases q : l[i]? with
      | none => rw [q] at hi; cases hi
      | some y =>
        rw [q] at hi hf
        cases hi
        exact he y (List.mem_of_getElem? q) hf H1 e)
  rw [List.length_map, given_take l.length (Nat.le_refl _), List.take_length] at z
  exact z
theorem el_mapNT {α : Type} {tl : TE} {j : Nat} {vs : List Nat} {l : List α} (r g : α → V) (h : EvL tl σ H (l.map r)) (hz : l.length ≤ 40000) (hw : ∀ x, wipe ((wipe σ vs).set j (some x)) vs = wipe σ vs)
    (he : ∀ y ∈ l, ∀ H1, Ex H H1 → Ev te ((wipe σ vs).set j (some (r y))) H1 (g y)) :
    EvL (tLc (iList K tl) (gName j) tYes te vs) σ H (l.map g) := by
  have z := el_lcNT (K := K) (t := tYes) (te := te) (j := j) (vs := vs) r (fun _ => true) g h hz hw (fun _ _ _ _ => et_yes) (fun y hy _ => he y hy)
  rw [List.filter_eq_self.mpr (fun _ _ => rfl)] at z
  exact z
theorem rl_cat {a b : Addr} {xs ys : List V} (ha : H a = some (.lst xs)) (hb : H b = some (.lst ys)) (hz : xs.length + ys.length ≤ 100000) : ∀ H1, Ex H H1 → ∀ Q : VK, (∀ p H2, H1 p = none → Ex H1 H2 → H2 p = some (.lst (xs ++ ys)) → Q (.ref p) H2) → rCat (.ref a) (.ref b) H1 Q :=
  fun H1 e Q q => ⟨a, b, xs, ys, rfl, rfl, e _ _ ha, e _ _ hb, sz_of hz, fun p hp => q p _ hp (Ex.new hp) upd_same⟩
/-- a + b, two lists that stand there; two made on the spot; one of each -/
theorem el_cat {a b : Addr} {xs ys : List V} (ha : Ev ta σ H (.ref a)) (hb : Ev tb σ H (.ref b)) (h1 : H a = some (.lst xs)) (h2 : H b = some (.lst ys)) (hz : xs.length + ys.length ≤ 100000) : EvL (tOp rCat ta tb) σ H (xs ++ ys) := fun H1 e Q q =>
  ha H1 e _ fun H2 e2 => hb H2 (e.trans e2) _ fun H3 e3 => rl_cat (H := H3) (((e.trans e2).trans e3) _ _ h1) (((e.trans e2).trans e3) _ _ h2) hz H3 (Ex.refl _) Q fun p H4 hp e4 h4 => q p H4 (fresh_back (e2.trans e3) hp) ((e2.trans e3).trans e4) h4
theorem el_catL {b : Addr} {xs ys : List V} (ha : EvL ta σ H xs) (hb : Ev tb σ H (.ref b)) (h2 : H b = some (.lst ys)) (hz : xs.length + ys.length ≤ 100000) : EvL (tOp rCat ta tb) σ H (xs ++ ys) := fun H1 e Q q =>
  ha H1 e _ fun a H2 _ e2 h1 => hb H2 (e.trans e2) _ fun H3 e3 => rl_cat (H := H3) (e3 _ _ h1) (((e.trans e2).trans e3) _ _ h2) hz H3 (Ex.refl _) Q fun p H4 hp e4 h4 => q p H4 (fresh_back (e2.trans e3) hp) ((e2.trans e3).trans e4) h4
theorem el_catLL {xs ys : List V} (ha : EvL ta σ H xs) (hb : EvL tb σ H ys) (hz : xs.length + ys.length ≤ 100000) : EvL (tOp rCat ta tb) σ H (xs ++ ys) := fun H1 e Q q =>
  ha H1 e _ fun a H2 _ e2 h1 => hb H2 (e.trans e2) _ fun b H3 _ e3 h2 => rl_cat (H := H3) (e3 _ _ h1) h2 hz H3 (Ex.refl _) Q fun p H4 hp e4 h4 => q p H4 (fresh_back (e2.trans e3) hp) ((e2.trans e3).trans e4) h4
/-- a list display as a place's value -/
theorem RetL.mono {xs : List V} {Q : VK} (k : RetL xs H Q) (e : Ex H H') : RetL xs H' Q := fun p H2 hp e2 h => k p H2 (fresh_back e hp) (e.trans e2) h
theorem RetV.mono {Q : VK} (k : RetV v H Q) (e : Ex H H') : RetV v H' Q := fun H2 e2 => k H2 (e.trans e2)
end
section
variable {K : PySem.W.Frag} {σ : L2.St} {H : Hp} {D : Ends} {tu tz : TS}
/-- loops over a list of what stands for the items of l: Ex tells that nothing known is changed -/
theorem s_forT {α : Type} {a : Addr} {tl : TE} {j : Nat} {l : List α} (r : α → V) (h : Ev tl σ H (.ref a)) (hx : SqL K H a (l.map r)) (Pv : Nat → L2.St → Hp → Prop) (h0 : ∀ H1, Ex H H1 → Pv 0 σ H1) (hl : ∀ i σ' H', Pv i σ' H' → Ex H H')
    (hs : ∀ i y σ' H', l[i]? = some y → Pv i σ' H' → tu { D with nx := Pv (i + 1), ct := Pv (i + 1), bk := D.nx } (σ'.set j (some (r y))) H') (hd : ∀ σ' H', Pv l.length σ' H' → D.nx σ' H') : tFor (iList K tl) (gName j) tu D σ H :=
  s_forLn h hx Pv h0 (fun i σ' H' _ p => ex_l (hl i σ' H' p) hx) (fun i x σ' H' hi p => by
    rw [List.getElem?_map] at hi
    cases q : l[i]? with
    | none => rw [q] at hi; cases hi
    | some y =>
      rw [q] at hi
      cases hi
      exact hs i y σ' H' q p) (fun σ' H' p => hd σ' H' (by rw [List.length_map] at p; exact p))
theorem q_forT {α : Type} {a : Addr} {tl : TE} {j : Nat} {l : List α} (r : α → V) (h : Ev tl σ H (.ref a)) (hx : SqL K H a (l.map r)) (Pv : Nat → L2.St → Hp → Prop) (h0 : ∀ H1, Ex H H1 → Pv 0 σ H1) (hl : ∀ i σ' H', Pv i σ' H' → Ex H H')
    (hs : ∀ i y σ' H', l[i]? = some y → Pv i σ' H' → tu { D with nx := Pv (i + 1), ct := Pv (i + 1), bk := tz D } (σ'.set j (some (r y))) H') (hd : ∀ σ' H', Pv l.length σ' H' → tz D σ' H') : tSeq (tFor (iList K tl) (gName j) tu) tz D σ H :=
  s_forT (D := { D with nx := tz D }) r h hx Pv h0 hl hs hd
end
theorem take_more {α : Type} {l : List α} {i : Nat} {x : α} (h : l[i]? = some x) : l.take (i + 1) = l.take i ++ [x] := by
  rw [List.take_add_one, h] <;> rfl
end EM

namespace EM
open PySem PySem.Spec PyProof.Rows L2 Evl
open Vbwsap (Rules Player Match sumOf membersOf gap)
abbrev Ent := Vbwsap.Entry
/-! ### the records of the program as they lie in the heap -/
def rulesF (r : Vbwsap.Rules) : List (Str × V) := [("side", V.int (r.side : Nat)), ("base", V.int (r.base : Nat)), ("step", V.int (r.step : Nat)), ("factor", V.int (r.factor : Nat)), ("reach", V.int (r.range : Nat)), ("fine", V.int (r.fine : Nat))]
abbrev rulesN : List Str := ["side", "base", "step", "factor", "reach", "fine"]
theorem rulesF_side (r : Vbwsap.Rules) : (rulesF r).lookup ("side" : Str) = some (V.int (r.side : Nat)) := lk_here
theorem rulesF_base (r : Vbwsap.Rules) : (rulesF r).lookup ("base" : Str) = some (V.int (r.base : Nat)) := (lk_past (by decide +kernel)).trans (lk_here)
theorem rulesF_step (r : Vbwsap.Rules) : (rulesF r).lookup ("step" : Str) = some (V.int (r.step : Nat)) := (lk_past (by decide +kernel)).trans ((lk_past (by decide +kernel)).trans (lk_here))
theorem rulesF_factor (r : Vbwsap.Rules) : (rulesF r).lookup ("factor" : Str) = some (V.int (r.factor : Nat)) := (lk_past (by decide +kernel)).trans ((lk_past (by decide +kernel)).trans ((lk_past (by decide +kernel)).trans (lk_here)))
theorem rulesF_reach (r : Vbwsap.Rules) : (rulesF r).lookup ("reach" : Str) = some (V.int (r.range : Nat)) := (lk_past (by decide +kernel)).trans ((lk_past (by decide +kernel)).trans ((lk_past (by decide +kernel)).trans ((lk_past (by decide +kernel)).trans (lk_here))))
theorem rulesF_fine (r : Vbwsap.Rules) : (rulesF r).lookup ("fine" : Str) = some (V.int (r.fine : Nat)) := (lk_past (by decide +kernel)).trans ((lk_past (by decide +kernel)).trans ((lk_past (by decide +kernel)).trans ((lk_past (by decide +kernel)).trans ((lk_past (by decide +kernel)).trans (lk_here)))))
def playerF (p : Vbwsap.Player) : List (Str × V) := [("number", V.int (p.num : Nat)), ("rating", V.int (p.rating : Nat)), ("games", V.int (p.games : Nat)), ("wins", V.int (p.wins : Nat)), ("leaves", V.int (p.left : Nat))]
abbrev playerN : List Str := ["number", "rating", "games", "wins", "leaves"]
theorem playerF_number (p : Vbwsap.Player) : (playerF p).lookup ("number" : Str) = some (V.int (p.num : Nat)) := lk_here
theorem playerF_rating (p : Vbwsap.Player) : (playerF p).lookup ("rating" : Str) = some (V.int (p.rating : Nat)) := (lk_past (by decide +kernel)).trans (lk_here)
theorem playerF_games (p : Vbwsap.Player) : (playerF p).lookup ("games" : Str) = some (V.int (p.games : Nat)) := (lk_past (by decide +kernel)).trans ((lk_past (by decide +kernel)).trans (lk_here))
theorem playerF_wins (p : Vbwsap.Player) : (playerF p).lookup ("wins" : Str) = some (V.int (p.wins : Nat)) := (lk_past (by decide +kernel)).trans ((lk_past (by decide +kernel)).trans ((lk_past (by decide +kernel)).trans (lk_here)))
theorem playerF_leaves (p : Vbwsap.Player) : (playerF p).lookup ("leaves" : Str) = some (V.int (p.left : Nat)) := (lk_past (by decide +kernel)).trans ((lk_past (by decide +kernel)).trans ((lk_past (by decide +kernel)).trans ((lk_past (by decide +kernel)).trans (lk_here))))
def entryF (e : Vbwsap.Entry) (l : Addr) : List (Str × V) := [("number", V.int (e.num : Nat)), ("members", V.ref l), ("since", V.int (e.since : Nat))]
abbrev entryN : List Str := ["number", "members", "since"]
theorem entryF_number (e : Vbwsap.Entry) (l : Addr) : (entryF e l).lookup ("number" : Str) = some (V.int (e.num : Nat)) := lk_here
theorem entryF_members (e : Vbwsap.Entry) (l : Addr) : (entryF e l).lookup ("members" : Str) = some (V.ref l) := (lk_past (by decide +kernel)).trans (lk_here)
theorem entryF_since (e : Vbwsap.Entry) (l : Addr) : (entryF e l).lookup ("since" : Str) = some (V.int (e.since : Nat)) := (lk_past (by decide +kernel)).trans ((lk_past (by decide +kernel)).trans (lk_here))
def matchF (m : Vbwsap.Match) (l1 l2 : Addr) : List (Str × V) := [("number", V.int (m.num : Nat)), ("first", V.ref l1), ("second", V.ref l2)]
abbrev matchN : List Str := ["number", "first", "second"]
theorem matchF_number (m : Vbwsap.Match) (l1 l2 : Addr) : (matchF m l1 l2).lookup ("number" : Str) = some (V.int (m.num : Nat)) := lk_here
theorem matchF_first (m : Vbwsap.Match) (l1 l2 : Addr) : (matchF m l1 l2).lookup ("first" : Str) = some (V.ref l1) := (lk_past (by decide +kernel)).trans (lk_here)
theorem matchF_second (m : Vbwsap.Match) (l1 l2 : Addr) : (matchF m l1 l2).lookup ("second" : Str) = some (V.ref l2) := (lk_past (by decide +kernel)).trans ((lk_past (by decide +kernel)).trans (lk_here))
def worldF (r : Addr) (now pool season next : Int) (pd ed md : Addr) : List (Str × V) := [("rules", V.ref r), ("tick", V.int now), ("pool", V.int pool), ("season", V.int season), ("upcoming", V.int next), ("players", V.ref pd), ("parties", V.ref ed), ("matches", V.ref md)]
abbrev worldN : List Str := ["rules", "tick", "pool", "season", "upcoming", "players", "parties", "matches"]
theorem worldF_rules (r : Addr) (now pool season next : Int) (pd ed md : Addr) : (worldF r now pool season next pd ed md).lookup ("rules" : Str) = some (V.ref r) := lk_here
theorem worldF_tick (r : Addr) (now pool season next : Int) (pd ed md : Addr) : (worldF r now pool season next pd ed md).lookup ("tick" : Str) = some (V.int now) := (lk_past (by decide +kernel)).trans (lk_here)
theorem worldF_pool (r : Addr) (now pool season next : Int) (pd ed md : Addr) : (worldF r now pool season next pd ed md).lookup ("pool" : Str) = some (V.int pool) := (lk_past (by decide +kernel)).trans ((lk_past (by decide +kernel)).trans (lk_here))
theorem worldF_season (r : Addr) (now pool season next : Int) (pd ed md : Addr) : (worldF r now pool season next pd ed md).lookup ("season" : Str) = some (V.int season) := (lk_past (by decide +kernel)).trans ((lk_past (by decide +kernel)).trans ((lk_past (by decide +kernel)).trans (lk_here)))
theorem worldF_upcoming (r : Addr) (now pool season next : Int) (pd ed md : Addr) : (worldF r now pool season next pd ed md).lookup ("upcoming" : Str) = some (V.int next) := (lk_past (by decide +kernel)).trans ((lk_past (by decide +kernel)).trans ((lk_past (by decide +kernel)).trans ((lk_past (by decide +kernel)).trans (lk_here))))
theorem worldF_players (r : Addr) (now pool season next : Int) (pd ed md : Addr) : (worldF r now pool season next pd ed md).lookup ("players" : Str) = some (V.ref pd) := (lk_past (by decide +kernel)).trans ((lk_past (by decide +kernel)).trans ((lk_past (by decide +kernel)).trans ((lk_past (by decide +kernel)).trans ((lk_past (by decide +kernel)).trans (lk_here)))))
theorem worldF_parties (r : Addr) (now pool season next : Int) (pd ed md : Addr) : (worldF r now pool season next pd ed md).lookup ("parties" : Str) = some (V.ref ed) := (lk_past (by decide +kernel)).trans ((lk_past (by decide +kernel)).trans ((lk_past (by decide +kernel)).trans ((lk_past (by decide +kernel)).trans ((lk_past (by decide +kernel)).trans ((lk_past (by decide +kernel)).trans (lk_here))))))
theorem worldF_matches (r : Addr) (now pool season next : Int) (pd ed md : Addr) : (worldF r now pool season next pd ed md).lookup ("matches" : Str) = some (V.ref md) := (lk_past (by decide +kernel)).trans ((lk_past (by decide +kernel)).trans ((lk_past (by decide +kernel)).trans ((lk_past (by decide +kernel)).trans ((lk_past (by decide +kernel)).trans ((lk_past (by decide +kernel)).trans ((lk_past (by decide +kernel)).trans (lk_here)))))))
def pairF (f s : Addr) (u w : Int) : List (Str × V) := [("first", V.ref f), ("second", V.ref s), ("uneven", V.int u), ("waited", V.int w)]
abbrev pairN : List Str := ["first", "second", "uneven", "waited"]
theorem pairF_first (f s : Addr) (u w : Int) : (pairF f s u w).lookup ("first" : Str) = some (V.ref f) := lk_here
theorem pairF_second (f s : Addr) (u w : Int) : (pairF f s u w).lookup ("second" : Str) = some (V.ref s) := (lk_past (by decide +kernel)).trans (lk_here)
theorem pairF_uneven (f s : Addr) (u w : Int) : (pairF f s u w).lookup ("uneven" : Str) = some (V.int u) := (lk_past (by decide +kernel)).trans ((lk_past (by decide +kernel)).trans (lk_here))
theorem pairF_waited (f s : Addr) (u w : Int) : (pairF f s u w).lookup ("waited" : Str) = some (V.int w) := (lk_past (by decide +kernel)).trans ((lk_past (by decide +kernel)).trans ((lk_past (by decide +kernel)).trans (lk_here)))
def readerF (l : Addr) (i : Int) : List (Str × V) := [("calls", V.ref l), ("place", V.int i)]
abbrev readerN : List Str := ["calls", "place"]
theorem readerF_calls (l : Addr) (i : Int) : (readerF l i).lookup ("calls" : Str) = some (V.ref l) := lk_here
theorem readerF_place (l : Addr) (i : Int) : (readerF l i).lookup ("place" : Str) = some (V.int i) := (lk_past (by decide +kernel)).trans (lk_here)
/-- where the classes stand -/
structure Cs where
  R : Addr
  P : Addr
  E : Addr
  M : Addr
  W : Addr
  G : Addr
  D : Addr
structure CT (K : PySem.W.Frag) (c : Cs) : Prop where
  R : ClsN K c.R rulesN
  P : ClsN K c.P playerN
  E : ClsN K c.E entryN
  M : ClsN K c.M matchN
  W : ClsN K c.W worldN
  G : ClsN K c.G pairN
  D : ClsN K c.D readerN
section
variable {K : PySem.W.Frag} {c : Cs} {σ : L2.St} {H : Hp} {ta : TE} {a dx : Addr} {f : Str} {v : V}
theorem ev_R {r : Rules} (CC : CT K c) (ha : Ev ta σ H (.ref a)) (h : H a = some (.ins c.R dx (rulesF r))) (l : (rulesF r).lookup f = some v) : Ev (tFld K ta f) σ H v := ev_fld (fs := rulesF r) CC.R ha h l
theorem ev_P {p : Player} (CC : CT K c) (ha : Ev ta σ H (.ref a)) (h : H a = some (.ins c.P dx (playerF p))) (l : (playerF p).lookup f = some v) : Ev (tFld K ta f) σ H v := ev_fld (fs := playerF p) CC.P ha h l
theorem ev_E {e : Ent} {l' : Addr} (CC : CT K c) (ha : Ev ta σ H (.ref a)) (h : H a = some (.ins c.E dx (entryF e l'))) (l : (entryF e l').lookup f = some v) : Ev (tFld K ta f) σ H v := ev_fld (fs := entryF e l') CC.E ha h l
theorem ev_M {m : Match} {l1 l2 : Addr} (CC : CT K c) (ha : Ev ta σ H (.ref a)) (h : H a = some (.ins c.M dx (matchF m l1 l2))) (l : (matchF m l1 l2).lookup f = some v) : Ev (tFld K ta f) σ H v := ev_fld (fs := matchF m l1 l2) CC.M ha h l
theorem ev_W {r pd ed md : Addr} {i1 i2 i3 i4 : Int} (CC : CT K c) (ha : Ev ta σ H (.ref a)) (h : H a = some (.ins c.W dx (worldF r i1 i2 i3 i4 pd ed md))) (l : (worldF r i1 i2 i3 i4 pd ed md).lookup f = some v) : Ev (tFld K ta f) σ H v := ev_fld (fs := worldF r i1 i2 i3 i4 pd ed md) CC.W ha h l
theorem ev_G {f1 s1 : Addr} {i1 i2 : Int} (CC : CT K c) (ha : Ev ta σ H (.ref a)) (h : H a = some (.ins c.G dx (pairF f1 s1 i1 i2))) (l : (pairF f1 s1 i1 i2).lookup f = some v) : Ev (tFld K ta f) σ H v := ev_fld (fs := pairF f1 s1 i1 i2) CC.G ha h l
theorem ev_D {l1 : Addr} {i : Int} (CC : CT K c) (ha : Ev ta σ H (.ref a)) (h : H a = some (.ins c.D dx (readerF l1 i))) (l : (readerF l1 i).lookup f = some v) : Ev (tFld K ta f) σ H v := ev_fld (fs := readerF l1 i) CC.D ha h l
end
def RulesAt (c : Cs) (H : Hp) (a : Addr) (r : Rules) : Prop := ∃ dx, H a = some (.ins c.R dx (rulesF r))
def PlayerAt (c : Cs) (H : Hp) (a : Addr) (p : Player) : Prop := ∃ dx, H a = some (.ins c.P dx (playerF p))
def EntryAt (c : Cs) (H : Hp) (pa : Nat → Addr) (a : Addr) (e : Ent) : Prop := ∃ dx l, H a = some (.ins c.E dx (entryF e l)) ∧ H l = some (.lst (e.who.map fun n => V.ref (pa n)))
def MatchAt (c : Cs) (H : Hp) (pa : Nat → Addr) (a : Addr) (m : Match) : Prop := ∃ dx l1 l2, H a = some (.ins c.M dx (matchF m l1 l2)) ∧ H l1 = some (.lst (m.a.map fun n => V.ref (pa n))) ∧ H l2 = some (.lst (m.b.map fun n => V.ref (pa n)))
section
variable {c : Cs} {H H' : Hp} {pa ea : Nat → Addr} {pl : Nat → Player}
theorem RulesAt.mono {a : Addr} {r : Rules} (e : Ex H H') (h : RulesAt c H a r) : RulesAt c H' a r := let ⟨dx, h1⟩ := h; ⟨dx, e _ _ h1⟩
theorem PlayerAt.mono {a : Addr} {p : Player} (e : Ex H H') (h : PlayerAt c H a p) : PlayerAt c H' a p := let ⟨dx, h1⟩ := h; ⟨dx, e _ _ h1⟩
theorem EntryAt.mono {a : Addr} {n : Ent} (e : Ex H H') (h : EntryAt c H pa a n) : EntryAt c H' pa a n := let ⟨dx, l, h1, h2⟩ := h; ⟨dx, l, e _ _ h1, e _ _ h2⟩
theorem MatchAt.mono {a : Addr} {m : Match} (e : Ex H H') (h : MatchAt c H pa a m) : MatchAt c H' pa a m := let ⟨dx, l1, l2, h1, h2, h3⟩ := h; ⟨dx, l1, l2, e _ _ h1, e _ _ h2, e _ _ h3⟩
end
/-- players by their numbers; parties by theirs -/
def pRefs (pa : Nat → Addr) (l : List Nat) : List V := l.map fun n => V.ref (pa n)
def eRefs (ea : Nat → Addr) (row : List Ent) : List V := row.map fun e => V.ref (ea e.num)
def Pls (c : Cs) (H : Hp) (pa : Nat → Addr) (pl : Nat → Player) (l : List Nat) : Prop := ∀ n ∈ l, PlayerAt c H (pa n) (pl n)
/-- a row of parties, and their players -/
structure Grp (c : Cs) (H : Hp) (pa ea : Nat → Addr) (pl : Nat → Player) (row : List Ent) : Prop where
  en : ∀ e ∈ row, EntryAt c H pa (ea e.num) e
  ps : ∀ e ∈ row, Pls c H pa pl e.who
  small : ∀ e ∈ row, e.who.length ≤ 100
theorem Pls.mono {c : Cs} {H H' : Hp} {pa : Nat → Addr} {pl : Nat → Player} {l : List Nat} (e : Ex H H') (h : Pls c H pa pl l) : Pls c H' pa pl l := fun n hn => (h n hn).mono e
theorem Grp.mono {c : Cs} {H H' : Hp} {pa ea : Nat → Addr} {pl : Nat → Player} {row : List Ent} (e : Ex H H') (h : Grp c H pa ea pl row) : Grp c H' pa ea pl row := ⟨fun x hx => (h.en x hx).mono e, fun x hx => (h.ps x hx).mono e, h.small⟩
theorem Grp.sub {c : Cs} {H : Hp} {pa ea : Nat → Addr} {pl : Nat → Player} {row row' : List Ent} (h : Grp c H pa ea pl row) (s : ∀ e ∈ row', e ∈ row) : Grp c H pa ea pl row' := ⟨fun x hx => h.en x (s x hx), fun x hx => h.ps x (s x hx), fun x hx => h.small x (s x hx)⟩
/-! ### the promises -/
def sp_numbers_of (K : PySem.W.Frag) (c : Cs) : Sp := fun vs H Q _ => ∃ (l : Addr) (pa : Nat → Addr) (pl : Nat → Player) (who : List Nat), vs = [.ref l] ∧ SqL K H l (pRefs pa who) ∧ Pls c H pa pl who ∧ who.length ≤ 1000 ∧ RetL (who.map fun n => V.int ((pl n).num : Nat)) H Q
def sp_numbersE (K : PySem.W.Frag) (c : Cs) : Sp := fun vs H Q _ => ∃ (l : Addr) (pa ea : Nat → Addr) (pl : Nat → Player) (row : List Ent), vs = [.ref l] ∧ SqL K H l (eRefs ea row) ∧ Grp c H pa ea pl row ∧ row.length ≤ 1000 ∧ RetL (row.map fun e => V.int (e.num : Nat)) H Q
def sp_ratings_of (K : PySem.W.Frag) (c : Cs) : Sp := fun vs H Q _ => ∃ (l : Addr) (pa : Nat → Addr) (pl : Nat → Player) (who : List Nat), vs = [.ref l] ∧ SqL K H l (pRefs pa who) ∧ Pls c H pa pl who ∧ who.length ≤ 1000 ∧ RetL (who.map fun n => V.int ((pl n).rating : Nat)) H Q
def rsum (pl : Nat → Player) (row : List Ent) : Nat := sumOf ((membersOf row).map fun n => (pl n).rating)
def sp_rating_sum (K : PySem.W.Frag) (c : Cs) : Sp := fun vs H Q _ => ∃ (l : Addr) (pa ea : Nat → Addr) (pl : Nat → Player) (row : List Ent), vs = [.ref l] ∧ SqL K H l (eRefs ea row) ∧ Grp c H pa ea pl row ∧ RetV (.int (rsum pl row : Nat)) H Q
def sp_members_of (K : PySem.W.Frag) (c : Cs) : Sp := fun vs H Q _ => ∃ (l : Addr) (pa ea : Nat → Addr) (pl : Nat → Player) (row : List Ent), vs = [.ref l] ∧ SqL K H l (eRefs ea row) ∧ Grp c H pa ea pl row ∧ row.length ≤ 100 ∧ RetL (pRefs pa (membersOf row)) H Q
def outOf (row gone : List Ent) : List Ent := row.filter fun e => !(gone.map fun g => g.num).contains e.num
def sp_parties_without (K : PySem.W.Frag) (c : Cs) : Sp := fun vs H Q _ => ∃ (l g : Addr) (pa ea : Nat → Addr) (pl : Nat → Player) (row gone : List Ent), vs = [.ref l, .ref g] ∧ SqL K H l (eRefs ea row) ∧ SqL K H g (eRefs ea gone) ∧ Grp c H pa ea pl row ∧ Grp c H pa ea pl gone ∧
  row.length ≤ 1000 ∧ gone.length ≤ 1000 ∧ RetL (eRefs ea (outOf row gone)) H Q
section
variable {P : Program} {w : World} {K : PySem.W.Frag} {mg : Str → Option Value} {base : Heap} {c : Cs}
abbrev s_numbers_of : Stmt := top 12
abbrev n_numbers_of : List Str := ["row", "one"]
abbrev p_numbers_of : List Str := ["row"]
theorem sc_numbers_of : FnScope n_numbers_of p_numbers_of (defScope s_numbers_of) := ⟨rfl, rfl, rfl, by decide +kernel, rfl, by decide +kernel, by decide +kernel⟩

theorem ok_numbers_of (T : Txt mg) (CC : CT K c) (D : Def K mg "numbers_of" s_numbers_of p_numbers_of) : Has P w K mg base 1 "numbers_of" p_numbers_of (sp_numbers_of K c) := by
  refine D.has sc_numbers_of (fun vs H Q E h => ?_) (fun f cdv A outer s H vs Q E hr h => ?_)
  · obtain ⟨l, pa, pl, who, rfl, _⟩ := h
    rfl
  · obtain ⟨l, pa, pl, who, rfl, hl, hp, hz, k⟩ := h
    refine ⟨_, (pss_one (ps_ret (pe_lc (own := [("one", 1)]) (g := gName 1) (tt := tYes) (te := (tFld K (tVar 1) "number")) rfl sc_numbers_of.nd (pi_list (pv 0)) (blkOk_by (N := n_numbers_of) (sc := defScope s_numbers_of) (by decide +kernel)) (fun _ _ _ _ _ => pg_name (i := 1) sc_numbers_of.nd rfl (Or.inl rfl)) (fun _ _ _ _ _ => pts_nil) (fun _ _ _ _ _ => (pe_fld (pv 1) rfl))))), ?_⟩
    refine s_retL (el_mapT (l := who) (fun n => V.ref (pa n)) (fun n => V.int ((pl n).num : Nat)) (ev_var rfl) hl (by omega) (fun _ => rfl) fun n hn H1 e1 => ?_) k
    obtain ⟨dx, h1⟩ := (hp n hn).mono e1
    exact ev_P CC (ev_var rfl) h1 (playerF_number _)
theorem ok_numbersE (T : Txt mg) (CC : CT K c) (D : Def K mg "numbers_of" s_numbers_of p_numbers_of) : Has P w K mg base 1 "numbers_of" p_numbers_of (sp_numbersE K c) := by
  refine D.has sc_numbers_of (fun vs H Q E h => ?_) (fun f cdv A outer s H vs Q E hr h => ?_)
  · obtain ⟨l, pa, ea, pl, row, rfl, _⟩ := h
    rfl
  · obtain ⟨l, pa, ea, pl, row, rfl, hl, hp, hz, k⟩ := h
    refine ⟨_, (pss_one (ps_ret (pe_lc (own := [("one", 1)]) (g := gName 1) (tt := tYes) (te := (tFld K (tVar 1) "number")) rfl sc_numbers_of.nd (pi_list (pv 0)) (blkOk_by (N := n_numbers_of) (sc := defScope s_numbers_of) (by decide +kernel)) (fun _ _ _ _ _ => pg_name (i := 1) sc_numbers_of.nd rfl (Or.inl rfl)) (fun _ _ _ _ _ => pts_nil) (fun _ _ _ _ _ => (pe_fld (pv 1) rfl))))), ?_⟩
    refine s_retL (el_mapT (l := row) (fun e => V.ref (ea e.num)) (fun e => V.int (e.num : Nat)) (ev_var rfl) hl (by omega) (fun _ => rfl) fun n hn H1 e1 => ?_) k
    obtain ⟨dx, l', h1, h2⟩ := (hp.en n hn).mono e1
    exact ev_E CC (ev_var rfl) h1 (entryF_number _ _)
abbrev s_ratings_of : Stmt := top 13
abbrev n_ratings_of : List Str := ["players", "player"]
abbrev p_ratings_of : List Str := ["players"]
theorem sc_ratings_of : FnScope n_ratings_of p_ratings_of (defScope s_ratings_of) := ⟨rfl, rfl, rfl, by decide +kernel, rfl, by decide +kernel, by decide +kernel⟩

theorem ok_ratings_of (T : Txt mg) (CC : CT K c) (D : Def K mg "ratings_of" s_ratings_of p_ratings_of) : Has P w K mg base 1 "ratings_of" p_ratings_of (sp_ratings_of K c) := by
  refine D.has sc_ratings_of (fun vs H Q E h => ?_) (fun f cdv A outer s H vs Q E hr h => ?_)
  · obtain ⟨l, pa, pl, who, rfl, _⟩ := h
    rfl
  · obtain ⟨l, pa, pl, who, rfl, hl, hp, hz, k⟩ := h
    refine ⟨_, (pss_one (ps_ret (pe_lc (own := [("player", 1)]) (g := gName 1) (tt := tYes) (te := (tFld K (tVar 1) "rating")) rfl sc_ratings_of.nd (pi_list (pv 0)) (blkOk_by (N := n_ratings_of) (sc := defScope s_ratings_of) (by decide +kernel)) (fun _ _ _ _ _ => pg_name (i := 1) sc_ratings_of.nd rfl (Or.inl rfl)) (fun _ _ _ _ _ => pts_nil) (fun _ _ _ _ _ => (pe_fld (pv 1) rfl))))), ?_⟩
    refine s_retL (el_mapT (l := who) (fun n => V.ref (pa n)) (fun n => V.int ((pl n).rating : Nat)) (ev_var rfl) hl (by omega) (fun _ => rfl) fun n hn H1 e1 => ?_) k
    obtain ⟨dx, h1⟩ := (hp n hn).mono e1
    exact ev_P CC (ev_var rfl) h1 (playerF_rating _)
theorem sumOf_append (a b : List Nat) : sumOf (a ++ b) = sumOf a + sumOf b := by
  induction a with
  | nil => simp [sumOf]
  | cons x r ih =>
    have e1 : sumOf (x :: r ++ b) = x + sumOf (r ++ b) := rfl
    have e2 : sumOf (x :: r) = x + sumOf r := rfl
    rw [e1, e2, ih]
    omega
theorem membersOf_append (a b : List Ent) : membersOf (a ++ b) = membersOf a ++ membersOf b := by
  unfold membersOf
  rw [List.flatMap_append]
theorem rsum_append (pl : Nat → Player) (a b : List Ent) : rsum pl (a ++ b) = rsum pl a + rsum pl b := by
  unfold rsum
  rw [membersOf_append, List.map_append, sumOf_append]
theorem rsum_one (pl : Nat → Player) (e : Ent) : rsum pl [e] = sumOf (e.who.map fun n => (pl n).rating) := by
  unfold rsum membersOf
  simp
abbrev s_rating_sum : Stmt := top 22
abbrev n_rating_sum : List Str := ["parties", "total", "party", "player"]
abbrev p_rating_sum : List Str := ["parties"]
theorem sc_rating_sum : FnScope n_rating_sum p_rating_sum (defScope s_rating_sum) := ⟨rfl, rfl, rfl, by decide +kernel, rfl, by decide +kernel, by decide +kernel⟩

theorem ok_rating_sum (T : Txt mg) (CC : CT K c) (D : Def K mg "rating_sum" s_rating_sum p_rating_sum) : Has P w K mg base 1 "rating_sum" p_rating_sum (sp_rating_sum K c) := by
  refine D.has sc_rating_sum (fun vs H Q E h => ?_) (fun f cdv A outer s H vs Q E hr h => ?_)
  · obtain ⟨l, pa, ea, pl, row, rfl, _⟩ := h
    rfl
  · obtain ⟨l, pa, ea, pl, row, rfl, hl, g, k⟩ := h
    refine ⟨_, (pss_cons (ps_set (i := 1) sc_rating_sum.nd rfl (Or.inl rfl) pe_int)
 (pss_cons (ps_for PassesOwn.never rfl (pi_list (pv 0)) (pg_name (i := 2) sc_rating_sum.nd rfl (Or.inl rfl))
  (pss_one (ps_for PassesOwn.never rfl (pi_list (pe_fld (pv 2) rfl)) (pg_name (i := 3) sc_rating_sum.nd rfl (Or.inl rfl))
  (pss_one (ps_aug (i := 1) sc_rating_sum.nd rfl (Or.inl rfl) (pe_fld (pv 3) rfl) ip_add)))))
 (pss_one (ps_ret (pv 1))))), ?_⟩
    refine q_asg ev_c fun H1 e1 => ?_
    refine q_forT (l := row) (fun e => V.ref (ea e.num)) (ev_var rfl) (ex_l e1 hl) (fun i σ' H' => Ex H1 H' ∧ ∃ x y, σ' = [some (.ref l), some (.int (rsum pl (row.take i) : Nat)), x, y]) (fun H2 e2 => ⟨e2, none, none, rfl⟩) (fun i σ' H' p => p.1) ?_ ?_
    · rintro i n σ' H2 q ⟨e2, x0, y0, rfl⟩
      have hn : n ∈ row := List.mem_of_getElem? q
      obtain ⟨dx, m, h1, h2⟩ := (g.en n hn).mono (e1.trans e2)
      refine s_forT (l := n.who) (fun n => V.ref (pa n)) (ev_E CC (ev_var rfl) h1 (entryF_members _ _)) (sq_of h2) (fun j σ' H' => Ex H2 H' ∧ ∃ y, σ' = [some (.ref l), some (.int ((rsum pl (row.take i) + sumOf ((n.who.take j).map fun n => (pl n).rating) : Nat) : Int)), some (.ref (ea n.num)), y]) (fun H3 e3 => ⟨e3, y0, rfl⟩) (fun j σ' H' p => p.1) ?_ ?_
      · rintro j b σ' H' q2 ⟨e3, y1, rfl⟩
        obtain ⟨dp, hp⟩ := (g.ps n hn b (List.mem_of_getElem? q2)).mono ((e1.trans e2).trans e3)
        refine s_aug rfl (ev_P CC (ev_var rfl) hp (playerF_rating _)) fun H4 e4 => ⟨e3.trans e4, some (.ref (pa b)), ?_⟩
        rw [take_more q2, List.map_append, sumOf_append]
        simp [sumOf]
        omega
      · rintro σ' H' ⟨e3, y1, rfl⟩
        refine ⟨e2.trans e3, some (.ref (ea n.num)), y1, ?_⟩
        rw [List.take_length, take_more q, rsum_append, rsum_one]
    · rintro σ' H' ⟨e2, x, y, rfl⟩
      rw [List.take_length]
      exact s_ret (ev_var rfl) fun H3 e3 => k H3 ((e1.trans e2).trans e3)
end
end EM

namespace EM
open PySem PySem.Spec PyProof.Rows L2 Evl
open Vbwsap (Rules Player Match sumOf membersOf gap)
/-! ### lists of lists -/
abbrev LsAt (H : Hp) (ls : List Addr) (xss : List (List V)) : Prop := PySem.Paired (fun a xs => H a = some (.lst xs)) ls xss
theorem LsAt.mono {H H' : Hp} {ls : List Addr} {xss : List (List V)} (e : Ex H H') (h : LsAt H ls xss) : LsAt H' ls xss := by
  induction h with
  | nil => exact .nil
  | cons r _ ih => exact .cons (e _ _ r) ih
theorem LsAt.append {H : Hp} {ls ms : List Addr} {xss yss : List (List V)} (h : LsAt H ls xss) (h' : LsAt H ms yss) : LsAt H (ls ++ ms) (xss ++ yss) := by
  induction h with
  | nil => exact h'
  | cons r _ ih => exact .cons r ih
theorem LsAt.length {H : Hp} {ls : List Addr} {xss : List (List V)} (h : LsAt H ls xss) : ls.length = xss.length := by
  induction h with
  | nil => rfl
  | cons r _ ih => simp [ih]
theorem LsAt.get {H : Hp} {ls : List Addr} {xss : List (List V)} (h : LsAt H ls xss) : ∀ {i : Nat} {xs : List V}, xss[i]? = some xs → ∃ a, ls[i]? = some a ∧ H a = some (.lst xs) := by
  induction h with
  | nil => intro i xs e; simp at e
  | @cons a b l1 l2 r _ ih =>
    intro i xs e
    cases i with
    | zero =>
      have e' : b = xs := by simpa using e
      subst e'
      exact ⟨a, rfl, r⟩
    | succ i =>
      obtain ⟨a', e1, e2⟩ := ih (i := i) (xs := xs) (by simpa using e)
      exact ⟨a', by simpa using e1, e2⟩
theorem LsAt.at {H : Hp} {ls : List Addr} {xss : List (List V)} (h : LsAt H ls xss) {i : Nat} {a : Addr} (e : ls[i]? = some a) : ∃ xs, xss[i]? = some xs ∧ H a = some (.lst xs) := by
  have hi : i < ls.length := (List.getElem?_eq_some_iff.mp e).1
  have hi2 : i < xss.length := by rw [← h.length]; exact hi
  obtain ⟨a', e1, e2⟩ := h.get (List.getElem?_eq_getElem hi2)
  rw [e] at e1
  cases e1
  exact ⟨_, List.getElem?_eq_getElem hi2, e2⟩
def RetLL (xss : List (List V)) (H : Hp) (Q : VK) : Prop := ∀ p ls H2, H p = none → (∀ a ∈ ls, H a = none) → Ex H H2 → H2 p = some (.lst (ls.map V.ref)) → LsAt H2 ls xss → Q (.ref p) H2
def EvLL (te : TE) (σ : L2.St) (H : Hp) (xss : List (List V)) : Prop := ∀ H1, Ex H H1 → ∀ Q : VK, RetLL xss H1 Q → te σ H1 Q
theorem RetLL.mono {xss : List (List V)} {H H' : Hp} {Q : VK} (k : RetLL xss H Q) (e : Ex H H') : RetLL xss H' Q := fun p ls H2 hp hf e2 h h2 => k p ls H2 (fresh_back e hp) (fun a ha => fresh_back e (hf a ha)) (e.trans e2) h h2
section
variable {K : PySem.W.Frag} {σ : L2.St} {H H' : Hp} {ta tb te tx : TE} {D : Ends} {tu tz : TS}
theorem ell_cat {xss yss : List (List V)} (ha : EvLL ta σ H xss) (hb : EvLL tb σ H yss) (hz : xss.length + yss.length ≤ 100000) : EvLL (tOp rCat ta tb) σ H (xss ++ yss) := fun H1 e Q q =>
  ha H1 e _ fun p ls H2 hp f1 e2 h2 hl => hb H2 (e.trans e2) _ fun p' ms H3 hp' f2 e3 h3 hm => ⟨p, p', _, _, rfl, rfl, e3 _ _ h2, h3, by
    rw [List.length_map, List.length_map, hl.length, hm.length]
    exact sz_of hz, fun r hr => by
    refine q r (ls ++ ms) _ (fresh_back (e2.trans e3) hr) (fun a ha => (List.mem_append.mp ha).elim (f1 a) (fun z => fresh_back e2 (f2 a z))) ((e2.trans e3).trans (Ex.new hr)) ?_ (((hl.mono e3).append hm).mono (Ex.new hr))
    rw [List.map_append]
    exact upd_same⟩
/-- [te for x in xs]: xs a list of lists, te a new list each -/
theorem ell_lc {a : Addr} {tl : TE} {j : Nat} {vs : List Nat} {ls : List Addr} {xss : List (List V)} (g : List V → List V) (h : Ev tl σ H (.ref a)) (ha : H a = some (.lst (ls.map V.ref))) (hp : LsAt H ls xss) (hz : xss.length ≤ 40000)
    (hw : ∀ x, wipe ((wipe σ vs).set j (some x)) vs = wipe σ vs)
    (he : ∀ b xs, xs ∈ xss → ∀ H1, Ex H H1 → H1 b = some (.lst xs) → EvL te ((wipe σ vs).set j (some (.ref b))) H1 (g xs)) : EvLL (tLc (iList K tl) (gName j) tYes te vs) σ H (xss.map g) := fun H0 e Q q =>
  h H0 e _ fun H1 e1 => ⟨a, rfl, ⟨_, sq_of ((e.trans e1) _ _ ha)⟩, fun Dl hD => by
    have e01 := e.trans e1
    refine lc_list (xs := ls.map V.ref) (fun i H' => Ex H1 H' ∧ ∃ ms : List Addr, H' Dl = some (.lst (ms.map V.ref)) ∧ ms.length = i ∧ LsAt H' ms ((xss.take i).map g) ∧ (∀ m ∈ ms, m ≠ Dl ∧ H0 m = none)) ⟨Ex.new hD, [], upd_same, rfl, .nil, by simp⟩
      (fun i H' _ p => sq_of ((e01.trans p.1) _ _ ha)) (fun i x H' hi p => ?_) (fun H' p => ?_)
    · obtain ⟨p1, ms, p2, p3, p4, p5⟩ := p
      rw [List.getElem?_map] at hi
      cases hq : ls[i]? with
      | none => rw [hq] at hi; cases hi
      | some b =>
        rw [hq] at hi
        cases hi
        obtain ⟨xs, hx1, hx2⟩ := hp.at hq
        refine ⟨hw _, ?_⟩
        refine he b xs (List.mem_of_getElem? hx1) H' (e01.trans p1) ((e01.trans p1) _ _ hx2) H' (Ex.refl H') _ fun m H4 hm e4 h4 => ?_
        have nm : m ≠ Dl := fun z => by rw [z, p2] at hm; cases hm
        refine ⟨ms.map V.ref, e4 _ _ p2, by rw [List.length_map, p3]; exact sz_lt (by have := (List.getElem?_eq_some_iff.mp hx1).1; omega), Ex.mut (p1.trans e4) hD, ms ++ [m], ?_, by rw [List.length_append, p3]; rfl, ?_, ?_⟩
        · rw [List.map_append]
          exact upd_same
        · rw [take_more hx1, List.map_append]
          have z : ∀ {ms' : List Addr} {yss : List (List V)}, LsAt H4 ms' yss → (∀ m ∈ ms', m ≠ Dl) → ∀ o, LsAt (upd H4 Dl o) ms' yss := by
            intro ms' yss hh
            induction hh with
            | nil => intro _ _; exact .nil
            | cons r _ ih =>
              intro hne o
              refine .cons ?_ (ih (fun m hm => hne m (List.mem_cons_of_mem _ hm)) o)
              rw [upd_ne (hne _ (List.mem_cons_self))]
              exact r
          exact (z (p4.mono e4) (fun m hm => (p5 m hm).1) _).append (.cons (by rw [upd_ne nm]; exact h4) .nil)
        · intro m' hm'
          rcases List.mem_append.mp hm' with z | z
          · exact p5 m' z
          · rw [List.mem_singleton.mp z]; exact ⟨nm, fresh_back (e1.trans p1) hm⟩
    · obtain ⟨p1, ms, p2, p3, p4, p5⟩ := p
      rw [List.length_map, hp.length, List.take_length] at p4
      exact q Dl ms H' (fresh_back e1 hD) (fun a ha => (p5 a ha).2) (e1.trans p1) p2 p4⟩
/-- a list of one new list; no list at all -/
theorem ell_one {xs : List V} (h : EvL te σ H xs) : EvLL (tLst (tCons te tNil)) σ H [xs] := fun H1 e Q q =>
  h H1 e _ fun p H2 hp e2 h2 => ⟨sz_of (by show 1 ≤ 100000; decide), fun r hr => q r [p] _ (fresh_back e2 hr) (fun a ha => by rw [List.mem_singleton.mp ha]; exact hp) (e2.trans (Ex.new hr)) upd_same (.cons (by rw [upd_ne (ne_of_none h2 hr)]; exact h2) .nil)⟩
theorem ell_nil : EvLL (tLst tNil) σ H [] := fun H1 e Q q => ⟨sz_of (by show 0 ≤ 100000; decide), fun r hr => q r [] _ hr (fun a ha => by simp at ha) (Ex.new hr) upd_same .nil⟩
/-- xs.extend(ys) -/
theorem s_ext {l b : Addr} {xs zs : List V} (hl : H l = some (.lst xs)) (ha : Ev ta σ H (.ref l)) (h : Ev te σ H (.ref b)) (hb : H b = some (.lst zs)) (hz : xs.length + zs.length ≤ 100000) (k : ∀ H1, Ex H H1 → D.nx σ (upd H1 l (.lst (xs ++ zs)))) :
    tDrop (tBM K "list" rExtend ta (tCons te tNil)) D σ H := ha H (Ex.refl H) _ fun H1 e1 =>
  ⟨Or.inl ⟨rfl, xs, sq_of (e1 l _ hl)⟩, h H1 e1 _ fun H2 e2 => ⟨l, b, xs, zs, rfl, rfl, e2 l _ (e1 l _ hl), e2 _ _ (e1 _ _ hb), sz_of hz, k H2 (e1.trans e2)⟩⟩
theorem s_extL {l : Addr} {xs zs : List V} (hl : H l = some (.lst xs)) (ha : Ev ta σ H (.ref l)) (h : EvL te σ H zs) (hz : xs.length + zs.length ≤ 100000) (k : ∀ H1, Ex H H1 → D.nx σ (upd H1 l (.lst (xs ++ zs)))) :
    tDrop (tBM K "list" rExtend ta (tCons te tNil)) D σ H := ha H (Ex.refl H) _ fun H1 e1 =>
  ⟨Or.inl ⟨rfl, xs, sq_of (e1 l _ hl)⟩, h H1 e1 _ fun p H2 _ e2 h2 => ⟨l, p, xs, zs, rfl, rfl, e2 l _ (e1 l _ hl), h2, sz_of hz, k H2 (e1.trans e2)⟩⟩
/-- a built-in called with one list that was made on the spot -/
theorem ev_cbL {r : List V → Hp → VK → Prop} {xs : List V} {z : V} (h : EvL te σ H xs) (hr : ∀ p H1, H1 p = some (.lst xs) → ∀ Q : VK, (∀ H2, Ex H1 H2 → Q z H2) → r [.ref p] H1 Q) : Ev (tCB r (tCons te tNil)) σ H z := fun H1 e Q q =>
  h H1 e _ fun p H2 _ e2 h2 => hr p H2 h2 Q fun H3 e3 => q H3 (e2.trans e3)
theorem ev_sumL {ns : List Int} (h : EvL te σ H (ns.map V.int)) : Ev (tCB (rSum K) (tCons te tNil)) σ H (.int ns.sum) := ev_cbL h fun p H1 hp Q q => ⟨p, ns, rfl, sq_of hp, q H1 (Ex.refl H1)⟩
theorem ev_anyL {bs : List Bool} (h : EvL te σ H (bs.map V.bl)) : Ev (tCB (rAny K) (tCons te tNil)) σ H (.bl (bs.any id)) := ev_cbL h fun p H1 hp Q q => ⟨p, bs, rfl, sq_of hp, q H1 (Ex.refl H1)⟩
theorem ev_allL {bs : List Bool} (h : EvL te σ H (bs.map V.bl)) : Ev (tCB (rAll K) (tCons te tNil)) σ H (.bl (bs.all id)) := ev_cbL h fun p H1 hp Q q => ⟨p, bs, rfl, sq_of hp, q H1 (Ex.refl H1)⟩
theorem ev_sumA {a : Addr} {ns : List Int} (h : Ev te σ H (.ref a)) (hs : SqL K H a (ns.map V.int)) : Ev (tCB (rSum K) (tCons te tNil)) σ H (.int ns.sum) := fun H1 e Q q =>
  h H1 e _ fun H2 e2 => ⟨a, ns, rfl, ex_l (e.trans e2) hs, q H2 e2⟩
/-- the greatest, the least of some numbers -/
def IsMax (m : Int) (ns : List Int) : Prop := m ∈ ns ∧ ∀ y ∈ ns, y ≤ m
def IsMin (m : Int) (ns : List Int) : Prop := m ∈ ns ∧ ∀ y ∈ ns, m ≤ y
theorem IsMax.uniq {m n : Int} {ns : List Int} (h : IsMax m ns) (h' : IsMax n ns) : m = n := Int.le_antisymm (h'.2 m h.1) (h.2 n h'.1)
theorem IsMin.uniq {m n : Int} {ns : List Int} (h : IsMin m ns) (h' : IsMin n ns) : m = n := Int.le_antisymm (h.2 n h'.1) (h'.2 m h.1)
theorem ev_maxL {ns : List Int} {m : Int} (h : EvL te σ H (ns.map V.int)) (hm : IsMax m ns) : Ev (tCB (rMax K) (tCons te tNil)) σ H (.int m) := ev_cbL h fun p H1 hp Q q =>
  ⟨p, ns, rfl, sq_of hp, List.length_pos_of_mem hm.1, fun n hn hle => by rw [IsMax.uniq ⟨hn, hle⟩ hm]; exact q H1 (Ex.refl H1)⟩
theorem ev_maxA {a : Addr} {ns : List Int} {m : Int} (h : Ev te σ H (.ref a)) (hs : SqL K H a (ns.map V.int)) (hm : IsMax m ns) : Ev (tCB (rMax K) (tCons te tNil)) σ H (.int m) := fun H1 e Q q =>
  h H1 e _ fun H2 e2 => ⟨a, ns, rfl, ex_l (e.trans e2) hs, List.length_pos_of_mem hm.1, fun n hn hle => by rw [IsMax.uniq ⟨hn, hle⟩ hm]; exact q H2 e2⟩
theorem ev_minA {a : Addr} {ns : List Int} {m : Int} (h : Ev te σ H (.ref a)) (hs : SqL K H a (ns.map V.int)) (hm : IsMin m ns) : Ev (tCB (rMin K) (tCons te tNil)) σ H (.int m) := fun H1 e Q q =>
  h H1 e _ fun H2 e2 => ⟨a, ns, rfl, ex_l (e.trans e2) hs, List.length_pos_of_mem hm.1, fun n hn hle => by rw [IsMin.uniq ⟨hn, hle⟩ hm]; exact q H2 e2⟩
/-- a loop over a list of lists that is made on the spot, while the list at p grows -/
theorem q_forLL {tl : TE} {j : Nat} {xss : List (List V)} {p : Addr} {o : HO} (h : EvLL tl σ H xss) (hp : H p = some o) (Pv : Hp → Nat → L2.St → Hp → Prop) (h0 : ∀ H1, Ex H H1 → Pv H1 0 σ H1) (hl : ∀ H1 i σ' H', Pv H1 i σ' H' → ∀ b o, H1 b = some o → b ≠ p → H' b = some o)
    (hs : ∀ H1 i xs b σ' H', Ex H H1 → xss[i]? = some xs → b ≠ p → H1 b = some (.lst xs) → Pv H1 i σ' H' → tu { D with nx := Pv H1 (i + 1), ct := Pv H1 (i + 1), bk := tz D } (σ'.set j (some (.ref b))) H') (hd : ∀ H1 σ' H', Ex H H1 → Pv H1 xss.length σ' H' → tz D σ' H') : tSeq (tFor (iList K tl) (gName j) tu) tz D σ H :=
  h H (Ex.refl H) _ fun q ls H1 hq hf e1 h1 hls => ⟨q, rfl, ⟨_, sq_of h1⟩, for_list (xs := ls.map V.ref) (fun i σ' H' => Pv H1 i σ' H') (h0 H1 e1)
    (fun i σ' H' _ pv => sq_of (hl H1 i σ' H' pv q _ h1 (fun z => by rw [z, hp] at hq; cases hq)))
    (fun i x σ' H' hi pv => by
      rw [List.getElem?_map] at hi
      cases hq2 : ls[i]? with
      | none => rw [hq2] at hi; cases hi
      | some b =>
        rw [hq2] at hi
        cases hi
        obtain ⟨xs, hx1, hx2⟩ := hls.at hq2
        exact hs H1 i xs b σ' H' e1 hx1 (fun z => by
          have zz := hf b (List.mem_of_getElem? hq2)
          rw [z, hp] at zz
          cases zz) hx2 pv)
    (fun σ' H' pv => by
      rw [List.length_map, hls.length] at pv
      exact hd H1 σ' H' e1 pv)⟩
theorem s_forLL {tl : TE} {j : Nat} {xss : List (List V)} {p : Addr} {o : HO} (h : EvLL tl σ H xss) (hp : H p = some o) (Pv : Hp → Nat → L2.St → Hp → Prop) (h0 : ∀ H1, Ex H H1 → Pv H1 0 σ H1) (hl : ∀ H1 i σ' H', Pv H1 i σ' H' → ∀ b o, H1 b = some o → b ≠ p → H' b = some o)
    (hs : ∀ H1 i xs b σ' H', Ex H H1 → xss[i]? = some xs → b ≠ p → H1 b = some (.lst xs) → Pv H1 i σ' H' → tu { D with nx := Pv H1 (i + 1), ct := Pv H1 (i + 1), bk := D.nx } (σ'.set j (some (.ref b))) H') (hd : ∀ H1 σ' H', Ex H H1 → Pv H1 xss.length σ' H' → D.nx σ' H') : tFor (iList K tl) (gName j) tu D σ H :=
  q_forLL (tz := fun D' => D.nx) (D := D) h hp Pv h0 hl hs hd
/-- a call's value put into a slot; handed back -/
theorem q_asgC {sp : Sp} {vs : List V} {i : Nat} {ta : TA} (ha : EvA ta σ H vs) (k : ∀ H1, Ex H H1 → sp vs H1 (fun v H2 => tz D (σ.set i (some v)) H2) E0) : tSeq (tAsg (tCall sp [] E0 ta) (gName i)) tz D σ H :=
  ha H (Ex.refl H) _ fun H1 e => by
    show sp (vs ++ []) H1 _ _
    rw [List.append_nil]
    exact k H1 e
theorem s_retC {sp : Sp} {vs : List V} {ta : TA} (ha : EvA ta σ H vs) (k : ∀ H1, Ex H H1 → sp vs H1 (fun v H2 => D.rt v H2) E0) : tRet (tCall sp [] E0 ta) D σ H :=
  ha H (Ex.refl H) _ fun H1 e => by
    show sp (vs ++ []) H1 _ _
    rw [List.append_nil]
    exact k H1 e
theorem ev_callV {sp : Sp} {vs : List V} {z : V} {ta : TA} (ha : EvA ta σ H vs) (k : ∀ H1, Ex H H1 → ∀ Q, RetV z H1 Q → sp vs H1 Q E0) : Ev (tCall sp [] E0 ta) σ H z := fun H1 e Q q =>
  ha H1 e _ fun H2 e2 => by
    show sp (vs ++ []) H2 _ _
    rw [List.append_nil]
    exact k H2 (e.trans e2) _ fun H3 e3 => q H3 (e2.trans e3)
theorem el_callL {sp : Sp} {vs xs : List V} {ta : TA} (ha : EvA ta σ H vs) (k : ∀ H1, Ex H H1 → ∀ Q, RetL xs H1 Q → sp vs H1 Q E0) : EvL (tCall sp [] E0 ta) σ H xs := fun H1 e Q q =>
  ha H1 e _ fun H2 e2 => by
    show sp (vs ++ []) H2 _ _
    rw [List.append_nil]
    exact k H2 (e.trans e2) _ fun p H3 hp e3 h3 => q p H3 (fresh_back e2 hp) (e2.trans e3) h3
theorem ell_callL {sp : Sp} {vs : List V} {xss : List (List V)} {ta : TA} (ha : EvA ta σ H vs) (k : ∀ H1, Ex H H1 → ∀ Q, RetLL xss H1 Q → sp vs H1 Q E0) : EvLL (tCall sp [] E0 ta) σ H xss := fun H1 e Q q =>
  ha H1 e _ fun H2 e2 => by
    show sp (vs ++ []) H2 _ _
    rw [List.append_nil]
    exact k H2 (e.trans e2) _ (q.mono e2)
/-- a loop that changes what was not known at Hb -/
theorem s_forB {α : Type} {Hb : Hp} {a : Addr} {tl : TE} {j : Nat} {l : List α} (r : α → V) (eb : Ex Hb H) (h : Ev tl σ H (.ref a)) (hx : SqL K Hb a (l.map r)) (Pv : Nat → L2.St → Hp → Prop) (h0 : ∀ H1, Ex H H1 → Pv 0 σ H1) (hl : ∀ i σ' H', Pv i σ' H' → Ex Hb H')
    (hs : ∀ i y σ' H', l[i]? = some y → Pv i σ' H' → tu { D with nx := Pv (i + 1), ct := Pv (i + 1), bk := D.nx } (σ'.set j (some (r y))) H') (hd : ∀ σ' H', Pv l.length σ' H' → D.nx σ' H') : tFor (iList K tl) (gName j) tu D σ H :=
  s_forLn h (ex_l eb hx) Pv h0 (fun i σ' H' _ p => ex_l (hl i σ' H' p) hx) (fun i x σ' H' hi p => by
    rw [List.getElem?_map] at hi
    cases q : l[i]? with
    | none => rw [q] at hi; cases hi
    | some y =>
      rw [q] at hi
      cases hi
      exact hs i y σ' H' q p) (fun σ' H' p => hd σ' H' (by rw [List.length_map] at p; exact p))
theorem q_forB {α : Type} {Hb : Hp} {a : Addr} {tl : TE} {j : Nat} {l : List α} (r : α → V) (eb : Ex Hb H) (h : Ev tl σ H (.ref a)) (hx : SqL K Hb a (l.map r)) (Pv : Nat → L2.St → Hp → Prop) (h0 : ∀ H1, Ex H H1 → Pv 0 σ H1) (hl : ∀ i σ' H', Pv i σ' H' → Ex Hb H')
    (hs : ∀ i y σ' H', l[i]? = some y → Pv i σ' H' → tu { D with nx := Pv (i + 1), ct := Pv (i + 1), bk := tz D } (σ'.set j (some (r y))) H') (hd : ∀ σ' H', Pv l.length σ' H' → tz D σ' H') : tSeq (tFor (iList K tl) (gName j) tu) tz D σ H :=
  s_forB (D := { D with nx := tz D }) r eb h hx Pv h0 hl hs hd
end
/-! ### members_of, parties_without -/
section
variable {P : Program} {w : World} {K : PySem.W.Frag} {mg : Str → Option Value} {base : Heap} {c : Cs}
theorem membersOf_len : ∀ {row : List Ent} {m : Nat}, (∀ e ∈ row, e.who.length ≤ m) → (membersOf row).length ≤ row.length * m
  | [], m, _ => by simp [membersOf]
  | e :: r, m, h => by
    have ih := membersOf_len (row := r) (m := m) (fun x hx => h x (List.mem_cons_of_mem _ hx))
    have h1 := h e (List.mem_cons_self)
    have e1 : membersOf (e :: r) = e.who ++ membersOf r := by simp [membersOf]
    rw [e1, List.length_append, List.length_cons, Nat.add_mul]
    omega
theorem membersOf_one (e : Ent) : membersOf [e] = e.who := by simp [membersOf]
abbrev s_members_of : Stmt := top 23
abbrev n_members_of : List Str := ["parties", "members", "party"]
abbrev p_members_of : List Str := ["parties"]
theorem sc_members_of : FnScope n_members_of p_members_of (defScope s_members_of) := ⟨rfl, rfl, rfl, by decide +kernel, rfl, by decide +kernel, by decide +kernel⟩

theorem ok_members_of (T : Txt mg) (CC : CT K c) (D : Def K mg "members_of" s_members_of p_members_of) : Has P w K mg base 1 "members_of" p_members_of (sp_members_of K c) := by
  refine D.has sc_members_of (fun vs H Q E h => ?_) (fun f cdv A outer s H vs Q E hr h => ?_)
  · obtain ⟨l, pa, ea, pl, row, rfl, _⟩ := h
    rfl
  · obtain ⟨l, pa, ea, pl, row, rfl, hl, g, hz, k⟩ := h
    refine ⟨_, (pss_cons (ps_set (i := 1) sc_members_of.nd rfl (Or.inl rfl) (pe_lst pa_nil))
 (pss_cons (ps_for PassesOwn.never rfl (pi_list (pv 0)) (pg_name (i := 2) sc_members_of.nd rfl (Or.inl rfl))
  (pss_one (ps_expr (pe_bm PySem.F.plainAttrs_list PySem.F.slot_list_extend PySem.F.type_list_extend mt_extend (pv 1) (pa_cons (pe_fld (pv 2) rfl) pa_nil)))))
 (pss_one (ps_ret (pv 1))))), ?_⟩
    refine q_asgL (el_lst ea_nil (by show 0 ≤ 100000; decide)) fun p H1 hp e1 h1 => ?_
    refine q_forB (Hb := H) (l := row) (fun e => V.ref (ea e.num)) e1 (ev_var rfl) hl (fun i σ' H' => Ex H H' ∧ H' p = some (.lst (pRefs pa (membersOf (row.take i)))) ∧ ∃ x, σ' = [some (.ref l), some (.ref p), x]) (fun H2 e2 => ⟨e1.trans e2, e2 _ _ h1, none, rfl⟩) (fun i σ' H' p => p.1) ?_ ?_
    · rintro i n σ' H2 q ⟨e2, h2, x0, rfl⟩
      have hn : n ∈ row := List.mem_of_getElem? q
      obtain ⟨dx, m, i1, i2⟩ := (g.en n hn).mono e2
      have hlen := membersOf_len (row := row.take i) (m := 100) (fun e he => g.small e (List.mem_of_mem_take he))
      have hlt : (row.take i).length ≤ 100 := by rw [List.length_take]; omega
      have hsm := g.small n hn
      refine s_ext h2 (ev_var rfl) (ev_E CC (ev_var rfl) i1 (entryF_members _ _)) i2 (by rw [List.length_map]; unfold pRefs; rw [List.length_map]; omega) fun H3 e3 => ⟨Ex.mut (e2.trans e3) hp, ?_, some (.ref (ea n.num)), rfl⟩
      rw [take_more q, membersOf_append, membersOf_one]
      unfold pRefs
      rw [List.map_append]
      exact upd_same
    · rintro σ' H' ⟨e2, h2, x, rfl⟩
      rw [List.take_length] at h2
      exact s_ret (ev_var rfl) fun H3 e3 => k p H3 hp (e2.trans e3) (e3 _ _ h2)
theorem inV_iff {z : Int} {l : List Nat} : inV (.int z) (l.map fun m => V.int ((m : Nat) : Int)) = true ↔ ∃ m ∈ l, ((m : Nat) : Int) = z := by
  unfold inV
  rw [List.any_eq_true]
  constructor
  · rintro ⟨y, hy, he⟩
    obtain ⟨m, hm, rfl⟩ := List.mem_map.mp hy
    exact ⟨m, hm, by simpa [eqV] using he⟩
  · rintro ⟨m, hm, e⟩
    exact ⟨_, List.mem_map.mpr ⟨m, hm, rfl⟩, by simpa [eqV] using e⟩
theorem inV_nat (n : Nat) (l : List Nat) : inV (.int ((n : Nat) : Int)) (l.map fun m => V.int ((m : Nat) : Int)) = l.contains n := by
  rw [Bool.eq_iff_iff, inV_iff]
  constructor
  · rintro ⟨m, hm, e⟩
    have e' : m = n := by omega
    subst e'
    simpa using hm
  · intro h
    exact ⟨n, by simpa using h, rfl⟩
theorem flat_nats (l : List Nat) : (l.map fun m => V.int ((m : Nat) : Int)).all flatV = true := by
  rw [List.all_eq_true]
  intro x hx
  obtain ⟨m, _, rfl⟩ := List.mem_map.mp hx
  rfl
abbrev s_parties_without : Stmt := top 24
abbrev n_parties_without : List Str := ["row", "gone", "numbers", "party"]
abbrev p_parties_without : List Str := ["row", "gone"]
theorem sc_parties_without : FnScope n_parties_without p_parties_without (defScope s_parties_without) := ⟨rfl, rfl, rfl, by decide +kernel, rfl, by decide +kernel, by decide +kernel⟩

theorem ok_parties_without (T : Txt mg) (CC : CT K c) (D : Def K mg "parties_without" s_parties_without p_parties_without) : Has P w K mg base 1 "parties_without" p_parties_without (sp_parties_without K c) := by
  refine D.has sc_parties_without (fun vs H Q E h => ?_) (fun f cdv A outer s H vs Q E hr h => ?_)
  · obtain ⟨l, g, pa, ea, pl, row, gone, rfl, _⟩ := h
    rfl
  · obtain ⟨l, g, pa, ea, pl, row, gone, rfl, hl, hg, gr, gg, hz1, hz2, k⟩ := h
    refine ⟨_, (pss_cons (ps_set (i := 2) sc_parties_without.nd rfl (Or.inr rfl) (pe_lc (own := [("party", 3)]) (g := gName 3) (tt := tYes) (te := (tFld K (tVar 3) "number")) rfl sc_parties_without.nd (pi_list (pv 1)) (blkOk_by (N := n_parties_without) (sc := defScope s_parties_without) (by decide +kernel)) (fun _ _ _ _ _ => pg_name (i := 3) sc_parties_without.nd rfl (Or.inl rfl)) (fun _ _ _ _ _ => pts_nil) (fun _ _ _ _ _ => (pe_fld (pv 3) rfl))))
 (pss_one (ps_ret (pe_lc (own := [("party", 3)]) (g := gName 3) (tt := (tTest (tOp (rIn K true) (tFld K (tVar 3) "number") (tVar 2)))) (te := (tVar 3)) rfl sc_parties_without.nd (pi_list (pv 0)) (blkOk_by (N := n_parties_without) (sc := defScope s_parties_without) (by decide +kernel)) (fun _ _ _ _ _ => pg_name (i := 3) sc_parties_without.nd rfl (Or.inl rfl)) (fun _ _ _ _ _ => (pts_one (pt_cmpR op_notIn_seq (pe_fld (pv 3) rfl) (pv 2) rfl))) (fun _ _ _ _ _ => (pv 3)))))), ?_⟩
    refine q_asgL (el_mapT (l := gone) (fun e => V.ref (ea e.num)) (fun e => V.int ((e.num : Nat) : Int)) (ev_var rfl) hg (by omega) (fun _ => rfl) fun n hn H1 e1 => ?_) fun p H1 hp e1 h1 => ?_
    · obtain ⟨dx, m, i1, i2⟩ := (gg.en n hn).mono e1
      exact ev_E CC (ev_var rfl) i1 (entryF_number _ _)
    · have e0 : (gone.map fun e => V.int ((e.num : Nat) : Int)) = (gone.map fun e => e.num).map fun m => V.int ((m : Nat) : Int) := by rw [List.map_map]; rfl
      refine s_retL (el_lcT (l := row) (fun e => V.ref (ea e.num)) (fun (e : Ent) => !(gone.map fun (g : Ent) => g.num).contains e.num) (fun e => V.ref (ea e.num)) (ev_var rfl) (ex_l e1 hl) (by omega) (fun _ => rfl) (fun n hn H2 e2 => ?_) (fun n hn _ H2 e2 => ev_var rfl)) fun p' H2 hp' e2 h2 => k p' H2 (fresh_back e1 hp') (e1.trans e2) h2
      obtain ⟨dx, m, i1, i2⟩ := (gr.en n hn).mono (e1.trans e2)
      refine et_is (et_test (ev_op (ev_E CC (ev_var rfl) i1 (entryF_number _ _)) (ev_var rfl) (rv_niL (sq_of (e2 _ _ h1)) rfl (by rw [e0]; exact flat_nats _)))) ?_
      rw [e0, inV_nat]
end
end EM

namespace EM
open PySem PySem.Spec PyProof.Rows L2 Evl
open Vbwsap (Rules Player Match sumOf membersOf gap)
/-! ### ways_to_take -/
def ways : List Ent → Int → List (List Ent)
  | [], k => if k = 0 then [[]] else []
  | e :: r, k => if k = 0 then [[]] else if k < 0 then [] else (ways r (k - (e.who.length : Nat))).map (fun l => e :: l) ++ ways r k
theorem ways_len : ∀ (row : List Ent) (k : Int), (ways row k).length ≤ 2 ^ row.length
  | [], k => by
    unfold ways
    split <;> simp
  | e :: r, k => by
    unfold ways
    have h1 := ways_len r (k - (e.who.length : Nat))
    have h2 := ways_len r k
    have h3 : 1 ≤ 2 ^ r.length := Nat.one_le_two_pow
    split
    · simp
      exact Nat.one_le_two_pow
    · split
      · simp
      · rw [List.length_append, List.length_map, List.length_cons, Nat.pow_succ]
        omega
theorem ways_sub : ∀ {row : List Ent} {k : Int} {l : List Ent}, l ∈ ways row k → ∀ e ∈ l, e ∈ row
  | [], k, l, h => by
    unfold ways at h
    split at h
    · have : l = [] := by simpa using h
      subst this
      simp
    · simp at h
  | x :: r, k, l, h => by
    unfold ways at h
    split at h
    · have : l = [] := by simpa using h
      subst this
      simp
    · split at h
      · simp at h
      · rcases List.mem_append.mp h with h | h
        · obtain ⟨l', h', rfl⟩ := List.mem_map.mp h
          intro e he
          rcases List.mem_cons.mp he with z | z
          · rw [z]; exact List.mem_cons_self
          · exact List.mem_cons_of_mem _ (ways_sub h' e z)
        · intro e he
          exact List.mem_cons_of_mem _ (ways_sub h e he)
theorem ways_short : ∀ {row : List Ent} {k : Int} {l : List Ent}, l ∈ ways row k → l.length ≤ row.length
  | [], k, l, h => by
    unfold ways at h
    split at h
    · have : l = [] := by simpa using h
      subst this
      simp
    · simp at h
  | x :: r, k, l, h => by
    unfold ways at h
    split at h
    · have : l = [] := by simpa using h
      subst this
      simp
    · split at h
      · simp at h
      · rcases List.mem_append.mp h with h | h
        · obtain ⟨l', h', rfl⟩ := List.mem_map.mp h
          have := ways_short h'
          simp
          omega
        · have := ways_short h
          simp
          omega
/-- what is asked: fewer than n parties wait -/
def sp_ways (K : PySem.W.Frag) (c : Cs) (n : Nat) : Sp := fun vs H Q _ => ∃ (l : Addr) (pa ea : Nat → Addr) (pl : Nat → Player) (row : List Ent) (k : Int), vs = [.ref l, .int k] ∧ SqL K H l (eRefs ea row) ∧ Grp c H pa ea pl row ∧ row.length < n ∧ n ≤ 14 ∧
  RetLL ((ways row k).map (eRefs ea)) H Q
theorem cutV_one (xs : List V) : cutV xs (some 1) none = xs.drop 1 := by
  cases xs with
  | nil => rfl
  | cons x r =>
    unfold cutV
    simp [HT.sIx]
section
variable {P : Program} {w : World} {K : PySem.W.Frag} {mg : Str → Option Value} {base : Heap} {c : Cs}
abbrev s_ways_to_take : Stmt := top 25
abbrev n_ways_to_take : List Str := ["row", "wanted", "rest", "with_first", "way"]
abbrev p_ways_to_take : List Str := ["row", "wanted"]
theorem sc_ways_to_take : FnScope n_ways_to_take p_ways_to_take (defScope s_ways_to_take) := ⟨rfl, rfl, rfl, by decide +kernel, rfl, by decide +kernel, by decide +kernel⟩

theorem ok_ways (T : Txt mg) (CC : CT K c) (D : Def K mg "ways_to_take" s_ways_to_take p_ways_to_take) : ∀ n, Has P w K mg base n "ways_to_take" p_ways_to_take (sp_ways K c n)
  | 0 => by
    obtain ⟨f, fd, F, m, b⟩ := D.ex
    exact ⟨f, fd, m, F.kp, b, ⟨fun vs H Q E h => by
      obtain ⟨_, _, _, _, _, _, _, _, _, h, _⟩ := h
      omega, fun _ _ _ _ _ _ _ _ _ _ _ _ _ h => by
      obtain ⟨_, _, _, _, _, _, _, _, _, h, _⟩ := h
      omega⟩⟩
  | n + 1 => by
    have G_ways_to_take := ok_ways T CC D n
    refine D.has sc_ways_to_take (fun vs H Q E h => ?_) (fun f cdv A outer s H vs Q E hr h => ?_)
    · obtain ⟨l, pa, ea, pl, row, k, rfl, _⟩ := h
      rfl
    · obtain ⟨l, pa, ea, pl, row, k, rfl, hl, g, hn, h14, ret⟩ := h
      refine ⟨_, (pss_cons (ps_if (pt_cmpR op_eq (pv 1) pe_int (nomark _))
  (pss_one (ps_ret (pe_lst (pa_cons (pe_lst pa_nil) pa_nil)))) pss_nil)
 (pss_cons (ps_if (PW.pt (pw_or (pt_cmpR op_lt (pv 1) pe_int (nomark _)) (pw_or1 (pt_cmpR op_eq (pe_callB call_len_seq (by rfl) T.len PySem.boot_len (pa_cons (pv 0) pa_nil)) pe_int (nomark _)))))
  (pss_one (ps_ret (pe_lst pa_nil))) pss_nil)
 (pss_cons (ps_set (i := 2) sc_ways_to_take.nd rfl (Or.inl rfl) (pe_slice sl_list (pv 0) (po_some pe_int) po_none))
 (pss_cons (ps_set (i := 3) sc_ways_to_take.nd rfl (Or.inl rfl) (pe_has G_ways_to_take (hr) rfl (pa_cons (pv 2) (pa_cons (pe_op op_sub (pv 1) (pe_callB call_len_seq (by rfl) T.len PySem.boot_len (pa_cons (pe_fld (pe_ix ix_list (pv 0) pe_int (fun _ _ => rfl)) rfl) pa_nil))) pa_nil))))
 (pss_one (ps_ret (pe_op op_cat (pe_lc (own := [("way", 4)]) (g := gName 4) (tt := tYes) (te := (tOp rCat (tLst (tCons (tOp (rIxL K) (tVar 0) (tC (.int 0))) tNil)) (tVar 4))) rfl sc_ways_to_take.nd (pi_list (pv 3)) (blkOk_by (N := n_ways_to_take) (sc := defScope s_ways_to_take) (by decide +kernel)) (fun _ _ _ _ _ => pg_name (i := 4) sc_ways_to_take.nd rfl (Or.inl rfl)) (fun _ _ _ _ _ => pts_nil) (fun _ _ _ _ _ => (pe_op op_cat (pe_lst (pa_cons (pe_ix ix_list (pv 0) pe_int (fun _ _ => rfl)) pa_nil)) (pv 4)))) (pe_has G_ways_to_take (hr) rfl (pa_cons (pv 2) (pa_cons (pv 1) pa_nil)))))))))), ?_⟩
      refine q_when (b := decide (k = 0)) (et_is (et_test (ev_op (ev_var rfl) ev_c (rv_eq rfl))) (by simp)) (fun hk H1 e1 => ?_) (fun hk H1 e1 => ?_)
      · have hk' : k = 0 := of_decide_eq_true hk
        have e0 : ways row k = [[]] := by
          cases row <;> simp [ways, hk']
        rw [e0] at ret
        exact ell_one (el_lst ea_nil (by show 0 ≤ 100000; decide)) H1 (Ex.refl H1) _ (ret.mono e1)
      · have hk' : ¬ k = 0 := of_decide_eq_false hk
        refine q_when (b := decide (k < 0) || decide (row.length = 0)) (et_or (et_test (ev_op (ev_var rfl) ev_c rv_I0)) (fun _ => et_is (et_test (ev_op (ev_len (ev_var rfl) (ex_l e1 hl)) ev_c (rv_eq rfl))) (by unfold eRefs; simp))) (fun hk2 H2 e2 => ?_) (fun hk2 H2 e2 => ?_)
        · have e0 : ways row k = [] := by
            cases row with
            | nil => simp [ways, hk']
            | cons e r =>
              have : k < 0 := by simpa using hk2
              simp [ways, hk', this]
          rw [e0] at ret
          exact ell_nil H2 (Ex.refl H2) _ (ret.mono (e1.trans e2))
        · have hk3 : ¬ k < 0 := by
            intro z
            simp [z] at hk2
          cases row with
          | nil => simp at hk2
          | cons e r =>
            have e12 := e1.trans e2
            have ge := g.en e List.mem_cons_self
            have gr : Grp c H pa ea pl r := g.sub fun x hx => List.mem_cons_of_mem _ hx
            have hlt : r.length < n := by simp at hn; omega
            refine q_asgL (el_sl (ev_var rfl) (eo_some ev_c) eo_none (ex_l e12 hl)) fun p H3 hp e3 h3 => ?_
            have h3' : H3 p = some (.lst (eRefs ea r)) := by
              rw [cutV_one] at h3
              exact h3
            have e13 := e12.trans e3
            have hrow : SqL K H3 l (eRefs ea (e :: r)) := ex_l e13 hl
            obtain ⟨dx, m, i1, i2⟩ := ge.mono e13
            have ev0 : ∀ {σ' : L2.St} {H' : Hp} {i : Nat}, SqL K H' l (eRefs ea (e :: r)) → σ'[i]? = some (some (.ref l)) → Ev (tOp (rIxL K) (tVar i) (tC (.int 0))) σ' H' (.ref (ea e.num)) := fun {σ' H' i} hh hs => ev_op (ev_var hs) ev_c (rv_ixL hh (at_of (j := 0) rfl rfl))
            refine q_asgC (vs := [.ref p, .int (k - (e.who.length : Nat))]) (ea_cons (ev_var rfl) (ea_cons (ev_op (ev_var rfl) (ev_len (ev_E CC (ev0 hrow rfl) i1 (entryF_members _ _)) (sq_of i2)) (by rw [List.length_map]; exact rv_I0)) ea_nil)) fun H4 e4 => ?_
            refine ⟨p, pa, ea, pl, r, k - (e.who.length : Nat), rfl, sq_of (e4 _ _ h3'), gr.mono (e13.trans e4), hlt, by omega, fun q ls H5 hq hf e5 h5 hls => ?_⟩
            have e15 := (e13.trans e4).trans e5
            have e0 : ways (e :: r) k = (ways r (k - (e.who.length : Nat))).map (fun l => e :: l) ++ ways r k := by
              rw [ways, if_neg hk', if_neg hk3]
            have hb1 := ways_len r (k - (e.who.length : Nat))
            have hb2 := ways_len r k
            have hb3 : 2 ^ r.length ≤ 2 ^ 13 := Nat.pow_le_pow_right (by decide) (by omega)
            have hret : RetLL (((ways r (k - (e.who.length : Nat))).map (eRefs ea)).map (fun xs => [V.ref (ea e.num)] ++ xs) ++ (ways r k).map (eRefs ea)) H5 Q := by
              have e6 : (ways (e :: r) k).map (eRefs ea) = ((ways r (k - (e.who.length : Nat))).map (eRefs ea)).map (fun xs => [V.ref (ea e.num)] ++ xs) ++ (ways r k).map (eRefs ea) := by
                rw [e0, List.map_append, List.map_map, List.map_map]
                rfl
              rw [← e6]
              exact ret.mono e15
            refine ell_cat (ell_lc (ls := ls) (fun xs => [V.ref (ea e.num)] ++ xs) (ev_var rfl) h5 hls (by rw [List.length_map]; omega) (fun _ => rfl) fun b xs hxs H6 e6 h6 => ?_) (ell_callL (vs := [.ref p, .int k]) (ea_cons (ev_var rfl) (ea_cons (ev_var rfl) ea_nil)) fun H6 e6 Q' q' => ?_) (by rw [List.length_map, List.length_map, List.length_map]; omega) H5 (Ex.refl H5) _ hret
            · obtain ⟨l', hl', rfl⟩ := List.mem_map.mp hxs
              have hsh := ways_short hl'
              refine el_catL (el_lst (ea_cons (ev0 (ex_l (e15.trans e6) hl) rfl) ea_nil) (by show 1 ≤ 100000; decide)) (ev_var rfl) h6 ?_
              unfold eRefs
              rw [List.length_map]
              show 1 + _ ≤ 100000
              omega
            · exact ⟨p, pa, ea, pl, r, k, rfl, sq_of (((e4.trans e5).trans e6) _ _ h3'), gr.mono (e15.trans e6), hlt, by omega, q'⟩
end
end EM

namespace EM
open PySem PySem.Spec PyProof.Rows L2 Evl
open Vbwsap (Rules Player Match sumOf membersOf gap State)
/-! ### a walk over a dict's values -/
section
variable {K : PySem.W.Frag} {σ : L2.St} {H : Hp} {D : Ends} {tu tz : TS} {td : TE}
theorem unlock_ex {H H' : Hp} {d : Addr} {u : HO} {od : Obj} (hd : H d = some u) (e : Ex (upd H d (.frz od u)) H') : Ex H (upd H' d u) := fun b o hb => by
  by_cases q : b = d
  · subst q
    rw [hd] at hb
    cases hb
    exact upd_same
  · rw [upd_ne q]
    exact e b o (by rw [upd_ne q]; exact hb)
theorem s_forDG {α : Type} {d : Addr} {j : Nat} {l : List α} (kk : α → Key) (r : α → V) (hd : H d = some (.dK (l.map fun y => (kk y, r y)))) (ht : ∀ od, Ev td σ (upd H d (.frz od (.dK (l.map fun y => (kk y, r y))))) (.ref d))
    (Pv : Obj → Nat → L2.St → Hp → Prop) (h0 : ∀ od H1, Ex (upd H d (.frz od (.dK (l.map fun y => (kk y, r y))))) H1 → Pv od 0 σ H1) (hl : ∀ od i σ' H', Pv od i σ' H' → H' d = some (.frz od (.dK (l.map fun y => (kk y, r y)))))
    (hs : ∀ od i y σ' H', l[i]? = some y → Pv od i σ' H' → tu { nx := Pv od (i + 1), rt := fun v H' => H' d = some (.frz od (.dK (l.map fun y => (kk y, r y)))) ∧ D.rt v (upd H' d (.dK (l.map fun y => (kk y, r y)))), bk := fun σ' H' => H' d = some (.frz od (.dK (l.map fun y => (kk y, r y)))) ∧ D.nx σ' (upd H' d (.dK (l.map fun y => (kk y, r y)))), ct := Pv od (i + 1) } (σ'.set j (some (r y))) H')
    (hdn : ∀ od σ' H', Pv od l.length σ' H' → D.nx σ' (upd H' d (.dK (l.map fun y => (kk y, r y))))) : tLock (tFor (iVals td) (gName j) tu) D σ H := by
  refine ⟨d, _, hd, trivial, fun od => ?_⟩
  refine ht od _ (Ex.refl _) _ fun H1 e1 => ⟨d, od, _, rfl, e1 _ _ upd_same, ?_⟩
  refine for_it (walk_values (d := d) (o := od) (kvs := l.map fun y => (kk y, r y))) (fun i σ' H' => Pv od i σ' H') (h0 od H1 e1) (fun i σ' H' _ p => hl od i σ' H' p) (fun i x σ' H' H2 hi p y => ?_) (fun σ' H' p => ?_)
  · obtain ⟨rfl, k, hk⟩ := y
    rw [List.getElem?_map] at hk
    cases q : l[i]? with
    | none => rw [q] at hk; cases hk
    | some y =>
      rw [q] at hk
      cases hk
      exact hs od i y σ' H2 q p
  · rw [List.length_map] at p
    exact ⟨hl od _ _ _ p, hdn od σ' H' p⟩
/-- .. that changes nothing known -/
theorem s_forD {α : Type} {d : Addr} {j : Nat} {l : List α} (kk : α → Key) (r : α → V) (hd : H d = some (.dK (l.map fun y => (kk y, r y)))) (ht : ∀ od, Ev td σ (upd H d (.frz od (.dK (l.map fun y => (kk y, r y))))) (.ref d))
    (Pv : Nat → L2.St → Prop) (h0 : Pv 0 σ)
    (hs : ∀ od i y σ' H', l[i]? = some y → Pv i σ' → Ex (upd H d (.frz od (.dK (l.map fun y => (kk y, r y))))) H' → ∀ D' : Ends, (∀ σ2 H2, Pv (i + 1) σ2 → Ex H' H2 → D'.nx σ2 H2) → (∀ v H2, Ex H' H2 → (∀ H3, Ex H H3 → D.rt v H3) → D'.rt v H2) → tu D' (σ'.set j (some (r y))) H')
    (hdn : ∀ σ' H2, Pv l.length σ' → Ex H H2 → D.nx σ' H2) : tLock (tFor (iVals td) (gName j) tu) D σ H :=
  s_forDG kk r hd ht (fun od i σ' H' => Pv i σ' ∧ Ex (upd H d (.frz od (.dK (l.map fun y => (kk y, r y))))) H') (fun od H1 e => ⟨h0, e⟩) (fun od i σ' H' p => p.2 _ _ upd_same)
    (fun od i y σ' H' hi p => hs od i y σ' H' hi p.1 p.2 _ (fun σ2 H2 h e => ⟨h, p.2.trans e⟩) (fun v H2 e kk => ⟨(p.2.trans e) _ _ upd_same, kk _ (unlock_ex hd (p.2.trans e))⟩))
    (fun od σ' H' p => hdn σ' _ p.1 (unlock_ex hd p.2))
theorem q_forD {α : Type} {d : Addr} {j : Nat} {l : List α} (kk : α → Key) (r : α → V) (hd : H d = some (.dK (l.map fun y => (kk y, r y)))) (ht : ∀ od, Ev td σ (upd H d (.frz od (.dK (l.map fun y => (kk y, r y))))) (.ref d))
    (Pv : Nat → L2.St → Prop) (h0 : Pv 0 σ)
    (hs : ∀ od i y σ' H', l[i]? = some y → Pv i σ' → Ex (upd H d (.frz od (.dK (l.map fun y => (kk y, r y))))) H' → ∀ D' : Ends, (∀ σ2 H2, Pv (i + 1) σ2 → Ex H' H2 → D'.nx σ2 H2) → (∀ v H2, Ex H' H2 → (∀ H3, Ex H H3 → D.rt v H3) → D'.rt v H2) → tu D' (σ'.set j (some (r y))) H')
    (hdn : ∀ σ' H2, Pv l.length σ' → Ex H H2 → tz D σ' H2) : tSeq (tLock (tFor (iVals td) (gName j) tu)) tz D σ H :=
  s_forD (D := { D with nx := tz D }) kk r hd ht Pv h0 hs hdn
theorem q_forDG {α : Type} {d : Addr} {j : Nat} {l : List α} (kk : α → Key) (r : α → V) (hd : H d = some (.dK (l.map fun y => (kk y, r y)))) (ht : ∀ od, Ev td σ (upd H d (.frz od (.dK (l.map fun y => (kk y, r y))))) (.ref d))
    (Pv : Obj → Nat → L2.St → Hp → Prop) (h0 : ∀ od H1, Ex (upd H d (.frz od (.dK (l.map fun y => (kk y, r y))))) H1 → Pv od 0 σ H1) (hl : ∀ od i σ' H', Pv od i σ' H' → H' d = some (.frz od (.dK (l.map fun y => (kk y, r y)))))
    (hs : ∀ od i y σ' H', l[i]? = some y → Pv od i σ' H' → tu { nx := Pv od (i + 1), rt := fun v H' => H' d = some (.frz od (.dK (l.map fun y => (kk y, r y)))) ∧ D.rt v (upd H' d (.dK (l.map fun y => (kk y, r y)))), bk := fun σ' H' => H' d = some (.frz od (.dK (l.map fun y => (kk y, r y)))) ∧ tz D σ' (upd H' d (.dK (l.map fun y => (kk y, r y)))), ct := Pv od (i + 1) } (σ'.set j (some (r y))) H')
    (hdn : ∀ od σ' H', Pv od l.length σ' H' → tz D σ' (upd H' d (.dK (l.map fun y => (kk y, r y))))) : tSeq (tLock (tFor (iVals td) (gName j) tu)) tz D σ H :=
  s_forDG (D := { D with nx := tz D }) kk r hd ht Pv h0 hl hs hdn
/-- what is not the dict itself is known within, too -/
theorem lock_ex {d b : Addr} {u o : HO} {od : Obj} (hd : H d = some u) (h : H b = some o) (hne : u ≠ o) : upd H d (.frz od u) b = some o := by
  rw [upd_ne (fun z => by rw [z, hd] at h; exact hne (Option.some.inj h))]
  exact h
end
/-! ### the world -/
structure Gh where
  w : Addr
  r : Addr
  pd : Addr
  ed : Addr
  md : Addr
  pa : Nat → Addr
  ea : Nat → Addr
  ma : Nat → Addr
def pKv (pa : Nat → Addr) (l : List Player) : List (Key × V) := l.map fun p => (Sum.inl ((p.num : Nat) : Int), V.ref (pa p.num))
def eKv (ea : Nat → Addr) (l : List Ent) : List (Key × V) := l.map fun e => (Sum.inl ((e.num : Nat) : Int), V.ref (ea e.num))
def mKv (ma : Nat → Addr) (l : List Match) : List (Key × V) := l.map fun m => (Sum.inl ((m.num : Nat) : Int), V.ref (ma m.num))
abbrev wF (γ : Gh) (s : State) : List (Str × V) := worldF γ.r (s.now : Nat) (s.pool : Nat) (s.season : Nat) (s.next : Nat) γ.pd γ.ed γ.md
/-- the state as it lies in the heap; a dict may be locked -/
structure WS (c : Cs) (H : Hp) (γ : Gh) (s : State) : Prop where
  wo : ∃ dx, H γ.w = some (.ins c.W dx (wF γ s))
  ru : RulesAt c H γ.r s.rules
  pd : Rd H γ.pd (.dK (pKv γ.pa s.players))
  ed : Rd H γ.ed (.dK (eKv γ.ea s.entries))
  md : Rd H γ.md (.dK (mKv γ.ma s.matches_))
  ps : ∀ p ∈ s.players, PlayerAt c H (γ.pa p.num) p
  en : ∀ e ∈ s.entries, EntryAt c H γ.pa (γ.ea e.num) e
  ms : ∀ m ∈ s.matches_, MatchAt c H γ.pa (γ.ma m.num) m
theorem WS.mono {c : Cs} {H H' : Hp} {γ : Gh} {s : State} (e : Ex H H') (h : WS c H γ s) : WS c H' γ s :=
  ⟨let ⟨dx, q⟩ := h.wo; ⟨dx, e _ _ q⟩, h.ru.mono e, ex_rd e h.pd, ex_rd e h.ed, ex_rd e h.md, fun p hp => (h.ps p hp).mono e, fun p hp => (h.en p hp).mono e, fun p hp => (h.ms p hp).mono e⟩
/-- nothing is locked -/
structure Un3 (H : Hp) (γ : Gh) (s : State) : Prop where
  pd : H γ.pd = some (.dK (pKv γ.pa s.players))
  ed : H γ.ed = some (.dK (eKv γ.ea s.entries))
  md : H γ.md = some (.dK (mKv γ.ma s.matches_))
theorem Un3.mono {H H' : Hp} {γ : Gh} {s : State} (e : Ex H H') (h : Un3 H γ s) : Un3 H' γ s := ⟨e _ _ h.pd, e _ _ h.ed, e _ _ h.md⟩
/-- what holds of every state that the calls can reach -/
structure Wf (s : State) : Prop where
  side : 1 ≤ s.rules.side ∧ s.rules.side ≤ 3
  base : s.rules.base ≤ 10000000
  step : 1 ≤ s.rules.step ∧ s.rules.step ≤ 1000000
  factor : s.rules.factor ≤ 1000000
  range : 1 ≤ s.rules.range ∧ s.rules.range ≤ 10000000
  fine : s.rules.fine ≤ 1000000
  pn : (s.players.map fun p => p.num).Nodup
  pl : s.players.length ≤ 24
  pr : ∀ p ∈ s.players, p.rating ≤ Vbwsap.TOP ∧ 1 ≤ p.num ∧ p.num ≤ 999
  en : (s.entries.map fun e => e.num).Nodup
  el : s.entries.length ≤ 12
  ew : ∀ e ∈ s.entries, 1 ≤ e.who.length ∧ e.who.length ≤ s.rules.side ∧ e.since ≤ s.now ∧ e.num < s.next
  mn : (s.matches_.map fun m => m.num).Nodup
  ml : ∀ m ∈ s.matches_, m.a.length = s.rules.side ∧ m.b.length = s.rules.side ∧ m.num < s.next
  mem : (s.entries.flatMap (fun e => e.who) ++ s.matches_.flatMap (fun m => m.a ++ m.b)).Nodup
  inp : ∀ n ∈ s.entries.flatMap (fun e => e.who) ++ s.matches_.flatMap (fun m => m.a ++ m.b), ∃ p ∈ s.players, p.num = n
  now : s.now ≤ 1000000
/-- the player of a number -/
def plOf (s : State) (n : Nat) : Player := (Vbwsap.playerOf s n).getD ⟨n, 0, 0, 0, 0⟩
theorem find_num {l : List Player} (nd : (l.map fun p => p.num).Nodup) {p : Player} (h : p ∈ l) : l.find? (fun q => q.num == p.num) = some p := by
  induction l with
  | nil => simp at h
  | cons x r ih =>
    rw [List.map_cons, List.nodup_cons] at nd
    rw [List.find?_cons]
    rcases List.mem_cons.mp h with z | z
    · subst z
      simp
    · have hne : (x.num == p.num) = false := by
        apply beq_false_of_ne
        intro e
        exact nd.1 (List.mem_map.mpr ⟨p, z, e.symm⟩)
      rw [hne]
      exact ih nd.2 z
theorem Wf.player {s : State} (W : Wf s) {p : Player} (h : p ∈ s.players) : plOf s p.num = p := by
  unfold plOf Vbwsap.playerOf
  rw [find_num W.pn h]
  rfl
theorem Wf.who {s : State} (W : Wf s) {e : Ent} (he : e ∈ s.entries) {n : Nat} (hn : n ∈ e.who) : ∃ p ∈ s.players, p.num = n := W.inp n (List.mem_append_left _ (List.mem_flatMap.mpr ⟨e, he, hn⟩))
theorem Wf.mat {s : State} (W : Wf s) {m : Match} (hm : m ∈ s.matches_) {n : Nat} (hn : n ∈ m.a ++ m.b) : ∃ p ∈ s.players, p.num = n := W.inp n (List.mem_append_right _ (List.mem_flatMap.mpr ⟨m, hm, hn⟩))
theorem WS.pls {c : Cs} {H : Hp} {γ : Gh} {s : State} (h : WS c H γ s) (W : Wf s) {l : List Nat} (hl : ∀ n ∈ l, ∃ p ∈ s.players, p.num = n) : Pls c H γ.pa (plOf s) l := fun n hn => by
  obtain ⟨p, hp, rfl⟩ := hl n hn
  rw [W.player hp]
  exact h.ps p hp
theorem plOf_num {s : State} (W : Wf s) {n : Nat} (h : ∃ p ∈ s.players, p.num = n) : (plOf s n).num = n := by
  obtain ⟨p, hp, rfl⟩ := h
  rw [W.player hp]
theorem plOf_rating (s : State) (n : Nat) : (plOf s n).rating = Vbwsap.ratingOf s n := by
  unfold plOf Vbwsap.ratingOf
  cases Vbwsap.playerOf s n <;> rfl
theorem WS.grp {c : Cs} {H : Hp} {γ : Gh} {s : State} (h : WS c H γ s) (W : Wf s) {row : List Ent} (hr : ∀ e ∈ row, e ∈ s.entries) : Grp c H γ.pa γ.ea (plOf s) row :=
  ⟨fun e he => h.en e (hr e he), fun e he => h.pls W fun n hn => W.who (hr e he) hn, fun e he => by have := (W.ew e (hr e he)).2.1; have := W.side.2; omega⟩
theorem rsum_spec (s : State) (row : List Ent) : rsum (plOf s) row = Vbwsap.sumRating s (membersOf row) := by
  unfold rsum Vbwsap.sumRating
  congr 1
  apply List.map_congr_left
  intro n _
  exact plOf_rating s n
section
variable {P : Program} {w : World} {K : PySem.W.Frag} {mg : Str → Option Value} {base : Heap} {c : Cs}
def sp_window_of (c : Cs) : Sp := fun vs H Q _ => ∃ (γ : Gh) (s : State) (e : Ent), vs = [.ref γ.w, .ref (γ.ea e.num)] ∧ WS c H γ s ∧ Wf s ∧ EntryAt c H γ.pa (γ.ea e.num) e ∧ e.since ≤ s.now ∧ RetV (.int (Vbwsap.window s e : Nat)) H Q
abbrev s_window_of : Stmt := top 11
abbrev n_window_of : List Str := ["world", "party"]
abbrev p_window_of : List Str := ["world", "party"]
theorem sc_window_of : FnScope n_window_of p_window_of (defScope s_window_of) := ⟨rfl, rfl, rfl, by decide +kernel, rfl, by decide +kernel, by decide +kernel⟩

theorem ok_window_of (T : Txt mg) (CC : CT K c) (D : Def K mg "window_of" s_window_of p_window_of) : Has P w K mg base 1 "window_of" p_window_of (sp_window_of c) := by
  refine D.has sc_window_of (fun vs H Q E h => ?_) (fun f cdv A outer sh H vs Q E hr h => ?_)
  · obtain ⟨γ, s, e, rfl, _⟩ := h
    rfl
  · obtain ⟨γ, s, e, rfl, ws, W, en, hs, k⟩ := h
    refine ⟨_, (pss_one (ps_ret (pe_op op_add (pe_fld (pe_fld (pv 0) rfl) rfl) (pe_op op_mul (pe_fld (pe_fld (pv 0) rfl) rfl) (pe_op op_sub (pe_fld (pv 0) rfl) (pe_fld (pv 1) rfl)))))), ?_⟩
    obtain ⟨dw, h1⟩ := ws.wo
    obtain ⟨dr, h2⟩ := ws.ru
    obtain ⟨de, l, h3, h4⟩ := en
    refine s_ret (ev_is (ev_op (ev_R CC (ev_W CC (ev_var rfl) h1 (worldF_rules ..)) h2 (rulesF_base _)) (ev_op (ev_R CC (ev_W CC (ev_var rfl) h1 (worldF_rules ..)) h2 (rulesF_step _)) (ev_op (ev_W CC (ev_var rfl) h1 (worldF_tick ..)) (ev_E CC (ev_var rfl) h3 (entryF_since _ _)) rv_I0) (rv_I (Or.inl ?_))) rv_I0) ?_) k
    · have := W.step
      omega
    · unfold Vbwsap.window
      congr 1
      have e1 : ((s.now - e.since : Nat) : Int) = (s.now : Int) - (e.since : Int) := by omega
      rw [Int.natCast_add, Int.natCast_mul, e1]
def sp_waits (c : Cs) : Sp := fun vs H Q _ => ∃ (γ : Gh) (s : State) (n : Nat), vs = [.ref γ.w, .int (n : Nat)] ∧ WS c H γ s ∧ Wf s ∧ Un3 H γ s ∧ RetV (.bl (Vbwsap.queued s n)) H Q
abbrev s_waits : Stmt := top 15
abbrev n_waits : List Str := ["world", "number", "party"]
abbrev p_waits : List Str := ["world", "number"]
theorem sc_waits : FnScope n_waits p_waits (defScope s_waits) := ⟨rfl, rfl, rfl, by decide +kernel, rfl, by decide +kernel, by decide +kernel⟩

theorem ok_waits (T : Txt mg) (CC : CT K c) (D : Def K mg "waits" s_waits p_waits) (G_numbers_of : Has P w K mg base 1 "numbers_of" p_numbers_of (sp_numbers_of K c)) : Has P w K mg base 2 "waits" p_waits (sp_waits c) := by
  refine D.has sc_waits (fun vs H Q E h => ?_) (fun f cdv A outer sh H vs Q E hr h => ?_)
  · obtain ⟨γ, s, n, rfl, _⟩ := h
    rfl
  · obtain ⟨γ, s, n, rfl, ws, W, un, k⟩ := h
    refine ⟨_, (pss_cons (ps_lock (ps_for PassesOwn.never rfl (pi_values (pe_fld (pv 0) rfl)) (pg_name (i := 2) sc_waits.nd rfl (Or.inl rfl))
  (pss_one (ps_if (pt_cmpR op_in_seq (pv 1) (pe_has G_numbers_of (hr.mono (by decide)) rfl (pa_cons (pe_fld (pv 2) rfl) pa_nil)) rfl)
  (pss_one (ps_ret pe_bl)) pss_nil))))
 (pss_one (ps_ret pe_bl))), ?_⟩
    obtain ⟨dw, h1⟩ := ws.wo
    refine q_forD (l := s.entries) (fun e => Sum.inl ((e.num : Nat) : Int)) (fun e => V.ref (γ.ea e.num)) un.ed (fun od => ev_W CC (ev_var rfl) (lock_ex un.ed h1 (by intro z; cases z)) (worldF_parties ..))
      (fun i σ' => (∃ x, σ' = [some (.ref γ.w), some (.int (n : Nat)), x]) ∧ (s.entries.take i).any (fun e => e.who.contains n) = false) ⟨⟨none, rfl⟩, rfl⟩ ?_ ?_
    · rintro od i e σ' H' hi ⟨⟨x, rfl⟩, hno⟩ ex D' knx krt
      have he : e ∈ s.entries := List.mem_of_getElem? hi
      obtain ⟨de, l, h3, h4⟩ := ws.en e he
      have h3' := ex _ _ (lock_ex (od := od) un.ed h3 (by intro z; cases z))
      have h4' := ex _ _ (lock_ex (od := od) un.ed h4 (by intro z; cases z))
      refine s_when (b := e.who.contains n) (et_is (et_test (ev_opL (xs := e.who.map fun n => V.int ((n : Nat) : Int)) (ev_var rfl) (el_callL (vs := [.ref l]) (ea_cons (ev_E CC (ev_var rfl) h3' (entryF_members _ _)) ea_nil) fun H1 e1 Q' q' => ?_) fun p H1 hp _ => rv_isL (sq_of hp) rfl (flat_nats _))) (inV_nat n e.who)) (fun hb H1 e1 => ?_) (fun hb H1 e1 => ?_)
      · refine ⟨l, γ.pa, plOf s, e.who, rfl, sq_of (e1 _ _ h4'), fun m hm => ?_, ?_, ?_⟩
        · obtain ⟨dx, z⟩ := (ws.pls W (fun n hn => W.who he hn)) m hm
          exact ⟨dx, e1 _ _ (ex _ _ (lock_ex (od := od) un.ed z (by intro z; cases z)))⟩
        · have := (W.ew e he).2.1
          have := W.side.2
          omega
        · have e0 : (e.who.map fun n => V.int (((plOf s n).num : Nat) : Int)) = e.who.map fun n => V.int ((n : Nat) : Int) := by
            apply List.map_congr_left
            intro m hm
            rw [plOf_num W (W.who he hm)]
          rw [e0]
          exact q'
      · refine s_ret ev_c fun H2 e2 => krt _ _ (e1.trans e2) fun H3 e3 => ?_
        have e0 : Vbwsap.queued s n = true := List.any_eq_true.mpr ⟨e, he, hb⟩
        have z := k H3 e3
        rw [e0] at z
        exact z
      · refine knx _ _ ⟨⟨_, rfl⟩, ?_⟩ e1
        rw [take_more hi, List.any_append, hno]
        simp only [List.any_cons, List.any_nil, Bool.or_false, Bool.false_or]
        exact hb
    · rintro σ' H2 ⟨⟨x, rfl⟩, hno⟩ e2
      rw [List.take_length] at hno
      have e0 : Vbwsap.queued s n = false := hno
      refine s_ret ev_c fun H3 e3 => ?_
      have z := k H3 (e2.trans e3)
      rw [e0] at z
      exact z
end
end EM

namespace EM
open PySem PySem.Spec PyProof.Rows L2 Evl
open Vbwsap (Rules Player Match sumOf membersOf gap State)
/-! ### stores to fields, new objects -/
section
variable {K : PySem.W.Frag} {σ : L2.St} {H : Hp} {D : Ends} {tu tz : TS} {ta tv : TE}
theorem s_fld {a C dx : Addr} {fs : List (Str × V)} {f : Str} {y : V} (hv : Ev tv σ H y) (ha : Ev ta σ H (.ref a)) (h : H a = some (.ins C dx fs)) (cl : Cls K C) (na : NoAttr K C f) (hz : fs.length < 1000) (k : ∀ H1, Ex H H1 → D.nx σ (upd H1 a (.ins C dx (putF f y fs)))) :
    sFld K ta tv f D σ H := hv H (Ex.refl H) _ fun H1 e1 => ha H1 e1 _ fun H2 e2 => ⟨a, C, dx, fs, rfl, (e1.trans e2) _ _ h, cl, na, hz, k H2 (e1.trans e2)⟩
theorem q_fld {a C dx : Addr} {fs : List (Str × V)} {f : Str} {y : V} (hv : Ev tv σ H y) (ha : Ev ta σ H (.ref a)) (h : H a = some (.ins C dx fs)) (cl : Cls K C) (na : NoAttr K C f) (hz : fs.length < 1000) (k : ∀ H1, Ex H H1 → tz D σ (upd H1 a (.ins C dx (putF f y fs)))) :
    tSeq (sFld K ta tv f) tz D σ H := s_fld (D := { D with nx := tz D }) hv ha h cl na hz k
def made (H : Hp) (x dx C : Addr) : Hp := upd (upd H dx (.own x)) x (.ins C dx [])
theorem made_ex {x dx C : Addr} (nx : H x = none) (nd : H dx = none) : Ex H (made H x dx C) := fun b o e => by
  unfold made
  rw [upd_ne (ne_of_none e nx), upd_ne (ne_of_none e nd)]
  exact e
theorem made_at {x dx C : Addr} : made H x dx C x = some (.ins C dx []) := upd_same
/-- C(..) in an expression -/
theorem mk_go {sp : Sp} {C : Addr} {vs : List V} {ta : TA} {Q : VK} (ha : EvA ta σ H vs) (k : ∀ H1 x dx, Ex H H1 → H1 x = none → H1 dx = none → dx ≠ x → sp (.ref x :: vs) (made H1 x dx C) (fun v H2 => v = .non ∧ Q (.ref x) H2) E0) : tMake C sp [] E0 ta σ H Q :=
  ha H (Ex.refl H) _ fun H1 e1 x dx nx nd ne => by
    show sp (.ref x :: (vs ++ [])) _ _ _
    rw [List.append_nil]
    exact k H1 x dx e1 nx nd ne
end
section
variable {P : Program} {w : World} {K : PySem.W.Frag} {mg : Str → Option Value} {base : Heap} {c : Cs}
def absI (x : Int) : Int := if x < 0 then -x else x
/-- how uneven, how much waited, by the program's own reckoning -/
def unev (pl : Nat → Player) (a b : List Ent) : Int := absI ((rsum pl a : Nat) - (rsum pl b : Nat))
def wait (t : Int) (l : List Ent) : Int := (l.map fun e => t - ((e.since : Nat) : Int)).sum
def sp_Pairing (K : PySem.W.Frag) (c : Cs) : Sp := fun vs H Q _ => ∃ (Hb : Hp) (x dx la lb : Addr) (t : Int) (pa ea : Nat → Addr) (pl : Nat → Player) (a b : List Ent), vs = [.ref x, .ref la, .ref lb, .int t] ∧ Ex Hb H ∧ Hb x = none ∧ H x = some (.ins c.G dx []) ∧
  Hb la = some (.lst (eRefs ea a)) ∧ Hb lb = some (.lst (eRefs ea b)) ∧ Grp c Hb pa ea pl a ∧ Grp c Hb pa ea pl b ∧ a.length ≤ 100 ∧ b.length ≤ 100 ∧
  ∀ H', Ex Hb H' → H' x = some (.ins c.G dx (pairF la lb (unev pl a b) (wait t (a ++ b)))) → Q .non H'
abbrev s_Pairing___init__ : Stmt := inClass (top 20) 0
abbrev n_Pairing___init__ : List Str := ["self", "first", "second", "tick", "party"]
abbrev p_Pairing___init__ : List Str := ["self", "first", "second", "tick"]
theorem sc_Pairing___init__ : FnScope n_Pairing___init__ p_Pairing___init__ (defScope s_Pairing___init__) := ⟨rfl, rfl, rfl, by decide +kernel, rfl, by decide +kernel, by decide +kernel⟩

theorem ok_Pairing (T : Txt mg) (CC : CT K c) (D : DefM K c.G "__init__" "Pairing.__init__" s_Pairing___init__ p_Pairing___init__) (mk : PySem.W.makesIn K c.G = true) (kc : PySem.W.keepIn K (.ref c.G) = true) (gC : mg "Pairing" = some (.ref c.G))
    (G_rating_sum : Has P w K mg base 1 "rating_sum" p_rating_sum (sp_rating_sum K c)) : HasC P w K mg base 2 "Pairing" c.G p_Pairing___init__ (sp_Pairing K c) := by
  refine D.hasC mk kc gC sc_Pairing___init__ (fun vs H Q E h => ?_) (fun f cdv A outer sh H vs Q E hr h => ?_)
  · obtain ⟨Hb, x, dx, la, lb, t, pa, ea, pl, a, b, rfl, _⟩ := h
    rfl
  · obtain ⟨Hb, x, dx, la, lb, t, pa, ea, pl, a, b, rfl, eb, bx, hx, h1, h2, g1, g2, z1, z2, k⟩ := h
    refine ⟨_, (pss_cons (ps_fld (pv 0) (pv 1) rfl)
 (pss_cons (ps_fld (pv 0) (pv 2) rfl)
 (pss_cons (ps_fld (pv 0) (pe_callB call_abs (by rfl) T.abs (by decide +kernel) (pa_cons (pe_op op_sub (pe_has G_rating_sum (hr.mono (by decide)) rfl (pa_cons (pv 1) pa_nil)) (pe_has G_rating_sum (hr.mono (by decide)) rfl (pa_cons (pv 2) pa_nil))) pa_nil)) rfl)
 (pss_one (ps_fld (pv 0) (pe_callB (cr_sum rfl) (by rfl) T.sum (by decide +kernel) (pa_cons (pe_lc (own := [("party", 4)]) (g := gName 4) (tt := tYes) (te := (tOp (rI0 fun i j => .int (i - j)) (tVar 3) (tFld K (tVar 4) "since"))) rfl sc_Pairing___init__.nd (pi_list (pe_op op_cat (pv 1) (pv 2))) (blkOk_by (N := n_Pairing___init__) (sc := defScope s_Pairing___init__) (by decide +kernel)) (fun _ _ _ _ _ => pg_name (i := 4) sc_Pairing___init__.nd rfl (Or.inl rfl)) (fun _ _ _ _ _ => pts_nil) (fun _ _ _ _ _ => (pe_op op_sub (pv 3) (pe_fld (pv 4) rfl)))) pa_nil)) rfl))))), ?_⟩
    refine q_fld (ev_var rfl) (ev_var rfl) hx CC.G.cl (CC.G.na _ (by decide +kernel)) (by decide) fun H1 e1 => ?_
    have b1 : Ex Hb (upd H1 x (.ins c.G dx (putF "first" (.ref la) []))) := Ex.mut (eb.trans e1) bx
    refine q_fld (ev_var rfl) (ev_var rfl) upd_same CC.G.cl (CC.G.na _ (by decide +kernel)) (by show 1 < 1000; decide) fun H2 e2 => ?_
    have b2 : Ex Hb (upd H2 x (.ins c.G dx (putF "second" (.ref lb) (putF "first" (.ref la) [])))) := Ex.mut (b1.trans e2) bx
    have rs : ∀ {σ' : L2.St} {H' : Hp} {i : Nat} {l : Addr} {row : List Ent}, Ex Hb H' → Hb l = some (.lst (eRefs ea row)) → Grp c Hb pa ea pl row → σ'[i]? = some (some (.ref l)) → Ev (tCall (sp_rating_sum K c) [] E0 (tCons (tVar i) tNil)) σ' H' (.int (rsum pl row : Nat)) :=
      fun {σ' H' i l row} e hl g hs => ev_callV (vs := [.ref l]) (ea_cons (ev_var hs) ea_nil) fun H3 e3 Q' q' => ⟨l, pa, ea, pl, row, rfl, sq_of ((e.trans e3) _ _ hl), g.mono (e.trans e3), q'⟩
    refine q_fld (ev_cb (ea_cons (ev_op (rs b2 h1 g1 rfl) (rs b2 h2 g2 rfl) rv_I0) ea_nil) (fun H3 e3 Q' q' => ⟨_, rfl, q' H3 (Ex.refl H3)⟩)) (ev_var rfl) upd_same CC.G.cl (CC.G.na _ (by decide +kernel)) (by show 2 < 1000; decide) fun H3 e3 => ?_
    have b3 := Ex.mut (o := .ins c.G dx (putF "uneven" (.int (unev pl a b)) (putF "second" (.ref lb) (putF "first" (.ref la) [])))) (b2.trans e3) bx
    refine s_fld (y := .int (wait t (a ++ b))) ?_ (ev_var rfl) upd_same CC.G.cl (CC.G.na _ (by decide +kernel)) (by show 3 < 1000; decide) fun H4 e4 => ?_
    · have hl : EvL (tOp rCat (tVar 1) (tVar 2)) (start n_Pairing___init__ [.ref x, .ref la, .ref lb, .int t]) (upd H3 x (.ins c.G dx (putF "uneven" (.int (unev pl a b)) (putF "second" (.ref lb) (putF "first" (.ref la) []))))) ((a ++ b).map fun e => V.ref (ea e.num)) := by
        rw [List.map_append]
        exact el_cat (ev_var rfl) (ev_var rfl) (b3 _ _ h1) (b3 _ _ h2) (by rw [List.length_map, List.length_map]; omega)
      refine ev_sumL (ns := (a ++ b).map fun e => t - ((e.since : Nat) : Int)) ?_
      rw [List.map_map]
      refine el_mapNT (l := a ++ b) (fun e => V.ref (ea e.num)) (fun e => V.int (t - ((e.since : Nat) : Int))) hl (by rw [List.length_append]; omega) (fun _ => rfl) (fun n hn H6 e6 => ?_)
      have hn' : EntryAt c Hb pa (ea n.num) n := by
        rcases List.mem_append.mp hn with z | z
        · exact g1.en n z
        · exact g2.en n z
      obtain ⟨de, m, i1, i2⟩ := hn'.mono (b3.trans e6)
      exact ev_op (ev_var rfl) (ev_E CC (ev_var rfl) i1 (entryF_since _ _)) rv_I0
    · refine k _ (Ex.mut (b3.trans e4) bx) ?_
      rw [upd_same]
      rfl
end
end EM

namespace EM
open PySem PySem.Spec PyProof.Rows L2 Evl
open Vbwsap (Rules Player Match sumOf membersOf gap State)
section
variable {K : PySem.W.Frag} {σ : L2.St} {H : Hp} {D : Ends} {tu tz : TS} {ta tv td : TE}
theorem el_listVals {d : Addr} {kvs : List (Key × V)} (h : Ev td σ H (.ref d)) (hd : Rd H d (.dK kvs)) : EvL (tCB rListView (tCons (tValsK td) tNil)) σ H (kvs.map fun kv => kv.2) := fun H1 e Q q =>
  h H1 e _ fun H2 e2 => ⟨d, kvs, rfl, ex_rd (e.trans e2) hd, fun p hp => ⟨p, d, kvs, rfl, upd_same, ex_rd (Ex.new hp) (ex_rd (e.trans e2) hd), fun r hr =>
    q r _ (fresh_back (e2.trans (Ex.new hp)) hr) ((e2.trans (Ex.new hp)).trans (Ex.new hr)) upd_same⟩⟩
/-- f(e), e a list that is made on the spot -/
theorem ev_callN {sp : Sp} {te : TE} {xs : List V} {z : V} (h : EvL te σ H xs) (k : ∀ p H1, Ex H H1 → H1 p = some (.lst xs) → ∀ Q, RetV z H1 Q → sp [.ref p] H1 Q E0) : Ev (tCall sp [] E0 (tCons te tNil)) σ H z := fun H1 e Q q =>
  h H1 e _ fun p H2 _ e2 h2 => k p H2 (e.trans e2) h2 Q fun H3 e3 => q H3 (e2.trans e3)
theorem ev_callVN {sp : Sp} {ta te : TE} {x : V} {xs : List V} {z : V} (ha : Ev ta σ H x) (h : EvL te σ H xs) (k : ∀ p H1, Ex H H1 → H1 p = some (.lst xs) → ∀ Q, RetV z H1 Q → sp [x, .ref p] H1 Q E0) : Ev (tCall sp [] E0 (tCons ta (tCons te tNil))) σ H z := fun H1 e Q q =>
  ha H1 e _ fun H2 e2 => h H2 (e.trans e2) _ fun p H3 _ e3 h3 => k p H3 ((e.trans e2).trans e3) h3 Q fun H4 e4 => q H4 ((e2.trans e3).trans e4)
theorem el_callNN {sp : Sp} {ta te : TE} {xs ys zs : List V} (ha : EvL ta σ H xs) (h : EvL te σ H ys) (k : ∀ p q H1, Ex H H1 → H1 p = some (.lst xs) → H1 q = some (.lst ys) → ∀ Q, RetL zs H1 Q → sp [.ref p, .ref q] H1 Q E0) : EvL (tCall sp [] E0 (tCons ta (tCons te tNil))) σ H zs := fun H1 e Q q =>
  ha H1 e _ fun p H2 _ e2 h2 => h H2 (e.trans e2) _ fun p' H3 _ e3 h3 => k p p' H3 ((e.trans e2).trans e3) (e3 _ _ h2) h3 Q fun r H4 hr e4 h4 => q r H4 (fresh_back (e2.trans e3) hr) ((e2.trans e3).trans e4) h4
/-- a heap without what stands at p -/
def drp (H : Hp) (p : Addr) : Hp := fun b => if b = p then none else H b
theorem drp_ex (H : Hp) (p : Addr) : Ex (drp H p) H := fun b o e => by
  unfold drp at e
  split at e
  · cases e
  · exact e
theorem drp_at {H : Hp} {p b : Addr} {o : HO} (hb : b ≠ p) (e : H b = some o) : drp H p b = some o := by
  unfold drp
  rw [if_neg hb]
  exact e
theorem drp_self {H : Hp} {p : Addr} : drp H p p = none := by
  unfold drp
  rw [if_pos rfl]
theorem drp_mono {H H' : Hp} {p : Addr} (e : Ex H H') : Ex (drp H p) (drp H' p) := fun b o h => by
  by_cases hb : b = p
  · subst hb
    rw [drp_self] at h
    cases h
  · exact drp_at hb (e b o (drp_ex H p b o h))
theorem drp_upd {H : Hp} {p : Addr} {o : HO} : drp (upd H p o) p = drp H p := by
  funext b
  unfold drp
  by_cases hb : b = p
  · rw [if_pos hb, if_pos hb]
  · rw [if_neg hb, if_neg hb, upd_ne hb]
theorem drp_of {Hb H : Hp} {p : Addr} (e : Ex Hb H) (n : Hb p = none) : Ex Hb (drp H p) := fun b o h => drp_at (ne_of_none h n) (e b o h)
end
section
variable {P : Program} {w : World} {K : PySem.W.Frag} {mg : Str → Option Value} {base : Heap} {c : Cs}
def betI (u1 w1 u2 w2 : Int) : Bool := if u1 = u2 then decide (w2 < w1) else decide (u1 < u2)
def sp_is_better (c : Cs) : Sp := fun vs H Q _ => ∃ (a b da db f1 s1 f2 s2 : Addr) (u1 w1 u2 w2 : Int), vs = [.ref a, .ref b] ∧ H a = some (.ins c.G da (pairF f1 s1 u1 w1)) ∧ H b = some (.ins c.G db (pairF f2 s2 u2 w2)) ∧ RetV (.bl (betI u1 w1 u2 w2)) H Q
abbrev s_is_better : Stmt := top 21
abbrev n_is_better : List Str := ["one", "other"]
abbrev p_is_better : List Str := ["one", "other"]
theorem sc_is_better : FnScope n_is_better p_is_better (defScope s_is_better) := ⟨rfl, rfl, rfl, by decide +kernel, rfl, by decide +kernel, by decide +kernel⟩

theorem ok_is_better (CC : CT K c) (D : Def K mg "is_better" s_is_better p_is_better) : Has P w K mg base 1 "is_better" p_is_better (sp_is_better c) := by
  refine D.has sc_is_better (fun vs H Q E h => ?_) (fun f cdv A outer sh H vs Q E hr h => ?_)
  · obtain ⟨a, b, da, db, f1, s1, f2, s2, u1, w1, u2, w2, rfl, _⟩ := h
    rfl
  · obtain ⟨a, b, da, db, f1, s1, f2, s2, u1, w1, u2, w2, rfl, h1, h2, k⟩ := h
    refine ⟨_, (pss_cons (ps_if (pt_cmpR op_ne (pe_fld (pv 0) rfl) (pe_fld (pv 1) rfl) (nomark _))
  (pss_one (ps_ret (pe_cmpR op_lt (pe_fld (pv 0) rfl) (pe_fld (pv 1) rfl) (nomark _)))) pss_nil)
 (pss_one (ps_ret (pe_cmpR op_gt (pe_fld (pv 0) rfl) (pe_fld (pv 1) rfl) (nomark _))))), ?_⟩
    refine q_when (b := !decide (u1 = u2)) (et_is (et_test (ev_op (ev_G CC (ev_var rfl) h1 (pairF_uneven ..)) (ev_G CC (ev_var rfl) h2 (pairF_uneven ..)) (rv_ne rfl))) (by simp)) (fun hb H1 e1 => ?_) (fun hb H1 e1 => ?_)
    · have hne : ¬ u1 = u2 := by simpa using hb
      refine s_ret (ev_op (ev_G CC (ev_var rfl) (e1 _ _ h1) (pairF_uneven ..)) (ev_G CC (ev_var rfl) (e1 _ _ h2) (pairF_uneven ..)) rv_I0) fun H2 e2 => ?_
      have z := k H2 (e1.trans e2)
      unfold betI at z
      rw [if_neg hne] at z
      exact z
    · have heq : u1 = u2 := by simpa using hb
      refine s_ret (ev_op (ev_G CC (ev_var rfl) (e1 _ _ h1) (pairF_waited ..)) (ev_G CC (ev_var rfl) (e1 _ _ h2) (pairF_waited ..)) rv_I0) fun H2 e2 => ?_
      have z := k H2 (e1.trans e2)
      unfold betI at z
      rw [if_pos heq] at z
      exact z
def cdivI (a b : Int) : Int := -((-a).fdiv b)
def sp_rounded_up : Sp := fun vs H Q _ => ∃ a b : Int, vs = [.int a, .int b] ∧ 0 < b ∧ b < 1073741824 ∧ RetV (.int (cdivI a b)) H Q
abbrev s_rounded_up : Stmt := top 26
abbrev n_rounded_up : List Str := ["amount", "divisor"]
abbrev p_rounded_up : List Str := ["amount", "divisor"]
theorem sc_rounded_up : FnScope n_rounded_up p_rounded_up (defScope s_rounded_up) := ⟨rfl, rfl, rfl, by decide +kernel, rfl, by decide +kernel, by decide +kernel⟩

theorem ok_rounded_up (D : Def K mg "rounded_up" s_rounded_up p_rounded_up) : Has P w K mg base 1 "rounded_up" p_rounded_up sp_rounded_up := by
  refine D.has sc_rounded_up (fun vs H Q E h => ?_) (fun f cdv A outer sh H vs Q E hr h => ?_)
  · obtain ⟨a, b, rfl, _⟩ := h
    rfl
  · obtain ⟨a, b, rfl, h1, h2, k⟩ := h
    refine ⟨_, (pss_one (ps_ret (pe_un un_neg (pe_op op_fdivN (pe_un un_neg (pv 0)) (pv 1))))), ?_⟩
    exact s_ret (ev_un (ev_op (ev_un (ev_var rfl) ru_neg) (ev_var rfl) (rv_I ⟨by omega, by omega⟩)) ru_neg) k
def maxI (i j : Int) : Int := if j > i then j else i
def tkSince (r : Rules) (pl : Nat → Player) (total : Int) (e : Ent) : Int :=
  ((e.since : Nat) : Int) + maxI 0 (cdivI (cdivI (absI (total * ((e.who.length : Nat) : Int) - ((rsum pl [e] : Nat) : Int) * (2 * ((r.side : Nat) : Int)))) (((e.who.length : Nat) : Int) * (2 * ((r.side : Nat) : Int))) - ((r.base : Nat) : Int)) ((r.step : Nat) : Int))
def sp_taken_since (c : Cs) : Sp := fun vs H Q _ => ∃ (ra : Addr) (r : Rules) (pa ea : Nat → Addr) (pl : Nat → Player) (e : Ent) (total : Int), vs = [.ref ra, .ref (ea e.num), .int total] ∧ RulesAt c H ra r ∧ Grp c H pa ea pl [e] ∧ 1 ≤ e.who.length ∧ e.who.length ≤ 3 ∧
  1 ≤ r.side ∧ r.side ≤ 3 ∧ 1 ≤ r.step ∧ r.step ≤ 1000000 ∧ RetV (.int (tkSince r pl total e)) H Q
abbrev s_taken_since : Stmt := top 27
abbrev n_taken_since : List Str := ["rules", "party", "total", "size", "everyone", "apart", "lacking"]
abbrev p_taken_since : List Str := ["rules", "party", "total"]
theorem sc_taken_since : FnScope n_taken_since p_taken_since (defScope s_taken_since) := ⟨rfl, rfl, rfl, by decide +kernel, rfl, by decide +kernel, by decide +kernel⟩

theorem ok_taken_since (T : Txt mg) (CC : CT K c) (D : Def K mg "taken_since" s_taken_since p_taken_since) (G_rating_sum : Has P w K mg base 1 "rating_sum" p_rating_sum (sp_rating_sum K c)) (G_rounded_up : Has P w K mg base 1 "rounded_up" p_rounded_up sp_rounded_up) : Has P w K mg base 2 "taken_since" p_taken_since (sp_taken_since c) := by
  refine D.has sc_taken_since (fun vs H Q E h => ?_) (fun f cdv A outer sh H vs Q E hr h => ?_)
  · obtain ⟨ra, r, pa, ea, pl, e, total, rfl, _⟩ := h
    rfl
  · obtain ⟨ra, r, pa, ea, pl, e, total, rfl, ru, g, z1, z2, z3, z4, z5, z6, k⟩ := h
    refine ⟨_, (pss_cons (ps_set (i := 3) sc_taken_since.nd rfl (Or.inl rfl) (pe_callB call_len_seq (by rfl) T.len PySem.boot_len (pa_cons (pe_fld (pv 1) rfl) pa_nil)))
 (pss_cons (ps_set (i := 4) sc_taken_since.nd rfl (Or.inl rfl) (pe_op op_mul pe_int (pe_fld (pv 0) rfl)))
 (pss_cons (ps_set (i := 5) sc_taken_since.nd rfl (Or.inl rfl) (pe_callB call_abs (by rfl) T.abs (by decide +kernel) (pa_cons (pe_op op_sub (pe_op op_mul (pv 2) (pv 3)) (pe_op op_mul (pe_has G_rating_sum (hr.mono (by decide)) rfl (pa_cons (pe_lst (pa_cons (pv 1) pa_nil)) pa_nil)) (pv 4))) pa_nil)))
 (pss_cons (ps_set (i := 6) sc_taken_since.nd rfl (Or.inl rfl) (pe_op op_sub (pe_has G_rounded_up (hr.mono (by decide)) rfl (pa_cons (pv 5) (pa_cons (pe_op op_mul (pv 3) (pv 4)) pa_nil))) (pe_fld (pv 0) rfl)))
 (pss_one (ps_ret (pe_op op_add (pe_fld (pv 1) rfl) (pe_callB (call_max2 rfl) (by rfl) T.max (by decide +kernel) (pa_cons pe_int (pa_cons (pe_has G_rounded_up (hr.mono (by decide)) rfl (pa_cons (pv 6) (pa_cons (pe_fld (pv 0) rfl) pa_nil))) pa_nil)))))))))), ?_⟩
    obtain ⟨dr, hr1⟩ := ru
    obtain ⟨de, l, h1, h2⟩ := g.en e List.mem_cons_self
    refine q_asg (v := .int ((e.who.length : Nat) : Int)) (ev_is (ev_len (ev_E CC (ev_var rfl) h1 (entryF_members _ _)) (sq_of h2)) (by rw [List.length_map])) fun H1 e1 => ?_
    refine q_asg (ev_op ev_c (ev_R CC (ev_var rfl) (e1 _ _ hr1) (rulesF_side _)) (rv_I (Or.inl (by decide)))) fun H2 e2 => ?_
    have e12 := e1.trans e2
    refine q_asg (v := .int (absI (total * ((e.who.length : Nat) : Int) - ((rsum pl [e] : Nat) : Int) * (2 * ((r.side : Nat) : Int))))) ?_ fun H3 e3 => ?_
    · refine ev_cb (ea_cons (ev_op (ev_op (ev_var rfl) (ev_var rfl) (rv_I (Or.inr ?_))) (ev_op (x := .int ((rsum pl [e] : Nat) : Int)) ?_ (ev_var rfl) (rv_I (Or.inr ?_))) rv_I0) ea_nil) (fun H3 e3 Q' q' => ⟨_, rfl, q' H3 (Ex.refl H3)⟩)
      · omega
      · exact ev_callN (xs := [V.ref (ea e.num)]) (el_lst (ea_cons (ev_var rfl) ea_nil) (by show 1 ≤ 100000; decide)) fun p H5 e5 h5 Q' q' => ⟨p, pa, ea, pl, [e], rfl, sq_of h5, g.mono (e12.trans e5), q'⟩
      · omega
    · have hsz : (1 : Int) ≤ ((e.who.length : Nat) : Int) ∧ ((e.who.length : Nat) : Int) ≤ 3 := by omega
      have hsd : (1 : Int) ≤ ((r.side : Nat) : Int) ∧ ((r.side : Nat) : Int) ≤ 3 := by omega
      have hpos : 0 < ((e.who.length : Nat) : Int) * (2 * ((r.side : Nat) : Int)) := Int.mul_pos (by omega) (by omega)
      have hle : ((e.who.length : Nat) : Int) * (2 * ((r.side : Nat) : Int)) ≤ 3 * 6 := Int.mul_le_mul hsz.2 (by omega) (by omega) (by omega)
      refine q_asg (ev_op (ev_callV (vs := [_, _]) (ea_cons (ev_var rfl) (ea_cons (ev_op (ev_var rfl) (ev_var rfl) (rv_I (Or.inl (by omega)))) ea_nil)) fun H4 e4 Q' q' => ⟨_, _, rfl, hpos, by omega, q'⟩) (ev_R CC (ev_var rfl) ((e12.trans e3) _ _ hr1) (rulesF_base _)) rv_I0) fun H4 e4 => ?_
      refine s_ret (ev_op (ev_E CC (ev_var rfl) (((e12.trans e3).trans e4) _ _ h1) (entryF_since _ _)) (ev_max2 ev_c (ev_callV (vs := [_, _]) (ea_cons (ev_var rfl) (ea_cons (ev_R CC (ev_var rfl) (((e12.trans e3).trans e4) _ _ hr1) (rulesF_step _)) ea_nil)) fun H5 e5 Q' q' => ⟨_, _, rfl, by omega, by omega, q'⟩)) rv_I0) fun H5 e5 => k H5 (((e12.trans e3).trans e4).trans e5)
end
end EM

namespace EM
open PySem PySem.Spec PyProof.Rows L2 Evl
open Vbwsap (Rules Player Match sumOf membersOf gap State)
section
variable {P : Program} {w : World} {K : PySem.W.Frag} {mg : Str → Option Value} {base : Heap} {c : Cs}
structure ROk (r : Rules) : Prop where
  s1 : 1 ≤ r.side
  s2 : r.side ≤ 3
  t1 : 1 ≤ r.step
  t2 : r.step ≤ 1000000
theorem Wf.rok {s : State} (W : Wf s) : ROk s.rules := ⟨W.side.1, W.side.2, W.step.1, W.step.2⟩
def SzOk (row : List Ent) : Prop := ∀ e ∈ row, 1 ≤ e.who.length ∧ e.who.length ≤ 3
def tks (r : Rules) (pl : Nat → Player) (row : List Ent) : List Int := row.map (tkSince r pl (rsum pl row : Nat))
def sp_playable_since (K : PySem.W.Frag) (c : Cs) : Sp := fun vs H Q _ => ∃ (ra l : Addr) (r : Rules) (pa ea : Nat → Addr) (pl : Nat → Player) (row : List Ent) (m : Int), vs = [.ref ra, .ref l] ∧ RulesAt c H ra r ∧ SqL K H l (eRefs ea row) ∧ Grp c H pa ea pl row ∧ ROk r ∧ SzOk row ∧ row.length ≤ 1000 ∧
  IsMax m (tks r pl row) ∧ RetV (.int m) H Q
abbrev s_playable_since : Stmt := top 29
abbrev n_playable_since : List Str := ["rules", "parties", "total", "party"]
abbrev p_playable_since : List Str := ["rules", "parties"]
theorem sc_playable_since : FnScope n_playable_since p_playable_since (defScope s_playable_since) := ⟨rfl, rfl, rfl, by decide +kernel, rfl, by decide +kernel, by decide +kernel⟩

theorem ok_playable_since (T : Txt mg) (CC : CT K c) (D : Def K mg "playable_since" s_playable_since p_playable_since) (G_rating_sum : Has P w K mg base 1 "rating_sum" p_rating_sum (sp_rating_sum K c)) (G_taken_since : Has P w K mg base 2 "taken_since" p_taken_since (sp_taken_since c)) : Has P w K mg base 3 "playable_since" p_playable_since (sp_playable_since K c) := by
  refine D.has sc_playable_since (fun vs H Q E h => ?_) (fun f cdv A outer sh H vs Q E hr h => ?_)
  · obtain ⟨ra, l, r, pa, ea, pl, row, m, rfl, _⟩ := h
    rfl
  · obtain ⟨ra, l, r, pa, ea, pl, row, m, rfl, ru, hl, g, ro, sz, hz, hm, k⟩ := h
    refine ⟨_, (pss_cons (ps_set (i := 2) sc_playable_since.nd rfl (Or.inr rfl) (pe_has G_rating_sum (hr.mono (by decide)) rfl (pa_cons (pv 1) pa_nil)))
 (pss_one (ps_ret (pe_callB (cr_max rfl) (by rfl) T.max (by decide +kernel) (pa_cons (pe_lc (own := [("party", 3)]) (g := gName 3) (tt := tYes) (te := (tCall (sp_taken_since c) [] E0 (tCons (tVar 0) (tCons (tVar 3) (tCons (tVar 2) tNil))))) rfl sc_playable_since.nd (pi_list (pv 1)) (blkOk_by (N := n_playable_since) (sc := defScope s_playable_since) (by decide +kernel)) (fun _ _ _ _ _ => pg_name (i := 3) sc_playable_since.nd rfl (Or.inl rfl)) (fun _ _ _ _ _ => pts_nil) (fun _ _ _ _ _ => (pe_has G_taken_since (hr.mono (by decide)) rfl (pa_cons (pv 0) (pa_cons (pv 3) (pa_cons (pv 2) pa_nil)))))) pa_nil))))), ?_⟩
    refine q_asg (v := .int (rsum pl row : Nat)) (ev_callV (vs := [.ref l]) (ea_cons (ev_var rfl) ea_nil) fun H1 e1 Q' q' => ⟨l, pa, ea, pl, row, rfl, ex_l e1 hl, g.mono e1, q'⟩) fun H1 e1 => ?_
    refine s_ret (ev_maxL (ns := tks r pl row) ?_ hm) fun H2 e2 => k H2 (e1.trans e2)
    unfold tks
    rw [List.map_map]
    refine el_mapT (l := row) (fun e => V.ref (ea e.num)) (fun e => V.int (tkSince r pl (rsum pl row : Nat) e)) (ev_var rfl) (ex_l e1 hl) (by omega) (fun _ => rfl) fun n hn H2 e2 => ?_
    refine ev_callV (vs := [.ref ra, .ref (ea n.num), .int (rsum pl row : Nat)]) (ea_cons (ev_var rfl) (ea_cons (ev_var rfl) (ea_cons (ev_var rfl) ea_nil))) fun H3 e3 Q' q' => ?_
    exact ⟨ra, r, pa, ea, pl, n, _, rfl, ru.mono ((e1.trans e2).trans e3), (g.sub (fun e he => by rw [List.mem_singleton.mp he]; exact hn)).mono ((e1.trans e2).trans e3), (sz n hn).1, (sz n hn).2, ro.s1, ro.s2, ro.t1, ro.t2, q'⟩
/-! ### the pairings of a party -/
abbrev Sd := List Ent × List Ent
def PairAt (c : Cs) (H : Hp) (ea : Nat → Addr) (pl : Nat → Player) (t : Int) (g : Addr) (x : Sd) : Prop := ∃ dx la lb, H g = some (.ins c.G dx (pairF la lb (unev pl x.1 x.2) (wait t (x.1 ++ x.2)))) ∧ H la = some (.lst (eRefs ea x.1)) ∧ H lb = some (.lst (eRefs ea x.2))
theorem PairAt.mono {c : Cs} {H H' : Hp} {ea : Nat → Addr} {pl : Nat → Player} {t : Int} {g : Addr} {x : Sd} (e : Ex H H') (h : PairAt c H ea pl t g x) : PairAt c H' ea pl t g x := let ⟨dx, la, lb, h1, h2, h3⟩ := h; ⟨dx, la, lb, e _ _ h1, e _ _ h2, e _ _ h3⟩
abbrev PsAt (c : Cs) (H : Hp) (ea : Nat → Addr) (pl : Nat → Player) (t : Int) (gs : List Addr) (xs : List Sd) : Prop := PySem.Paired (PairAt c H ea pl t) gs xs
theorem PsAt.mono {c : Cs} {H H' : Hp} {ea : Nat → Addr} {pl : Nat → Player} {t : Int} {gs : List Addr} {xs : List Sd} (e : Ex H H') (h : PsAt c H ea pl t gs xs) : PsAt c H' ea pl t gs xs := by
  induction h with
  | nil => exact .nil
  | cons r _ ih => exact .cons (PairAt.mono e r) ih
theorem paired_snoc {α β : Type} {F : α → β → Prop} {as : List α} {bs : List β} {a : α} {b : β} (h : PySem.Paired F as bs) (r : F a b) : PySem.Paired F (as ++ [a]) (bs ++ [b]) := by
  induction h with
  | nil => exact .cons r .nil
  | cons q _ ih => exact .cons q ih
theorem paired_len {α β : Type} {F : α → β → Prop} {as : List α} {bs : List β} (h : PySem.Paired F as bs) : as.length = bs.length := by
  induction h with
  | nil => rfl
  | cons q _ ih => simp [ih]
def playable (r : Rules) (pl : Nat → Player) (now : Int) (row : List Ent) : Bool := (tks r pl row).all fun y => decide (y ≤ now)
def pairsIn (side : Nat) (e : Ent) (taken : List Ent) : List Sd := (ways taken ((side : Int) - ((e.who.length : Nat) : Int))).map fun mates => (e :: mates, outOf taken mates)
def pairsFor (r : Rules) (pl : Nat → Player) (now : Int) (e : Ent) (taken : List Ent) : List Sd := if playable r pl now (e :: taken) = true then pairsIn r.side e taken else []
def pairsOf (r : Rules) (pl : Nat → Player) (now : Int) (row : List Ent) (e : Ent) : List Sd := (ways (outOf row [e]) (2 * ((r.side : Nat) : Int) - ((e.who.length : Nat) : Int))).flatMap (pairsFor r pl now e)
def RetP (c : Cs) (ea : Nat → Addr) (pl : Nat → Player) (t : Int) (xs : List Sd) (H : Hp) (Q : VK) : Prop := ∀ p gs H2, H p = none → Ex H H2 → H2 p = some (.lst (gs.map V.ref)) → PsAt c H2 ea pl t gs xs → Q (.ref p) H2
def sp_pairings_of (c : Cs) : Sp := fun vs H Q _ => ∃ (γ : Gh) (s : State) (e : Ent), vs = [.ref γ.w, .ref (γ.ea e.num)] ∧ WS c H γ s ∧ Wf s ∧ e ∈ s.entries ∧ RetP c γ.ea (plOf s) (s.now : Nat) (pairsOf s.rules (plOf s) (s.now : Nat) s.entries e) H Q
theorem outOf_sub {row gone : List Ent} : ∀ e ∈ outOf row gone, e ∈ row := fun e h => (List.mem_filter.mp h).1
theorem outOf_len (row gone : List Ent) : (outOf row gone).length ≤ row.length := List.length_filter_le _ _
theorem exists_max : ∀ (ns : List Int), ns ≠ [] → ∃ m, IsMax m ns
  | [], h => absurd rfl h
  | [x], _ => ⟨x, List.mem_cons_self, fun y hy => by rw [List.mem_singleton.mp hy]; exact Int.le_refl _⟩
  | x :: y :: r, _ => by
    obtain ⟨m, h1, h2⟩ := exists_max (y :: r) (by simp)
    by_cases h : m ≤ x
    · exact ⟨x, List.mem_cons_self, fun z hz => by
        rcases List.mem_cons.mp hz with q | q
        · rw [q]; exact Int.le_refl _
        · exact Int.le_trans (h2 z q) h⟩
    · exact ⟨m, List.mem_cons_of_mem _ h1, fun z hz => by
        rcases List.mem_cons.mp hz with q | q
        · rw [q]; omega
        · exact h2 z q⟩
theorem all_le_max {m now : Int} {ns : List Int} (h : IsMax m ns) : decide (m ≤ now) = ns.all fun y => decide (y ≤ now) := by
  rw [Bool.eq_iff_iff]
  simp only [decide_eq_true_eq, List.all_eq_true]
  constructor
  · intro h1 y hy
    exact Int.le_trans (h.2 y hy) h1
  · intro h1
    exact h1 m h.1
theorem pairsFor_len (r : Rules) (pl : Nat → Player) (now : Int) (e : Ent) (taken : List Ent) : (pairsFor r pl now e taken).length ≤ 2 ^ taken.length := by
  unfold pairsFor pairsIn
  split
  · rw [List.length_map]
    exact ways_len _ _
  · simp
theorem flatMap_len {α β : Type} {f : α → List β} {n : Nat} : ∀ {l : List α}, (∀ x ∈ l, (f x).length ≤ n) → (l.flatMap f).length ≤ l.length * n
  | [], _ => by simp
  | x :: r, h => by
    have ih := flatMap_len (f := f) (n := n) (l := r) (fun y hy => h y (List.mem_cons_of_mem _ hy))
    have h1 := h x List.mem_cons_self
    rw [List.flatMap_cons, List.length_append, List.length_cons, Nat.add_mul]
    omega
theorem outOf_lt {row : List Ent} {e : Ent} (h : e ∈ row) : (outOf row [e]).length < row.length := by
  unfold outOf
  rw [List.length_filter_lt_length_iff_exists]
  exact ⟨e, h, by simp⟩
theorem sizeLine_is : sizeLine = 16777216 := PySem.sizeLine_eq
/-! ### the first that does not take it -/
theorem find_at {α : Type} {p : α → Bool} {l : List α} {i : Nat} {x : α} (hi : l[i]? = some x) (hno : (l.take i).find? p = none) (hx : p x = true) : l.find? p = some x := by
  have e9 : l.take i ++ [x] ++ l.drop (i + 1) = l := by rw [← take_more hi, List.take_append_drop]
  rw [← e9, List.find?_append, List.find?_append, hno, List.find?_cons, hx]
  rfl
def optE (ea : Nat → Addr) : Option Ent → V
  | none => .non
  | some e => .ref (ea e.num)
def fuOf (r : Rules) (pl : Nat → Player) (now : Int) (row : List Ent) : Option Ent := row.find? fun e => decide (now < tkSince r pl (rsum pl row : Nat) e)
theorem fuOf_none {r : Rules} {pl : Nat → Player} {now : Int} {row : List Ent} : (fuOf r pl now row).isNone = playable r pl now row := by
  unfold fuOf playable tks
  rw [List.all_map, Bool.eq_iff_iff, Option.isNone_iff_eq_none, List.find?_eq_none, List.all_eq_true]
  constructor
  · intro h e he
    have := h e he
    simp only [decide_eq_true_eq] at this
    simp only [Function.comp, decide_eq_true_eq]
    omega
  · intro h e he
    have := h e he
    simp only [Function.comp, decide_eq_true_eq] at this
    simp only [decide_eq_true_eq]
    omega
theorem optE_non {ea : Nat → Addr} {x : Option Ent} : decide (optE ea x = V.non) = x.isNone := by
  cases x <;> rfl
def sp_first_unwilling (K : PySem.W.Frag) (c : Cs) : Sp := fun vs H Q _ => ∃ (γ : Gh) (s : State) (l : Addr) (row : List Ent), vs = [.ref γ.w, .ref l] ∧ WS c H γ s ∧ Wf s ∧ SqL K H l (eRefs γ.ea row) ∧ (∀ e ∈ row, e ∈ s.entries) ∧
  RetV (optE γ.ea (fuOf s.rules (plOf s) (s.now : Nat) row)) H Q
abbrev s_first_unwilling : Stmt := top 28
abbrev n_first_unwilling : List Str := ["world", "parties", "total", "party"]
abbrev p_first_unwilling : List Str := ["world", "parties"]
theorem sc_first_unwilling : FnScope n_first_unwilling p_first_unwilling (defScope s_first_unwilling) := ⟨rfl, rfl, rfl, by decide +kernel, rfl, by decide +kernel, by decide +kernel⟩

theorem ok_first_unwilling (T : Txt mg) (CC : CT K c) (D : Def K mg "first_unwilling" s_first_unwilling p_first_unwilling) (G_rating_sum : Has P w K mg base 1 "rating_sum" p_rating_sum (sp_rating_sum K c)) (G_taken_since : Has P w K mg base 2 "taken_since" p_taken_since (sp_taken_since c)) : Has P w K mg base 3 "first_unwilling" p_first_unwilling (sp_first_unwilling K c) := by
  refine D.has sc_first_unwilling (fun vs H Q E h => ?_) (fun f cdv A outer sh H vs Q E hr h => ?_)
  · obtain ⟨γ, s, l, row, rfl, _⟩ := h
    rfl
  · obtain ⟨γ, s, l, row, rfl, ws, W, hl, hin, k⟩ := h
    refine ⟨_, (pss_cons (ps_set (i := 2) sc_first_unwilling.nd rfl (Or.inl rfl) (pe_has G_rating_sum (hr.mono (by decide)) rfl (pa_cons (pv 1) pa_nil)))
 (pss_cons (ps_for PassesOwn.never rfl (pi_list (pv 1)) (pg_name (i := 3) sc_first_unwilling.nd rfl (Or.inl rfl))
  (pss_one (ps_if (pt_cmpR op_gt (pe_has G_taken_since (hr.mono (by decide)) rfl (pa_cons (pe_fld (pv 0) rfl) (pa_cons (pv 3) (pa_cons (pv 2) pa_nil)))) (pe_fld (pv 0) rfl) (nomark _))
  (pss_one (ps_ret (pv 3))) pss_nil)))
 (pss_one (ps_ret pe_non)))), ?_⟩
    obtain ⟨dw, h1⟩ := ws.wo
    have g := ws.grp W hin
    have ro := W.rok
    refine q_asg (v := .int (rsum (plOf s) row : Nat)) (ev_callV (vs := [.ref l]) (ea_cons (ev_var rfl) ea_nil) fun H1 e1 Q' q' => ⟨l, γ.pa, γ.ea, plOf s, row, rfl, ex_l e1 hl, g.mono e1, q'⟩) fun H1 e1 => ?_
    refine q_forT (l := row) (fun e => V.ref (γ.ea e.num)) (ev_var rfl) (ex_l e1 hl) (fun i σ' H' => Ex H1 H' ∧ (row.take i).find? (fun e => decide (((s.now : Nat) : Int) < tkSince s.rules (plOf s) (rsum (plOf s) row : Nat) e)) = none ∧ ∃ x, σ' = [some (.ref γ.w), some (.ref l), some (.int (rsum (plOf s) row : Nat)), x]) (fun H2 e2 => ⟨e2, rfl, none, rfl⟩) (fun i σ' H' p => p.1) ?_ ?_
    · rintro i e σ' H2 hi ⟨e2, hno, x, rfl⟩
      have he : e ∈ row := List.mem_of_getElem? hi
      have hew := W.ew e (hin e he)
      have e12 := e1.trans e2
      refine s_when (b := decide (((s.now : Nat) : Int) < tkSince s.rules (plOf s) (rsum (plOf s) row : Nat) e)) (et_test (ev_op (ev_callV (z := .int (tkSince s.rules (plOf s) (rsum (plOf s) row : Nat) e)) (vs := [.ref γ.r, .ref (γ.ea e.num), .int (rsum (plOf s) row : Nat)]) (ea_cons (ev_W CC (ev_var rfl) (e12 _ _ h1) (worldF_rules ..)) (ea_cons (ev_var rfl) (ea_cons (ev_var rfl) ea_nil))) fun H3 e3 Q' q' =>
        ⟨γ.r, s.rules, γ.pa, γ.ea, plOf s, e, _, rfl, ws.ru.mono (e12.trans e3), (g.sub (fun x hx => by rw [List.mem_singleton.mp hx]; exact he)).mono (e12.trans e3), hew.1, Nat.le_trans hew.2.1 ro.s2, ro.s1, ro.s2, ro.t1, ro.t2, q'⟩) (ev_W CC (ev_var rfl) (e12 _ _ h1) (worldF_tick ..)) rv_I0)) (fun hb H3 e3 => ?_) (fun hb H3 e3 => ?_)
      · refine s_ret (ev_var rfl) fun H4 e4 => ?_
        have e0 : fuOf s.rules (plOf s) (s.now : Nat) row = some e := by
          unfold fuOf
          exact find_at hi hno hb
        rw [e0] at k
        exact k H4 ((e12.trans e3).trans e4)
      · refine ⟨e2.trans e3, ?_, _, rfl⟩
        rw [take_more hi, List.find?_append, hno, List.find?_cons, hb]
        rfl
    · rintro σ' H2 ⟨e2, hno, x, rfl⟩
      rw [List.take_length] at hno
      refine s_ret ev_c fun H3 e3 => ?_
      have e0 : fuOf s.rules (plOf s) (s.now : Nat) row = none := hno
      rw [e0] at k
      exact k H3 ((e1.trans e2).trans e3)
abbrev s_pairings_of : Stmt := top 30
abbrev n_pairings_of : List Str := ["world", "party", "side", "size", "others", "pairings", "taken", "mates"]
abbrev p_pairings_of : List Str := ["world", "party"]
theorem sc_pairings_of : FnScope n_pairings_of p_pairings_of (defScope s_pairings_of) := ⟨rfl, rfl, rfl, by decide +kernel, rfl, by decide +kernel, by decide +kernel⟩

theorem ok_pairings_of (T : Txt mg) (CC : CT K c) (D : Def K mg "pairings_of" s_pairings_of p_pairings_of) (G_parties_without : Has P w K mg base 1 "parties_without" p_parties_without (sp_parties_without K c))
    (G_ways_to_take : Has P w K mg base 14 "ways_to_take" p_ways_to_take (sp_ways K c 14)) (G_first_unwilling : Has P w K mg base 3 "first_unwilling" p_first_unwilling (sp_first_unwilling K c)) (C_Pairing : HasC P w K mg base 2 "Pairing" c.G p_Pairing___init__ (sp_Pairing K c)) :
    Has P w K mg base 15 "pairings_of" p_pairings_of (sp_pairings_of c) := by
  refine D.has sc_pairings_of (fun vs H Q E h => ?_) (fun f cdv A outer sh H vs Q E hr h => ?_)
  · obtain ⟨γ, s, e, rfl, _⟩ := h
    rfl
  · obtain ⟨γ, s, e, rfl, ws, W, he, k⟩ := h
    refine ⟨_, (pss_cons (ps_set (i := 2) sc_pairings_of.nd rfl (Or.inl rfl) (pe_fld (pe_fld (pv 0) rfl) rfl))
 (pss_cons (ps_set (i := 3) sc_pairings_of.nd rfl (Or.inl rfl) (pe_callB call_len_seq (by rfl) T.len PySem.boot_len (pa_cons (pe_fld (pv 1) rfl) pa_nil)))
 (pss_cons (ps_set (i := 4) sc_pairings_of.nd rfl (Or.inl rfl) (pe_has G_parties_without (hr.mono (by decide)) rfl (pa_cons (pe_callTy (cr_listView rfl) (by rfl) T.list (by decide +kernel) (pa_cons (pe_valsK (pe_fld (pv 0) rfl)) pa_nil)) (pa_cons (pe_lst (pa_cons (pv 1) pa_nil)) pa_nil))))
 (pss_cons (ps_set (i := 5) sc_pairings_of.nd rfl (Or.inl rfl) (pe_lst pa_nil))
 (pss_cons (ps_for PassesOwn.never rfl (pi_list (pe_has G_ways_to_take (hr.mono (by decide)) rfl (pa_cons (pv 4) (pa_cons (pe_op op_sub (pe_op op_mul pe_int (pv 2)) (pv 3)) pa_nil)))) (pg_name (i := 6) sc_pairings_of.nd rfl (Or.inl rfl))
  (pss_one (ps_if (pt_cmpR op_isN (pe_has G_first_unwilling (hr.mono (by decide)) rfl (pa_cons (pv 0) (pa_cons (pe_op op_cat (pe_lst (pa_cons (pv 1) pa_nil)) (pv 6)) pa_nil))) pe_non (nomark _))
  (pss_one (ps_for PassesOwn.never rfl (pi_list (pe_has G_ways_to_take (hr.mono (by decide)) rfl (pa_cons (pv 6) (pa_cons (pe_op op_sub (pv 2) (pv 3)) pa_nil)))) (pg_name (i := 7) sc_pairings_of.nd rfl (Or.inl rfl))
  (pss_one (ps_expr (pe_bm PySem.F.plainAttrs_list PySem.F.slot_list_append PySem.F.type_list_append mt_append (pv 5) (pa_cons (pe_hasC C_Pairing (hr.mono (by decide)) rfl (pa_cons (pe_op op_cat (pe_lst (pa_cons (pv 1) pa_nil)) (pv 7)) (pa_cons (pe_has G_parties_without (hr.mono (by decide)) rfl (pa_cons (pv 6) (pa_cons (pv 7) pa_nil))) (pa_cons (pe_fld (pv 0) rfl) pa_nil)))) pa_nil)))))) pss_nil)))
 (pss_one (ps_ret (pv 5)))))))), ?_⟩
    obtain ⟨dw, h1⟩ := ws.wo
    obtain ⟨dr, h2⟩ := ws.ru
    obtain ⟨de, l, h3, h4⟩ := ws.en e he
    have gall := ws.grp W (row := s.entries) fun _ h => h
    have szall : SzOk s.entries := fun x hx => ⟨(W.ew x hx).1, Nat.le_trans (W.ew x hx).2.1 W.side.2⟩
    refine q_asg (ev_R CC (ev_W CC (ev_var rfl) h1 (worldF_rules ..)) h2 (rulesF_side _)) fun H1 e1 => ?_
    refine q_asg (v := .int ((e.who.length : Nat) : Int)) (ev_is (ev_len (ev_E CC (ev_var rfl) (e1 _ _ h3) (entryF_members _ _)) (sq_of (e1 _ _ h4))) (by rw [List.length_map])) fun H2 e2 => ?_
    have e12 := e1.trans e2
    have hvals : ((eKv γ.ea s.entries).map fun kv => kv.2) = eRefs γ.ea s.entries := by
      unfold eKv eRefs
      rw [List.map_map]
      rfl
    refine q_asgL (el_callNN (xs := eRefs γ.ea s.entries) (ys := eRefs γ.ea [e]) (zs := eRefs γ.ea (outOf s.entries [e])) (by rw [← hvals]; exact el_listVals (ev_W CC (ev_var rfl) (e12 _ _ h1) (worldF_parties ..)) (ex_rd e12 ws.ed)) (el_lst (ea_cons (ev_var rfl) ea_nil) (by show 1 ≤ 100000; decide))
      fun p q H3 e3 i1 i2 Q' q' => ⟨p, q, γ.pa, γ.ea, plOf s, s.entries, [e], rfl, sq_of i1, sq_of i2, gall.mono (e12.trans e3), (gall.sub (fun x hx => by rw [List.mem_singleton.mp hx]; exact he)).mono (e12.trans e3), by have := W.el; omega, by simp, q'⟩) fun lo H3 hlo e3 h5 => ?_
    have e13 := e12.trans e3
    refine q_asgL (el_lst ea_nil (by show 0 ≤ 100000; decide)) fun p H4 hp e4 h6 => ?_
    have e14 := e13.trans e4
    have gout : Grp c H γ.pa γ.ea (plOf s) (outOf s.entries [e]) := gall.sub outOf_sub
    have hol : (outOf s.entries [e]).length ≤ 12 := Nat.le_trans (outOf_len _ _) W.el
    have hol2 : (outOf s.entries [e]).length ≤ 11 := by
      have := outOf_lt he
      have := W.el
      omega
    have npH : H p = none := fresh_back e13 hp
    have hev : EvLL (tCall (sp_ways K c 14) [] E0 (tCons (tVar 4) (tCons (tOp (rI0 fun i j => .int (i - j)) (tOp (rI CMul fun i j => .int (i * j)) (tC (.int 2)) (tVar 2)) (tVar 3)) tNil))) [some (.ref γ.w), some (.ref (γ.ea e.num)), some (.int (s.rules.side : Nat)), some (.int ((e.who.length : Nat) : Int)), some (.ref lo), some (.ref p), none, none] H4
        ((ways (outOf s.entries [e]) (2 * ((s.rules.side : Nat) : Int) - ((e.who.length : Nat) : Int))).map (eRefs γ.ea)) :=
      ell_callL (vs := [.ref lo, .int (2 * ((s.rules.side : Nat) : Int) - ((e.who.length : Nat) : Int))]) (ea_cons (ev_var rfl) (ea_cons (ev_op (ev_op ev_c (ev_var rfl) (rv_I (Or.inl (by decide)))) (ev_var rfl) rv_I0) ea_nil)) fun H5 e5 Q' q' =>
        ⟨lo, γ.pa, γ.ea, plOf s, outOf s.entries [e], _, rfl, sq_of ((e4.trans e5) _ _ h5), gout.mono (e14.trans e5), by omega, by omega, q'⟩
    refine q_forLL (p := p) hev h6 (fun H1 i σ' H' => (∀ b o, H1 b = some o → b ≠ p → H' b = some o) ∧ ∃ gs x y, H' p = some (.lst (List.map V.ref gs)) ∧
      PsAt c (drp H' p) γ.ea (plOf s) (s.now : Nat) gs (((ways (outOf s.entries [e]) (2 * ((s.rules.side : Nat) : Int) - ((e.who.length : Nat) : Int))).take i).flatMap (pairsFor s.rules (plOf s) (s.now : Nat) e)) ∧
      σ' = [some (.ref γ.w), some (.ref (γ.ea e.num)), some (.int (s.rules.side : Nat)), some (.int ((e.who.length : Nat) : Int)), some (.ref lo), some (.ref p), x, y]) ?_ (fun H1 i σ' H' pv => pv.1) ?_ ?_
    · exact fun H5 e5 => ⟨fun b o hb _ => hb, [], none, none, e5 _ _ h6, .nil, rfl⟩
    · rintro H5 i xs b σ' H' e5 hi nb hb ⟨hk, gs, x0, y0, hp', hps, rfl⟩
      rw [List.getElem?_map] at hi
      cases hq : (ways (outOf s.entries [e]) (2 * ((s.rules.side : Nat) : Int) - ((e.who.length : Nat) : Int)))[i]? with
      | none => rw [hq] at hi; cases hi
      | some taken =>
        rw [hq] at hi
        cases hi
        have htk : taken ∈ ways (outOf s.entries [e]) (2 * ((s.rules.side : Nat) : Int) - ((e.who.length : Nat) : Int)) := List.mem_of_getElem? hq
        have hsub : ∀ x ∈ taken, x ∈ s.entries := fun x hx => outOf_sub x (ways_sub htk x hx)
        have htl : taken.length ≤ 11 := Nat.le_trans (ways_short htk) hol2
        have eH : Ex H H' := fun b o h => hk b o (e5 _ _ (e14 _ _ h)) (ne_of_none h npH)
        have hb' : H' b = some (.lst (eRefs γ.ea taken)) := hk b _ hb nb
        have hcons : ∀ x ∈ e :: taken, x ∈ s.entries := fun x hx => by
          rcases List.mem_cons.mp hx with z | z
          · rw [z]; exact he
          · exact hsub x z
        obtain ⟨m, hm⟩ := exists_max (tks s.rules (plOf s) (e :: taken)) (by unfold tks; simp)
        have hpre : ((ways (outOf s.entries [e]) (2 * ((s.rules.side : Nat) : Int) - ((e.who.length : Nat) : Int))).take i).flatMap (pairsFor s.rules (plOf s) (s.now : Nat) e) = ((ways (outOf s.entries [e]) (2 * ((s.rules.side : Nat) : Int) - ((e.who.length : Nat) : Int))).take i).flatMap (pairsFor s.rules (plOf s) (s.now : Nat) e) := rfl
        generalize hP : ((ways (outOf s.entries [e]) (2 * ((s.rules.side : Nat) : Int) - ((e.who.length : Nat) : Int))).take i).flatMap (pairsFor s.rules (plOf s) (s.now : Nat) e) = pre at hps hpre
        have hpl : pre.length ≤ 2048 * 2048 := by
          rw [← hP]
          have h1 : (((ways (outOf s.entries [e]) (2 * ((s.rules.side : Nat) : Int) - ((e.who.length : Nat) : Int))).take i).flatMap (pairsFor s.rules (plOf s) (s.now : Nat) e)).length ≤ ((ways (outOf s.entries [e]) (2 * ((s.rules.side : Nat) : Int) - ((e.who.length : Nat) : Int))).take i).length * 2048 := by
            refine flatMap_len fun x hx => ?_
            have h2 := pairsFor_len s.rules (plOf s) (s.now : Nat) e x
            have h3 := ways_short (List.mem_of_mem_take hx)
            exact Nat.le_trans h2 (Nat.le_trans (Nat.pow_le_pow_right (by decide) (Nat.le_trans h3 hol2)) (by decide))
          have h4 := ways_len (outOf s.entries [e]) (2 * ((s.rules.side : Nat) : Int) - ((e.who.length : Nat) : Int))
          have h5 : 2 ^ (outOf s.entries [e]).length ≤ 2 ^ 11 := Nat.pow_le_pow_right (by decide) hol2
          have h6 : ((ways (outOf s.entries [e]) (2 * ((s.rules.side : Nat) : Int) - ((e.who.length : Nat) : Int))).take i).length ≤ 2048 := by
            rw [List.length_take]
            omega
          exact Nat.le_trans h1 (Nat.mul_le_mul_right _ h6)
        refine s_when (b := playable s.rules (plOf s) (s.now : Nat) (e :: taken)) (et_is (et_test (ev_op (ev_callVN (z := optE γ.ea (fuOf s.rules (plOf s) (s.now : Nat) (e :: taken))) (xs := eRefs γ.ea (e :: taken)) (ev_var rfl) (el_catL (xs := [V.ref (γ.ea e.num)]) (el_lst (ea_cons (ev_var rfl) ea_nil) (by show 1 ≤ 100000; decide)) (ev_var rfl) hb' (by (try unfold eRefs); rw [List.length_map]; show 1 + _ ≤ 100000; omega)) fun q H6 e6 h7 Q' q' =>
            ⟨γ, s, q, e :: taken, rfl, ws.mono (eH.trans e6), W, sq_of h7, hcons, q'⟩) ev_c (fun H6 _ Q' q' => ⟨rfl, q' H6 (Ex.refl H6)⟩))) (optE_non.trans fuOf_none)) (fun hb2 H6 e6 => ?_) (fun hb2 H6 e6 => ?_)
        · -- for mates in ways_to_take(taken, side - size)
          have e06 := eH.trans e6
          have hpf : pairsFor s.rules (plOf s) (s.now : Nat) e taken = (ways taken (((s.rules.side : Nat) : Int) - ((e.who.length : Nat) : Int))).map fun mates => (e :: mates, outOf taken mates) := by
            unfold pairsFor pairsIn
            rw [if_pos hb2]
          refine s_forLL (p := p) (xss := (ways taken (((s.rules.side : Nat) : Int) - ((e.who.length : Nat) : Int))).map (eRefs γ.ea)) (ell_callL (vs := [.ref b, .int (((s.rules.side : Nat) : Int) - ((e.who.length : Nat) : Int))]) (ea_cons (ev_var rfl) (ea_cons (ev_op (ev_var rfl) (ev_var rfl) rv_I0) ea_nil)) fun H7 e7 Q' q' => ?_) (e6 _ _ hp')
            (fun H7 j σ' H'' => (∀ b o, H7 b = some o → b ≠ p → H'' b = some o) ∧ ∃ gs y, H'' p = some (.lst (List.map V.ref gs)) ∧
              PsAt c (drp H'' p) γ.ea (plOf s) (s.now : Nat) gs (pre ++ ((ways taken (((s.rules.side : Nat) : Int) - ((e.who.length : Nat) : Int))).take j).map fun mates => (e :: mates, outOf taken mates)) ∧
              σ' = [some (.ref γ.w), some (.ref (γ.ea e.num)), some (.int (s.rules.side : Nat)), some (.int ((e.who.length : Nat) : Int)), some (.ref lo), some (.ref p), some (.ref b), y]) ?_ (fun H7 j σ' H'' pv => pv.1) ?_ ?_
          · exact ⟨b, γ.pa, γ.ea, plOf s, taken, _, rfl, sq_of ((e6.trans e7) _ _ hb'), (gall.sub hsub).mono (e06.trans e7), by omega, by omega, q'⟩
          · exact fun H7 e7 => ⟨fun b o h _ => h, gs, y0, (e6.trans e7) _ _ hp', by
              rw [List.take_zero, List.map_nil, List.append_nil]
              exact hps.mono (drp_mono (e6.trans e7)), rfl⟩
          · rintro H7 j xs2 b2 σ' H'' e7 hj nb2 hb2' ⟨hk2, gs2, y2, hp2, hps2, rfl⟩
            rw [List.getElem?_map] at hj
            cases hq2 : (ways taken (((s.rules.side : Nat) : Int) - ((e.who.length : Nat) : Int)))[j]? with
            | none => rw [hq2] at hj; cases hj
            | some mates =>
              rw [hq2] at hj
              cases hj
              have hmt : mates ∈ ways taken (((s.rules.side : Nat) : Int) - ((e.who.length : Nat) : Int)) := List.mem_of_getElem? hq2
              have hms : ∀ x ∈ mates, x ∈ taken := ways_sub hmt
              have hml := ways_short hmt
              have e02 : Ex H H'' := fun b o h => hk2 b o (e7 _ _ (e06 _ _ h)) (ne_of_none h npH)
              have hbt : H'' b = some (.lst (eRefs γ.ea taken)) := hk2 b _ ((e6.trans e7) _ _ hb') nb
              have hbm : H'' b2 = some (.lst (eRefs γ.ea mates)) := hk2 b2 _ hb2' nb2
              have hgl : gs2.length ≤ 2048 * 2048 + 2048 := by
                rw [paired_len hps2, List.length_append, List.length_map, List.length_take]
                have h1 := ways_len taken (((s.rules.side : Nat) : Int) - ((e.who.length : Nat) : Int))
                have h2 : 2 ^ taken.length ≤ 2 ^ 11 := Nat.pow_le_pow_right (by decide) htl
                omega
              refine ⟨.ref p, rfl, Or.inl ⟨rfl, _, sq_of hp2⟩, ?_⟩
              refine el_catL (xs := [V.ref (γ.ea e.num)]) (el_lst (ea_cons (ev_var rfl) ea_nil) (by show 1 ≤ 100000; decide)) (ev_var rfl) hbm (by (try unfold eRefs); rw [List.length_map]; show 1 + _ ≤ 100000; omega) H'' (Ex.refl _) _ fun la H8 hla e8 h8 => ?_
              refine el_callL (xs := eRefs γ.ea (outOf taken mates)) (vs := [.ref b, .ref b2]) (ea_cons (ev_var rfl) (ea_cons (ev_var rfl) ea_nil)) (fun H9 e9 Q' q' => ⟨b, b2, γ.pa, γ.ea, plOf s, taken, mates, rfl, sq_of ((e8.trans e9) _ _ hbt), sq_of ((e8.trans e9) _ _ hbm), (gall.sub hsub).mono ((e02.trans e8).trans e9), (gall.sub (fun x hx => hsub x (hms x hx))).mono ((e02.trans e8).trans e9), by omega, by omega, q'⟩) H8 (Ex.refl _) _ fun lb H9 hlb e9 h9 => ?_
              refine ev_W CC (ev_var rfl) (((e02.trans e8).trans e9) _ _ h1) (worldF_tick ..) H9 (Ex.refl _) _ fun H10 e10 => ?_
              intro x dx nx nd ne
              have e2X := (e8.trans e9).trans e10
              have eX := e02.trans e2X
              refine ⟨H10, x, dx, la, lb, _, γ.pa, γ.ea, plOf s, e :: mates, outOf taken mates, rfl, made_ex nx nd, nx, made_at, (e9.trans e10) _ _ h8, e10 _ _ h9, (gall.sub (fun z hz => ?_)).mono eX, (gall.sub (fun z hz => hsub z (outOf_sub z hz))).mono eX, by simp; omega, Nat.le_trans (outOf_len _ _) (by omega), fun H11 e11 h11 => ⟨rfl, ?_⟩⟩
              · rcases List.mem_cons.mp hz with q | q
                · rw [q]; exact he
                · exact hsub z (hms z q)
              · have e2Y := e2X.trans e11
                refine ⟨p, _, .ref x, rfl, rfl, e2Y _ _ hp2, by rw [List.length_map, sizeLine_is]; omega, ?_⟩
                have nxp : x ≠ p := fun z => by rw [z, e2X _ _ hp2] at nx; cases nx
                have nla : la ≠ p := fun z => by rw [z, hp2] at hla; cases hla
                have nlb : lb ≠ p := fun z => by rw [z, e8 _ _ hp2] at hlb; cases hlb
                refine ⟨fun b' o h n => ?_, gs2 ++ [x], some (.ref b2), ?_, ?_, rfl⟩
                · rw [upd_ne n]
                  exact e2Y _ _ (hk2 b' o h n)
                · rw [upd_same, List.map_append]
                  rfl
                · rw [drp_upd, take_more hq2, List.map_append, ← List.append_assoc]
                  refine paired_snoc (hps2.mono (drp_mono e2Y)) ⟨dx, la, lb, drp_at nxp h11, drp_at nla (e11 _ _ ((e9.trans e10) _ _ h8)), drp_at nlb (e11 _ _ (e10 _ _ h9))⟩
          · rintro H7 σ' H'' e7 ⟨hk2, gs2, y2, hp2, hps2, rfl⟩
            refine ⟨fun b' o h n => hk2 b' o ((e6.trans e7) _ _ (hk b' o h n)) n, gs2, _, y2, hp2, ?_, rfl⟩
            rw [List.length_map, List.take_length] at hps2
            rw [take_more hq, List.flatMap_append, hP, List.flatMap_cons, List.flatMap_nil, List.append_nil, hpf]
            exact hps2
        · refine ⟨fun b' o h n => e6 _ _ (hk b' o h n), gs, _, y0, e6 _ _ hp', ?_, rfl⟩
          rw [take_more hq, List.flatMap_append, hP, List.flatMap_cons, List.flatMap_nil, List.append_nil]
          have hpf : pairsFor s.rules (plOf s) (s.now : Nat) e taken = [] := by
            unfold pairsFor
            rw [hb2]
            rfl
          rw [hpf, List.append_nil]
          exact hps.mono (drp_mono e6)
    · rintro H5 σ' H' e5 ⟨hk, gs, x0, y0, hp', hps, rfl⟩
      rw [List.length_map, List.take_length] at hps
      have eH : Ex H H' := fun b o h => hk b o (e5 _ _ (e14 _ _ h)) (ne_of_none h npH)
      exact s_ret (ev_var rfl) fun H6 e6 => k p gs H6 npH (eH.trans e6) (e6 _ _ hp') ((hps.mono (drp_ex _ _)).mono e6)
end
end EM

namespace EM
open PySem PySem.Spec PyProof.Rows L2 Evl
open Vbwsap (Rules Player Match sumOf membersOf gap State)
/-! ### what changes, and all else as it was -/
def ExB (S : Addr → Prop) (H H' : Hp) : Prop := ∀ b o, H b = some o → ¬ S b → H' b = some o
theorem ExB.of {S : Addr → Prop} {H H' : Hp} (e : Ex H H') : ExB S H H' := fun b o h _ => e b o h
theorem ExB.trans {S : Addr → Prop} {H H1 H2 : Hp} (a : ExB S H H1) (b : ExB S H1 H2) : ExB S H H2 := fun x o h n => b x o (a x o h n) n
theorem ExB.upd {S : Addr → Prop} {H : Hp} {a : Addr} {o : HO} (h : S a) : ExB S H (upd H a o) := fun b u hb n => by
  rw [upd_ne (fun z => n (by rw [z]; exact h))]
  exact hb
theorem ExB.mono {S S' : Addr → Prop} {H H' : Hp} (e : ExB S H H') (h : ∀ b, S b → S' b) : ExB S' H H' := fun b o hb n => e b o hb fun z => n (h b z)
section
variable {P : Program} {w : World} {K : PySem.W.Frag} {mg : Str → Option Value} {base : Heap} {c : Cs}
/-! ### the classes' __init__ -/
def sp_Match (c : Cs) : Sp := fun vs H Q _ => ∃ (Hb : Hp) (x dx la lb : Addr) (m : Match), vs = [.ref x, .int (m.num : Nat), .ref la, .ref lb] ∧ Ex Hb H ∧ Hb x = none ∧ H x = some (.ins c.M dx []) ∧ ∀ H', Ex Hb H' → H' x = some (.ins c.M dx (matchF m la lb)) → Q .non H'
abbrev s_Match___init__ : Stmt := inClass (top 9) 0
abbrev n_Match___init__ : List Str := ["self", "number", "first", "second"]
abbrev p_Match___init__ : List Str := ["self", "number", "first", "second"]
theorem sc_Match___init__ : FnScope n_Match___init__ p_Match___init__ (defScope s_Match___init__) := ⟨rfl, rfl, rfl, by decide +kernel, rfl, by decide +kernel, by decide +kernel⟩

theorem ok_Match (CC : CT K c) (D : DefM K c.M "__init__" "Match.__init__" s_Match___init__ p_Match___init__) (mk : PySem.W.makesIn K c.M = true) (kc : PySem.W.keepIn K (.ref c.M) = true) (gC : mg "Match" = some (.ref c.M)) : HasC P w K mg base 1 "Match" c.M p_Match___init__ (sp_Match c) := by
  refine D.hasC mk kc gC sc_Match___init__ (fun vs H Q E h => ?_) (fun f cdv A outer sh H vs Q E hr h => ?_)
  · obtain ⟨Hb, x, dx, la, lb, m, rfl, _⟩ := h
    rfl
  · obtain ⟨Hb, x, dx, la, lb, m, rfl, eb, bx, hx, k⟩ := h
    refine ⟨_, (pss_cons (ps_fld (pv 0) (pv 1) rfl)
 (pss_cons (ps_fld (pv 0) (pv 2) rfl)
 (pss_one (ps_fld (pv 0) (pv 3) rfl)))), ?_⟩
    refine q_fld (ev_var rfl) (ev_var rfl) hx CC.M.cl (CC.M.na _ (by decide +kernel)) (by decide) fun H1 e1 => ?_
    refine q_fld (ev_var rfl) (ev_var rfl) upd_same CC.M.cl (CC.M.na _ (by decide +kernel)) (by show 1 < 1000; decide) fun H2 e2 => ?_
    refine s_fld (ev_var rfl) (ev_var rfl) upd_same CC.M.cl (CC.M.na _ (by decide +kernel)) (by show 2 < 1000; decide) fun H3 e3 => ?_
    refine k _ (Ex.mut ((Ex.mut ((Ex.mut (eb.trans e1) bx).trans e2) bx).trans e3) bx) ?_
    rw [upd_same]
    rfl
def sp_Party (c : Cs) : Sp := fun vs H Q _ => ∃ (Hb : Hp) (x dx l : Addr) (e : Ent), vs = [.ref x, .int (e.num : Nat), .ref l, .int (e.since : Nat)] ∧ Ex Hb H ∧ Hb x = none ∧ H x = some (.ins c.E dx []) ∧ ∀ H', Ex Hb H' → H' x = some (.ins c.E dx (entryF e l)) → Q .non H'
abbrev s_Party___init__ : Stmt := inClass (top 8) 0
abbrev n_Party___init__ : List Str := ["self", "number", "members", "since"]
abbrev p_Party___init__ : List Str := ["self", "number", "members", "since"]
theorem sc_Party___init__ : FnScope n_Party___init__ p_Party___init__ (defScope s_Party___init__) := ⟨rfl, rfl, rfl, by decide +kernel, rfl, by decide +kernel, by decide +kernel⟩

theorem ok_Party (CC : CT K c) (D : DefM K c.E "__init__" "Party.__init__" s_Party___init__ p_Party___init__) (mk : PySem.W.makesIn K c.E = true) (kc : PySem.W.keepIn K (.ref c.E) = true) (gC : mg "Party" = some (.ref c.E)) : HasC P w K mg base 1 "Party" c.E p_Party___init__ (sp_Party c) := by
  refine D.hasC mk kc gC sc_Party___init__ (fun vs H Q E h => ?_) (fun f cdv A outer sh H vs Q E hr h => ?_)
  · obtain ⟨Hb, x, dx, l, m, rfl, _⟩ := h
    rfl
  · obtain ⟨Hb, x, dx, l, m, rfl, eb, bx, hx, k⟩ := h
    refine ⟨_, (pss_cons (ps_fld (pv 0) (pv 1) rfl)
 (pss_cons (ps_fld (pv 0) (pv 2) rfl)
 (pss_one (ps_fld (pv 0) (pv 3) rfl)))), ?_⟩
    refine q_fld (ev_var rfl) (ev_var rfl) hx CC.E.cl (CC.E.na _ (by decide +kernel)) (by decide) fun H1 e1 => ?_
    refine q_fld (ev_var rfl) (ev_var rfl) upd_same CC.E.cl (CC.E.na _ (by decide +kernel)) (by show 1 < 1000; decide) fun H2 e2 => ?_
    refine s_fld (ev_var rfl) (ev_var rfl) upd_same CC.E.cl (CC.E.na _ (by decide +kernel)) (by show 2 < 1000; decide) fun H3 e3 => ?_
    refine k _ (Ex.mut ((Ex.mut ((Ex.mut (eb.trans e1) bx).trans e2) bx).trans e3) bx) ?_
    rw [upd_same]
    rfl
def sp_Player (c : Cs) : Sp := fun vs H Q _ => ∃ (Hb : Hp) (x dx : Addr) (n r : Nat), vs = [.ref x, .int (n : Nat), .int (r : Nat)] ∧ Ex Hb H ∧ Hb x = none ∧ H x = some (.ins c.P dx []) ∧ ∀ H', Ex Hb H' → H' x = some (.ins c.P dx (playerF ⟨n, r, 0, 0, 0⟩)) → Q .non H'
abbrev s_Player___init__ : Stmt := inClass (top 7) 0
abbrev n_Player___init__ : List Str := ["self", "number", "rating"]
abbrev p_Player___init__ : List Str := ["self", "number", "rating"]
theorem sc_Player___init__ : FnScope n_Player___init__ p_Player___init__ (defScope s_Player___init__) := ⟨rfl, rfl, rfl, by decide +kernel, rfl, by decide +kernel, by decide +kernel⟩

theorem ok_Player (CC : CT K c) (D : DefM K c.P "__init__" "Player.__init__" s_Player___init__ p_Player___init__) (mk : PySem.W.makesIn K c.P = true) (kc : PySem.W.keepIn K (.ref c.P) = true) (gC : mg "Player" = some (.ref c.P)) : HasC P w K mg base 1 "Player" c.P p_Player___init__ (sp_Player c) := by
  refine D.hasC mk kc gC sc_Player___init__ (fun vs H Q E h => ?_) (fun f cdv A outer sh H vs Q E hr h => ?_)
  · obtain ⟨Hb, x, dx, n, r, rfl, _⟩ := h
    rfl
  · obtain ⟨Hb, x, dx, n, r, rfl, eb, bx, hx, k⟩ := h
    refine ⟨_, (pss_cons (ps_fld (pv 0) (pv 1) rfl)
 (pss_cons (ps_fld (pv 0) (pv 2) rfl)
 (pss_cons (ps_fld (pv 0) pe_int rfl)
 (pss_cons (ps_fld (pv 0) pe_int rfl)
 (pss_one (ps_fld (pv 0) pe_int rfl)))))), ?_⟩
    refine q_fld (ev_var rfl) (ev_var rfl) hx CC.P.cl (CC.P.na _ (by decide +kernel)) (by decide) fun H1 e1 => ?_
    refine q_fld (ev_var rfl) (ev_var rfl) upd_same CC.P.cl (CC.P.na _ (by decide +kernel)) (by show 1 < 1000; decide) fun H2 e2 => ?_
    refine q_fld ev_c (ev_var rfl) upd_same CC.P.cl (CC.P.na _ (by decide +kernel)) (by show 2 < 1000; decide) fun H3 e3 => ?_
    refine q_fld ev_c (ev_var rfl) upd_same CC.P.cl (CC.P.na _ (by decide +kernel)) (by show 3 < 1000; decide) fun H4 e4 => ?_
    refine s_fld ev_c (ev_var rfl) upd_same CC.P.cl (CC.P.na _ (by decide +kernel)) (by show 4 < 1000; decide) fun H5 e5 => ?_
    refine k _ (Ex.mut ((Ex.mut ((Ex.mut ((Ex.mut ((Ex.mut (eb.trans e1) bx).trans e2) bx).trans e3) bx).trans e4) bx).trans e5) bx) ?_
    rw [upd_same]
    rfl
/-- rules with any numbers: what is told is looked at afterwards -/
def rulesI (a b d e f g : Int) : List (Str × V) := [("side", V.int a), ("base", V.int b), ("step", V.int d), ("factor", V.int e), ("reach", V.int f), ("fine", V.int g)]
def sp_Rules (c : Cs) : Sp := fun vs H Q _ => ∃ (Hb : Hp) (x dx : Addr) (i1 i2 i3 i4 i5 i6 : Int), vs = [.ref x, .int i1, .int i2, .int i3, .int i4, .int i5, .int i6] ∧ Ex Hb H ∧ Hb x = none ∧ H x = some (.ins c.R dx []) ∧ ∀ H', Ex Hb H' → H' x = some (.ins c.R dx (rulesI i1 i2 i3 i4 i5 i6)) → Q .non H'
abbrev s_Rules___init__ : Stmt := inClass (top 6) 0
abbrev n_Rules___init__ : List Str := ["self", "side", "base", "step", "factor", "reach", "fine"]
abbrev p_Rules___init__ : List Str := ["self", "side", "base", "step", "factor", "reach", "fine"]
theorem sc_Rules___init__ : FnScope n_Rules___init__ p_Rules___init__ (defScope s_Rules___init__) := ⟨rfl, rfl, rfl, by decide +kernel, rfl, by decide +kernel, by decide +kernel⟩

theorem ok_Rules (CC : CT K c) (D : DefM K c.R "__init__" "Rules.__init__" s_Rules___init__ p_Rules___init__) (mk : PySem.W.makesIn K c.R = true) (kc : PySem.W.keepIn K (.ref c.R) = true) (gC : mg "Rules" = some (.ref c.R)) : HasC P w K mg base 1 "Rules" c.R p_Rules___init__ (sp_Rules c) := by
  refine D.hasC mk kc gC sc_Rules___init__ (fun vs H Q E h => ?_) (fun f cdv A outer sh H vs Q E hr h => ?_)
  · obtain ⟨Hb, x, dx, i1, i2, i3, i4, i5, i6, rfl, _⟩ := h
    rfl
  · obtain ⟨Hb, x, dx, i1, i2, i3, i4, i5, i6, rfl, eb, bx, hx, k⟩ := h
    refine ⟨_, (pss_cons (ps_fld (pv 0) (pv 1) rfl)
 (pss_cons (ps_fld (pv 0) (pv 2) rfl)
 (pss_cons (ps_fld (pv 0) (pv 3) rfl)
 (pss_cons (ps_fld (pv 0) (pv 4) rfl)
 (pss_cons (ps_fld (pv 0) (pv 5) rfl)
 (pss_one (ps_fld (pv 0) (pv 6) rfl))))))), ?_⟩
    refine q_fld (ev_var rfl) (ev_var rfl) hx CC.R.cl (CC.R.na _ (by decide +kernel)) (by decide) fun H1 e1 => ?_
    refine q_fld (ev_var rfl) (ev_var rfl) upd_same CC.R.cl (CC.R.na _ (by decide +kernel)) (by show 1 < 1000; decide) fun H2 e2 => ?_
    refine q_fld (ev_var rfl) (ev_var rfl) upd_same CC.R.cl (CC.R.na _ (by decide +kernel)) (by show 2 < 1000; decide) fun H3 e3 => ?_
    refine q_fld (ev_var rfl) (ev_var rfl) upd_same CC.R.cl (CC.R.na _ (by decide +kernel)) (by show 3 < 1000; decide) fun H4 e4 => ?_
    refine q_fld (ev_var rfl) (ev_var rfl) upd_same CC.R.cl (CC.R.na _ (by decide +kernel)) (by show 4 < 1000; decide) fun H5 e5 => ?_
    refine s_fld (ev_var rfl) (ev_var rfl) upd_same CC.R.cl (CC.R.na _ (by decide +kernel)) (by show 5 < 1000; decide) fun H6 e6 => ?_
    refine k _ (Ex.mut ((Ex.mut ((Ex.mut ((Ex.mut ((Ex.mut ((Ex.mut (eb.trans e1) bx).trans e2) bx).trans e3) bx).trans e4) bx).trans e5) bx).trans e6) bx) ?_
    rw [upd_same]
    rfl
/-! ### the world's methods -/
def sp_take_number (c : Cs) : Sp := fun vs H Q _ => ∃ (a dx r pd ed md : Addr) (i1 i2 i3 i4 : Int), vs = [.ref a] ∧ H a = some (.ins c.W dx (worldF r i1 i2 i3 i4 pd ed md)) ∧
  ∀ H', ExB (· = a) H H' → H' a = some (.ins c.W dx (worldF r i1 i2 i3 (i4 + 1) pd ed md)) → Q (.int i4) H'
abbrev s_World_take_number : Stmt := inClass (top 10) 2
abbrev n_World_take_number : List Str := ["self", "number"]
abbrev p_World_take_number : List Str := ["self"]
theorem sc_World_take_number : FnScope n_World_take_number p_World_take_number (defScope s_World_take_number) := ⟨rfl, rfl, rfl, by decide +kernel, rfl, by decide +kernel, by decide +kernel⟩

theorem ok_take_number (CC : CT K c) (D : DefM K c.W "take_number" "World.take_number" s_World_take_number p_World_take_number) : HasM P w K mg base 1 c.W "take_number" p_World_take_number (sp_take_number c) := by
  refine D.has sc_World_take_number (fun vs H Q E h => ?_) (fun f cdv A outer sh H vs Q E hr h => ?_)
  · obtain ⟨a, dx, r, pd, ed, md, i1, i2, i3, i4, rfl, _⟩ := h
    rfl
  · obtain ⟨a, dx, r, pd, ed, md, i1, i2, i3, i4, rfl, h1, k⟩ := h
    refine ⟨_, (pss_cons (ps_set (i := 1) sc_World_take_number.nd rfl (Or.inl rfl) (pe_fld (pv 0) rfl))
 (pss_cons (ps_fld (pv 0) (pe_op op_add (pv 1) pe_int) rfl)
 (pss_one (ps_ret (pv 1))))), ?_⟩
    refine q_asg (ev_W CC (ev_var rfl) h1 (worldF_upcoming ..)) fun H1 e1 => ?_
    refine q_fld (ev_op (ev_var rfl) ev_c rv_I0) (ev_var rfl) (e1 _ _ h1) CC.W.cl (CC.W.na _ (by decide +kernel)) (by show 8 < 1000; decide) fun H2 e2 => ?_
    refine s_ret (ev_var rfl) fun H3 e3 => k H3 (fun b o hb n => e3 _ _ (by rw [upd_ne n]; exact (e1.trans e2) _ _ hb)) (e3 _ _ ?_)
    rw [upd_same]
    rfl
def sp_start_over (c : Cs) : Sp := fun vs H Q _ => ∃ (Hb : Hp) (a dx r : Addr) (fs : List (Str × V)), vs = [.ref a, .ref r] ∧ Ex Hb H ∧ Hb a = none ∧ H a = some (.ins c.W dx fs) ∧ (fs = [] ∨ ∃ r' i1 i2 i3 i4 pd ed md, fs = worldF r' i1 i2 i3 i4 pd ed md) ∧
  ∀ (pd ed md : Addr) (H' : Hp), Hb pd = none → Hb ed = none → Hb md = none → pd ≠ ed → pd ≠ md → ed ≠ md → Ex Hb H' → H' a = some (.ins c.W dx (worldF r 0 0 1 1 pd ed md)) → H' pd = some (.dK []) → H' ed = some (.dK []) → H' md = some (.dK []) → Q .non H'
end
section
variable {K : PySem.W.Frag} {σ : L2.St} {H : Hp} {D : Ends} {tu tz : TS} {ta tv : TE}
theorem putF_len (f : Str) (v : V) : ∀ fs : List (Str × V), (putF f v fs).length ≤ fs.length + 1
  | [] => Nat.le_refl _
  | (g, x) :: r => by
    by_cases h : g = f
    · subst h
      rw [pf_here]
      simp
    · rw [pf_past h]
      have := putF_len f v r
      simp
      omega
theorem s_fldD {a C dx : Addr} {fs : List (Str × V)} {f : Str} (ha : ∀ H1, Ex H H1 → Ev ta σ H1 (.ref a)) (h : H a = some (.ins C dx fs)) (cl : Cls K C) (na : NoAttr K C f) (hz : fs.length < 1000) (k : ∀ p H1, H p = none → Ex H H1 → H1 p = some (.dK []) → D.nx σ (upd H1 a (.ins C dx (putF f (.ref p) fs)))) :
    sFld K ta (fun _ H Q => ∀ p, H p = none → Q (.ref p) (upd H p (.dK []))) f D σ H := fun p hp => ha _ (Ex.new hp) _ (Ex.refl _) _ fun H2 e2 =>
  ⟨a, C, dx, fs, rfl, ((Ex.new hp).trans e2) _ _ h, cl, na, hz, k p H2 hp ((Ex.new hp).trans e2) (e2 _ _ upd_same)⟩
theorem q_fldD {a C dx : Addr} {fs : List (Str × V)} {f : Str} (ha : ∀ H1, Ex H H1 → Ev ta σ H1 (.ref a)) (h : H a = some (.ins C dx fs)) (cl : Cls K C) (na : NoAttr K C f) (hz : fs.length < 1000) (k : ∀ p H1, H p = none → Ex H H1 → H1 p = some (.dK []) → tz D σ (upd H1 a (.ins C dx (putF f (.ref p) fs)))) :
    tSeq (sFld K ta (fun _ H Q => ∀ p, H p = none → Q (.ref p) (upd H p (.dK []))) f) tz D σ H := s_fldD (D := { D with nx := tz D }) ha h cl na hz k
theorem s_fldaug {a C dx : Addr} {fs : List (Str × V)} {f : Str} {i j : Int} {g : Int → Int → Int} (ha : Ev ta σ H (.ref a)) (h : H a = some (.ins C dx fs)) (cl : Cls K C) (na : NoAttr K C f) (l : fs.lookup f = some (.int i)) (hv : Ev tv σ H (.int j)) (hz : fs.length < 1000)
    (k : ∀ H1, Ex H H1 → D.nx σ (upd H1 a (.ins C dx (putF f (.int (g i j)) fs)))) : sFldAug K ta tv (rI0 fun i j => .int (g i j)) f D σ H := ha H (Ex.refl H) _ fun H1 e1 =>
  ⟨a, C, dx, fs, .int i, rfl, e1 _ _ h, cl, na, l, hv H1 e1 _ fun H2 e2 => ⟨i, j, rfl, rfl, dx, fs, (e1.trans e2) _ _ h, hz, k H2 (e1.trans e2)⟩⟩
theorem q_fldaug {a C dx : Addr} {fs : List (Str × V)} {f : Str} {i j : Int} {g : Int → Int → Int} (ha : Ev ta σ H (.ref a)) (h : H a = some (.ins C dx fs)) (cl : Cls K C) (na : NoAttr K C f) (l : fs.lookup f = some (.int i)) (hv : Ev tv σ H (.int j)) (hz : fs.length < 1000)
    (k : ∀ H1, Ex H H1 → tz D σ (upd H1 a (.ins C dx (putF f (.int (g i j)) fs)))) : tSeq (sFldAug K ta tv (rI0 fun i j => .int (g i j)) f) tz D σ H := s_fldaug (D := { D with nx := tz D }) ha h cl na l hv hz k
end
section
variable {P : Program} {w : World} {K : PySem.W.Frag} {mg : Str → Option Value} {base : Heap} {c : Cs}
abbrev s_World_start_over : Stmt := inClass (top 10) 1
abbrev n_World_start_over : List Str := ["self", "rules"]
abbrev p_World_start_over : List Str := ["self", "rules"]
theorem sc_World_start_over : FnScope n_World_start_over p_World_start_over (defScope s_World_start_over) := ⟨rfl, rfl, rfl, by decide +kernel, rfl, by decide +kernel, by decide +kernel⟩

theorem ok_start_over (CC : CT K c) (D : DefM K c.W "start_over" "World.start_over" s_World_start_over p_World_start_over) : HasM P w K mg base 1 c.W "start_over" p_World_start_over (sp_start_over c) := by
  refine D.has sc_World_start_over (fun vs H Q E h => ?_) (fun f cdv A outer sh H vs Q E hr h => ?_)
  · obtain ⟨Hb, a, dx, r, fs, rfl, _⟩ := h
    rfl
  · obtain ⟨Hb, a, dx, r, fs, rfl, eb, ba, h1, hfs, k⟩ := h
    refine ⟨_, (pss_cons (ps_fld (pv 0) (pv 1) rfl)
 (pss_cons (ps_fld (pv 0) pe_int rfl)
 (pss_cons (ps_fld (pv 0) pe_int rfl)
 (pss_cons (ps_fld (pv 0) pe_int rfl)
 (pss_cons (ps_fld (pv 0) pe_int rfl)
 (pss_cons (ps_fld (pv 0) pe_dnewK rfl)
 (pss_cons (ps_fld (pv 0) pe_dnewK rfl)
 (pss_one (ps_fld (pv 0) pe_dnewK rfl))))))))), ?_⟩
    have hlen : fs.length ≤ 8 := by
      rcases hfs with z | ⟨_, _, _, _, _, _, _, _, z⟩
      · rw [z]; decide
      · rw [z]; exact Nat.le_refl 8
    have hput : ∀ pd ed md : Addr, putF "matches" (.ref md) (putF "parties" (.ref ed) (putF "players" (.ref pd) (putF "upcoming" (.int 1) (putF "season" (.int 1) (putF "pool" (.int 0) (putF "tick" (.int 0) (putF "rules" (.ref r) fs))))))) = worldF r 0 0 1 1 pd ed md := by
      intro pd ed md
      rcases hfs with z | ⟨_, _, _, _, _, _, _, _, z⟩
      · rw [z]; rfl
      · rw [z]; rfl
    generalize hf1 : putF "rules" (V.ref r) fs = f1 at hput
    have l1 : f1.length ≤ 9 := by rw [← hf1]; have := putF_len "rules" (V.ref r) fs; omega
    refine q_fld (ev_var rfl) (ev_var rfl) h1 CC.W.cl (CC.W.na _ (by decide +kernel)) (by omega) fun H1 e1 => ?_
    rw [hf1]
    generalize hf2 : putF "tick" (V.int 0) f1 = f2 at hput
    have l2 : f2.length ≤ 10 := by rw [← hf2]; have := putF_len "tick" (V.int 0) f1; omega
    refine q_fld ev_c (ev_var rfl) upd_same CC.W.cl (CC.W.na _ (by decide +kernel)) (by omega) fun H2 e2 => ?_
    rw [hf2]
    generalize hf3 : putF "pool" (V.int 0) f2 = f3 at hput
    have l3 : f3.length ≤ 11 := by rw [← hf3]; have := putF_len "pool" (V.int 0) f2; omega
    refine q_fld ev_c (ev_var rfl) upd_same CC.W.cl (CC.W.na _ (by decide +kernel)) (by omega) fun H3 e3 => ?_
    rw [hf3]
    generalize hf4 : putF "season" (V.int 1) f3 = f4 at hput
    have l4 : f4.length ≤ 12 := by rw [← hf4]; have := putF_len "season" (V.int 1) f3; omega
    refine q_fld ev_c (ev_var rfl) upd_same CC.W.cl (CC.W.na _ (by decide +kernel)) (by omega) fun H4 e4 => ?_
    rw [hf4]
    generalize hf5 : putF "upcoming" (V.int 1) f4 = f5 at hput
    have l5 : f5.length ≤ 13 := by rw [← hf5]; have := putF_len "upcoming" (V.int 1) f4; omega
    refine q_fld ev_c (ev_var rfl) upd_same CC.W.cl (CC.W.na _ (by decide +kernel)) (by omega) fun H5 e5 => ?_
    rw [hf5]
    have b1 := Ex.mut (o := .ins c.W dx f1) (eb.trans e1) ba
    have b2 := Ex.mut (o := .ins c.W dx f2) (b1.trans e2) ba
    have b3 := Ex.mut (o := .ins c.W dx f3) (b2.trans e3) ba
    have b4 := Ex.mut (o := .ins c.W dx f4) (b3.trans e4) ba
    have b5 := Ex.mut (o := .ins c.W dx f5) (b4.trans e5) ba
    refine q_fldD (fun _ _ => ev_var rfl) upd_same CC.W.cl (CC.W.na _ (by decide +kernel)) (by omega) fun pd H6 n6 e6 h6 => ?_
    have npa : pd ≠ a := fun z => by rw [z, upd_same] at n6; cases n6
    have b6 := Ex.mut (o := .ins c.W dx (putF "players" (.ref pd) f5)) (b5.trans e6) ba
    have lp := putF_len "players" (V.ref pd) f5
    refine q_fldD (fun _ _ => ev_var rfl) upd_same CC.W.cl (CC.W.na _ (by decide +kernel)) (by omega) fun ed H7 n7 e7 h7 => ?_
    have nea : ed ≠ a := fun z => by rw [z, upd_same] at n7; cases n7
    have npe : pd ≠ ed := fun z => by rw [← z, upd_ne npa, h6] at n7; cases n7
    have b7 := Ex.mut (o := .ins c.W dx (putF "parties" (.ref ed) (putF "players" (.ref pd) f5))) (b6.trans e7) ba
    have lq := putF_len "parties" (V.ref ed) (putF "players" (V.ref pd) f5)
    refine s_fldD (fun _ _ => ev_var rfl) upd_same CC.W.cl (CC.W.na _ (by decide +kernel)) (by omega) fun md H8 n8 e8 h8 => ?_
    have nma : md ≠ a := fun z => by rw [z, upd_same] at n8; cases n8
    have h67 : upd H7 a (.ins c.W dx (putF "parties" (.ref ed) (putF "players" (.ref pd) f5))) pd = some (.dK []) := by rw [upd_ne npa]; exact e7 _ _ (by rw [upd_ne npa]; exact h6)
    have h77 : upd H7 a (.ins c.W dx (putF "parties" (.ref ed) (putF "players" (.ref pd) f5))) ed = some (.dK []) := by rw [upd_ne nea]; exact h7
    have npm : pd ≠ md := fun z => by rw [← z, h67] at n8; cases n8
    have nem : ed ≠ md := fun z => by rw [← z, h77] at n8; cases n8
    refine k pd ed md _ (fresh_back b5 n6) (fresh_back b6 n7) (fresh_back b7 n8) npe npm nem (Ex.mut (b7.trans e8) ba) ?_ ?_ ?_ ?_
    · rw [upd_same, hput]
    · rw [upd_ne npa]; exact e8 _ _ h67
    · rw [upd_ne nea]; exact e8 _ _ h77
    · rw [upd_ne nma]; exact h8
end
end EM

namespace EM
open PySem PySem.Spec PyProof.Rows L2 Evl
open Vbwsap (Rules Player Match sumOf membersOf gap State)
section
variable {P : Program} {w : World} {K : PySem.W.Frag} {mg : Str → Option Value} {base : Heap} {c : Cs}
/-- the three dicts stand apart -/
structure Apart (γ : Gh) : Prop where
  pe : γ.pd ≠ γ.ed
  pm : γ.pd ≠ γ.md
  em : γ.ed ≠ γ.md
theorem WS.fresh {c : Cs} {H : Hp} {γ : Gh} {r : Rules} {dw dr : Addr} (h1 : H γ.w = some (.ins c.W dw (worldF γ.r 0 0 1 1 γ.pd γ.ed γ.md))) (h2 : H γ.r = some (.ins c.R dr (rulesF r))) (h3 : H γ.pd = some (.dK [])) (h4 : H γ.ed = some (.dK [])) (h5 : H γ.md = some (.dK [])) :
    WS c H γ { Vbwsap.start with rules := r } ∧ Un3 H γ { Vbwsap.start with rules := r } :=
  ⟨⟨⟨dw, h1⟩, ⟨dr, h2⟩, .inl h3, .inl h4, .inl h5, fun _ h => by simp [Vbwsap.start] at h, fun _ h => by simp [Vbwsap.start] at h, fun _ h => by simp [Vbwsap.start] at h⟩, ⟨h3, h4, h5⟩⟩
def sp_World (c : Cs) : Sp := fun vs H Q _ => ∃ (Hb : Hp) (x dx : Addr), vs = [.ref x] ∧ Ex Hb H ∧ Hb x = none ∧ H x = some (.ins c.W dx []) ∧ ∀ (γ : Gh) (H' : Hp), γ.w = x → Ex Hb H' → WS c H' γ Vbwsap.start → Un3 H' γ Vbwsap.start → Apart γ → Q .non H'
abbrev s_World___init__ : Stmt := inClass (top 10) 0
abbrev n_World___init__ : List Str := ["self"]
abbrev p_World___init__ : List Str := ["self"]
theorem sc_World___init__ : FnScope n_World___init__ p_World___init__ (defScope s_World___init__) := ⟨rfl, rfl, rfl, by decide +kernel, rfl, by decide +kernel, by decide +kernel⟩

theorem ok_World (CC : CT K c) (D : DefM K c.W "__init__" "World.__init__" s_World___init__ p_World___init__) (mk : PySem.W.makesIn K c.W = true) (kc : PySem.W.keepIn K (.ref c.W) = true) (gC : mg "World" = some (.ref c.W))
    (C_Rules : HasC P w K mg base 1 "Rules" c.R p_Rules___init__ (sp_Rules c)) (M_start_over : HasM P w K mg base 1 c.W "start_over" p_World_start_over (sp_start_over c)) : HasC P w K mg base 3 "World" c.W p_World___init__ (sp_World c) := by
  refine D.hasC mk kc gC sc_World___init__ (fun vs H Q E h => ?_) (fun f cdv A outer sh H vs Q E hr h => ?_)
  · obtain ⟨Hb, x, dx, rfl, _⟩ := h
    rfl
  · obtain ⟨Hb, x, dx, rfl, eb, bx, hx, k⟩ := h
    refine ⟨_, (pss_one (ps_expr (pe_hasM (pv 0) M_start_over (hr.mono (by decide)) (pa_cons (pe_hasC C_Rules (hr.mono (by decide)) rfl (pa_cons pe_int (pa_cons pe_int (pa_cons pe_int (pa_cons pe_int (pa_cons pe_int (pa_cons pe_int pa_nil))))))) pa_nil)))), ?_⟩
    refine ⟨.ref x, rfl, x, dx, [], rfl, hx, rfl, ?_⟩
    refine mk_go (vs := [_, _, _, _, _, _]) (ea_cons ev_c (ea_cons ev_c (ea_cons ev_c (ea_cons ev_c (ea_cons ev_c (ea_cons ev_c ea_nil)))))) fun H1 y dy e1 ny nd ne => ?_
    refine ⟨H1, y, dy, _, _, _, _, _, _, rfl, made_ex ny nd, ny, made_at, fun H2 e2 h2 => ⟨rfl, ?_⟩⟩
    have hx2 : H2 x = some (.ins c.W dx []) := e2 _ _ (e1 _ _ hx)
    have nyx : y ≠ x := fun z => by rw [z, e1 _ _ hx] at ny; cases ny
    refine ⟨drp H2 x, x, dx, y, [], rfl, drp_ex _ _, drp_self, hx2, .inl rfl, fun pd ed md H3 n1 n2 n3 d1 d2 d3 e3 h3 h4 h5 h6 => ?_⟩
    have hy : H3 y = some (.ins c.R dy (rulesF Vbwsap.noRules)) := e3 _ _ (drp_at nyx h2)
    obtain ⟨ws, un⟩ := WS.fresh (γ := ⟨x, y, pd, ed, md, fun _ => 0, fun _ => 0, fun _ => 0⟩) (r := Vbwsap.noRules) h3 hy h4 h5 h6
    exact k ⟨x, y, pd, ed, md, fun _ => 0, fun _ => 0, fun _ => 0⟩ H3 rfl ((drp_of ((eb.trans e1).trans e2) bx).trans e3) ws un ⟨d1, d2, d3⟩
/-! ### methods called -/
theorem q_asgM0 {σ : L2.St} {H : Hp} {D : Ends} {tz : TS} {to : TE} {sp : Sp} {C a dx : Addr} {m : Str} {fs : List (Str × V)} {i : Nat} (ha : Ev to σ H (.ref a)) (h : H a = some (.ins C dx fs)) (l : fs.lookup m = none) (k : ∀ H1, Ex H H1 → sp [.ref a] H1 (fun v H2 => tz D (σ.set i (some v)) H2) E0) :
    tSeq (tAsg (tMeth C m sp [] E0 to tNil) (gName i)) tz D σ H := ha H (Ex.refl H) _ fun H1 e1 => ⟨a, dx, fs, rfl, e1 _ _ h, l, k H1 e1⟩
theorem readerF_no (l : Addr) (i : Int) {m : Str} (h1 : (m == ("calls" : Str)) = false) (h2 : (m == ("place" : Str)) = false) : (readerF l i).lookup m = none := (lk_past h1).trans ((lk_past h2).trans rfl)
theorem worldF_no (r : Addr) (i1 i2 i3 i4 : Int) (pd ed md : Addr) {m : Str} (h : worldN.contains m = false) : (worldF r i1 i2 i3 i4 pd ed md).lookup m = none := by
  cases q : (worldF r i1 i2 i3 i4 pd ed md).lookup m with
  | none => rfl
  | some v =>
    have z := lookup_mem q
    have z2 : m ∈ worldN := z
    rw [List.contains_eq_mem, decide_eq_false_iff_not] at h
    exact absurd z2 h
/-! ### the reader -/
def ReaderAt (c : Cs) (H : Hp) (a l : Addr) (i : Nat) : Prop := ∃ dx, H a = some (.ins c.D dx (readerF l ((i : Nat) : Int)))
theorem ReaderAt.mono {c : Cs} {H H' : Hp} {a l : Addr} {i : Nat} (e : Ex H H') (h : ReaderAt c H a l i) : ReaderAt c H' a l i := let ⟨dx, h1⟩ := h; ⟨dx, e _ _ h1⟩
def sp_Reader (c : Cs) : Sp := fun vs H Q _ => ∃ (Hb : Hp) (x dx l : Addr), vs = [.ref x, .ref l] ∧ Ex Hb H ∧ Hb x = none ∧ H x = some (.ins c.D dx []) ∧ ∀ H', Ex Hb H' → ReaderAt c H' x l 0 → Q .non H'
abbrev s_Reader___init__ : Stmt := inClass (top 105) 0
abbrev n_Reader___init__ : List Str := ["self", "calls"]
abbrev p_Reader___init__ : List Str := ["self", "calls"]
theorem sc_Reader___init__ : FnScope n_Reader___init__ p_Reader___init__ (defScope s_Reader___init__) := ⟨rfl, rfl, rfl, by decide +kernel, rfl, by decide +kernel, by decide +kernel⟩

theorem ok_Reader (CC : CT K c) (D : DefM K c.D "__init__" "Reader.__init__" s_Reader___init__ p_Reader___init__) (mk : PySem.W.makesIn K c.D = true) (kc : PySem.W.keepIn K (.ref c.D) = true) (gC : mg "Reader" = some (.ref c.D)) : HasC P w K mg base 1 "Reader" c.D p_Reader___init__ (sp_Reader c) := by
  refine D.hasC mk kc gC sc_Reader___init__ (fun vs H Q E h => ?_) (fun f cdv A outer sh H vs Q E hr h => ?_)
  · obtain ⟨Hb, x, dx, l, rfl, _⟩ := h
    rfl
  · obtain ⟨Hb, x, dx, l, rfl, eb, bx, hx, k⟩ := h
    refine ⟨_, (pss_cons (ps_fld (pv 0) (pv 1) rfl)
 (pss_one (ps_fld (pv 0) pe_int rfl))), ?_⟩
    refine q_fld (ev_var rfl) (ev_var rfl) hx CC.D.cl (CC.D.na _ (by decide +kernel)) (by decide) fun H1 e1 => ?_
    refine s_fld ev_c (ev_var rfl) upd_same CC.D.cl (CC.D.na _ (by decide +kernel)) (by show 1 < 1000; decide) fun H2 e2 => ?_
    refine k _ (Ex.mut ((Ex.mut (eb.trans e1) bx).trans e2) bx) ⟨dx, ?_⟩
    rw [upd_same]
    rfl
def sp_has_more (K : PySem.W.Frag) (c : Cs) : Sp := fun vs H Q _ => ∃ (a l : Addr) (i : Nat) (ns : List Int), vs = [.ref a] ∧ ReaderAt c H a l i ∧ SqL K H l (ns.map V.int) ∧ RetV (.bl (decide (i < ns.length))) H Q
abbrev s_Reader_has_more : Stmt := inClass (top 105) 1
abbrev n_Reader_has_more : List Str := ["self"]
abbrev p_Reader_has_more : List Str := ["self"]
theorem sc_Reader_has_more : FnScope n_Reader_has_more p_Reader_has_more (defScope s_Reader_has_more) := ⟨rfl, rfl, rfl, by decide +kernel, rfl, by decide +kernel, by decide +kernel⟩

theorem ok_has_more (T : Txt mg) (CC : CT K c) (D : DefM K c.D "has_more" "Reader.has_more" s_Reader_has_more p_Reader_has_more) : HasM P w K mg base 1 c.D "has_more" p_Reader_has_more (sp_has_more K c) := by
  refine D.has sc_Reader_has_more (fun vs H Q E h => ?_) (fun f cdv A outer sh H vs Q E hr h => ?_)
  · obtain ⟨a, l, i, ns, rfl, _⟩ := h
    rfl
  · obtain ⟨a, l, i, ns, rfl, ⟨dx, h1⟩, hl, k⟩ := h
    refine ⟨_, (pss_one (ps_ret (pe_cmpR op_lt (pe_fld (pv 0) rfl) (pe_callB call_len_seq (by rfl) T.len PySem.boot_len (pa_cons (pe_fld (pv 0) rfl) pa_nil)) (nomark _)))), ?_⟩
    refine s_ret (ev_is (ev_op (ev_D CC (ev_var rfl) h1 (readerF_place _ _)) (ev_len (ev_D CC (ev_var rfl) h1 (readerF_calls _ _)) hl) rv_I0) ?_) k
    rw [List.length_map]
    congr 1
    exact decide_eq_decide.mpr (by omega)
def sp_take_whole (K : PySem.W.Frag) (c : Cs) : Sp := fun vs H Q _ => ∃ (a l : Addr) (i : Nat) (ns : List Int) (z : Int), vs = [.ref a] ∧ ReaderAt c H a l i ∧ SqL K H l (ns.map V.int) ∧ ns[i]? = some z ∧ ∀ H', ExB (· = a) H H' → ReaderAt c H' a l (i + 1) → Q (.int z) H'
abbrev s_Reader_take_whole : Stmt := inClass (top 105) 2
abbrev n_Reader_take_whole : List Str := ["self", "whole"]
abbrev p_Reader_take_whole : List Str := ["self"]
theorem sc_Reader_take_whole : FnScope n_Reader_take_whole p_Reader_take_whole (defScope s_Reader_take_whole) := ⟨rfl, rfl, rfl, by decide +kernel, rfl, by decide +kernel, by decide +kernel⟩

theorem ok_take_whole (T : Txt mg) (CC : CT K c) (D : DefM K c.D "take_whole" "Reader.take_whole" s_Reader_take_whole p_Reader_take_whole) : HasM P w K mg base 1 c.D "take_whole" p_Reader_take_whole (sp_take_whole K c) := by
  refine D.has sc_Reader_take_whole (fun vs H Q E h => ?_) (fun f cdv A outer sh H vs Q E hr h => ?_)
  · obtain ⟨a, l, i, ns, z, rfl, _⟩ := h
    rfl
  · obtain ⟨a, l, i, ns, z, rfl, ⟨dx, h1⟩, hl, hz, k⟩ := h
    refine ⟨_, (pss_cons (ps_set (i := 1) sc_Reader_take_whole.nd rfl (Or.inl rfl) (pe_ix ix_list (pe_fld (pv 0) rfl) (pe_fld (pv 0) rfl) (fun _ _ => rfl)))
 (pss_cons (ps_fldaug (pv 0) pe_int in_add)
 (pss_one (ps_ret (pv 1))))), ?_⟩
    refine q_asg (v := .int z) (ev_op (ev_D CC (ev_var rfl) h1 (readerF_calls _ _)) (ev_D CC (ev_var rfl) h1 (readerF_place _ _)) (rv_ixL hl (at_of rfl (by rw [List.getElem?_map, hz]; rfl)))) fun H1 e1 => ?_
    refine q_fldaug (g := fun i j => i + j) (ev_var rfl) (e1 _ _ h1) CC.D.cl (CC.D.na _ (by decide +kernel)) (readerF_place _ _) ev_c (by show 2 < 1000; decide) fun H2 e2 => ?_
    refine s_ret (ev_var rfl) fun H3 e3 => k H3 (fun b o hb n => e3 _ _ (by rw [upd_ne n]; exact (e1.trans e2) _ _ hb)) ⟨dx, e3 _ _ ?_⟩
    rw [upd_same]
    rfl
def sp_take_row (K : PySem.W.Frag) (c : Cs) : Sp := fun vs H Q _ => ∃ (a l : Addr) (i n : Nat) (ns : List Int), vs = [.ref a] ∧ ReaderAt c H a l i ∧ SqL K H l (ns.map V.int) ∧ ns[i]? = some ((n : Nat) : Int) ∧ i + 1 + n ≤ ns.length ∧
  ∀ p H', H p = none → ExB (· = a) H H' → ReaderAt c H' a l (i + 1 + n) → H' p = some (.lst (((ns.drop (i + 1)).take n).map V.int)) → Q (.ref p) H'
theorem cutV_mid (xs : List V) (i n : Nat) (h : i + n ≤ xs.length) : cutV xs (some ((i : Nat) : Int)) (some (((i : Nat) : Int) + ((n : Nat) : Int))) = (xs.drop i).take n := by
  unfold cutV
  have e1 : HT.sIx xs.length 0 (some ((i : Nat) : Int)) = i := by
    rw [HT.sIx_nat]
    omega
  have e2 : HT.sIx xs.length xs.length (some (((i : Nat) : Int) + ((n : Nat) : Int))) = i + n := by
    have e3 : ((i : Nat) : Int) + ((n : Nat) : Int) = ((i + n : Nat) : Int) := by omega
    rw [e3, HT.sIx_nat]
    omega
  rw [e1, e2]
  congr 1
  omega
theorem ExB.seq {S : Addr → Prop} {H H' : Hp} {l : Addr} {xs : List V} (e : ExB S H H') (hs : ∀ b, S b → ∃ C dx fs, H b = some (.ins C dx fs)) (h : SqL K H l xs) : SqL K H' l xs := by
  rcases h with (h | ⟨o, h⟩) | h
  · refine .inl (.inl (e _ _ h fun z => ?_))
    obtain ⟨C, dx, fs, q⟩ := hs _ z
    rw [h] at q
    cases q
  · refine .inl (.inr ⟨o, e _ _ h fun z => ?_⟩)
    obtain ⟨C, dx, fs, q⟩ := hs _ z
    rw [h] at q
    cases q
  · exact .inr h
abbrev s_Reader_take_row : Stmt := inClass (top 105) 3
abbrev n_Reader_take_row : List Str := ["self", "size", "row"]
abbrev p_Reader_take_row : List Str := ["self"]
theorem sc_Reader_take_row : FnScope n_Reader_take_row p_Reader_take_row (defScope s_Reader_take_row) := ⟨rfl, rfl, rfl, by decide +kernel, rfl, by decide +kernel, by decide +kernel⟩

theorem ok_take_row (T : Txt mg) (CC : CT K c) (D : DefM K c.D "take_row" "Reader.take_row" s_Reader_take_row p_Reader_take_row) (M_take_whole : HasM P w K mg base 1 c.D "take_whole" p_Reader_take_whole (sp_take_whole K c)) : HasM P w K mg base 2 c.D "take_row" p_Reader_take_row (sp_take_row K c) := by
  refine D.has sc_Reader_take_row (fun vs H Q E h => ?_) (fun f cdv A outer sh H vs Q E hr h => ?_)
  · obtain ⟨a, l, i, n, ns, rfl, _⟩ := h
    rfl
  · obtain ⟨a, l, i, n, ns, rfl, ⟨dx, h1⟩, hl, hz, hb, k⟩ := h
    refine ⟨_, (pss_cons (ps_set (i := 1) sc_Reader_take_row.nd rfl (Or.inl rfl) (pe_hasM0 (pv 0) M_take_whole (hr.mono (by decide))))
 (pss_cons (ps_set (i := 2) sc_Reader_take_row.nd rfl (Or.inl rfl) (pe_slice sl_list (pe_fld (pv 0) rfl) (po_some (pe_fld (pv 0) rfl)) (po_some (pe_op op_add (pe_fld (pv 0) rfl) (pv 1)))))
 (pss_cons (ps_fldaug (pv 0) (pv 1) in_add)
 (pss_one (ps_ret (pv 2)))))), ?_⟩
    refine q_asgM0 (ev_var rfl) h1 (readerF_no _ _ (by decide +kernel) (by decide +kernel)) fun H0 e0 => ?_
    refine ⟨a, l, i, ns, _, rfl, ⟨dx, e0 _ _ h1⟩, ex_l e0 hl, hz, fun H1 e01 ⟨dx1, h2⟩ => ?_⟩
    have e1 : ExB (· = a) H H1 := (ExB.of e0).trans e01
    have hl1 : SqL K H1 l (ns.map V.int) := e1.seq (fun b hb => ⟨c.D, dx, readerF l (i : Nat), by rw [show b = a from hb]; exact h1⟩) hl
    refine q_asgL (xs := ((ns.drop (i + 1)).take n).map V.int) ?_ fun p H2 hp e2 h3 => ?_
    · have z := el_sl (K := K) (ev_D CC (ev_var (σ := [some (.ref a), some (.int ((n : Nat) : Int)), none]) (i := 0) rfl) h2 (readerF_calls _ _)) (eo_some (ev_D CC (ev_var (i := 0) rfl) h2 (readerF_place _ _))) (eo_some (ev_op (ev_D CC (ev_var (i := 0) rfl) h2 (readerF_place _ _)) (ev_var (i := 1) rfl) (rv_I0 (g := fun i j => .int (i + j))))) hl1
      rw [cutV_mid _ _ _ (by rw [List.length_map]; exact hb), ← List.map_drop, ← List.map_take] at z
      exact z
    · refine q_fldaug (g := fun i j => i + j) (ev_var rfl) (e2 _ _ h2) CC.D.cl (CC.D.na _ (by decide +kernel)) (readerF_place _ _) (ev_var rfl) (by show 2 < 1000; decide) fun H3 e3 => ?_
      have npa : p ≠ a := fun z => by rw [z, h2] at hp; cases hp
      refine s_ret (ev_var rfl) fun H4 e4 => k p H4 ?_ (fun b o hb n => e4 _ _ (by rw [upd_ne n]; exact (e2.trans e3) _ _ (e1 _ _ hb n))) ⟨dx1, e4 _ _ ?_⟩ (e4 _ _ (by rw [upd_ne npa]; exact e3 _ _ h3))
      · cases hq : H p with
        | none => rfl
        | some o => rw [e1 _ _ hq npa] at hp; cases hp
      · rw [upd_same]
        rfl
end
end EM

namespace EM
open PySem PySem.Spec PyProof.Rows L2 Evl
open Vbwsap (Rules Player Match sumOf membersOf gap State)
section
variable {P : Program} {w : World} {K : PySem.W.Frag} {mg : Str → Option Value} {base : Heap} {c : Cs}
/-! ### the best one -/
def betS (pl : Nat → Player) (t : Int) (x y : Sd) : Bool := betI (unev pl x.1 x.2) (wait t (x.1 ++ x.2)) (unev pl y.1 y.2) (wait t (y.1 ++ y.2))
def pick (pl : Nat → Player) (t : Int) (b : Option Sd) (x : Sd) : Option Sd := match b with
  | none => some x
  | some y => if betS pl t x y = true then some x else some y
def bestP (pl : Nat → Player) (t : Int) (xs : List Sd) : Option Sd := xs.foldl (pick pl t) none
def RetO (c : Cs) (ea : Nat → Addr) (pl : Nat → Player) (t : Int) (x : Option Sd) (H : Hp) (Q : VK) : Prop := match x with
  | none => ∀ H2, Ex H H2 → Q .non H2
  | some x => ∀ g H2, Ex H H2 → PairAt c H2 ea pl t g x → Q (.ref g) H2
/-- a slot that holds None or a pairing -/
def OptAt (c : Cs) (H : Hp) (ea : Nat → Addr) (pl : Nat → Player) (t : Int) (v : V) (x : Option Sd) : Prop := match x with
  | none => v = .non
  | some x => ∃ g, v = .ref g ∧ PairAt c H ea pl t g x
theorem OptAt.mono {H H' : Hp} {ea : Nat → Addr} {pl : Nat → Player} {t : Int} {v : V} {x : Option Sd} (e : Ex H H') (h : OptAt c H ea pl t v x) : OptAt c H' ea pl t v x := by
  cases x with
  | none => exact h
  | some x =>
    obtain ⟨g, h1, h2⟩ := h
    exact ⟨g, h1, h2.mono e⟩
theorem OptAt.isN {H : Hp} {ea : Nat → Addr} {pl : Nat → Player} {t : Int} {v : V} {x : Option Sd} (h : OptAt c H ea pl t v x) : decide (v = V.non) = x.isNone := by
  cases x with
  | none =>
    rw [show v = V.non from h]
    rfl
  | some x =>
    obtain ⟨g, h1, h2⟩ := h
    rw [h1]
    rfl
theorem RetO.go {ea : Nat → Addr} {pl : Nat → Player} {t : Int} {x : Option Sd} {H H' : Hp} {v : V} {Q : VK} (k : RetO c ea pl t x H Q) (e : Ex H H') (h : OptAt c H' ea pl t v x) : Q v H' := by
  cases x with
  | none =>
    rw [show v = V.non from h]
    exact k H' e
  | some x =>
    obtain ⟨g, h1, h2⟩ := h
    rw [h1]
    exact k g H' e h2
def bestOf (s : State) (e : Ent) : Option Sd := bestP (plOf s) (s.now : Nat) (pairsOf s.rules (plOf s) (s.now : Nat) s.entries e)
def sp_best_match (c : Cs) : Sp := fun vs H Q _ => ∃ (γ : Gh) (s : State) (e : Ent), vs = [.ref γ.w, .ref (γ.ea e.num)] ∧ WS c H γ s ∧ Wf s ∧ e ∈ s.entries ∧ RetO c γ.ea (plOf s) (s.now : Nat) (bestOf s e) H Q
abbrev s_best_match : Stmt := top 31
abbrev n_best_match : List Str := ["world", "party", "best", "pairing"]
abbrev p_best_match : List Str := ["world", "party"]
theorem sc_best_match : FnScope n_best_match p_best_match (defScope s_best_match) := ⟨rfl, rfl, rfl, by decide +kernel, rfl, by decide +kernel, by decide +kernel⟩

theorem ok_best_match (T : Txt mg) (CC : CT K c) (D : Def K mg "best_match" s_best_match p_best_match) (G_pairings_of : Has P w K mg base 15 "pairings_of" p_pairings_of (sp_pairings_of c)) (G_is_better : Has P w K mg base 1 "is_better" p_is_better (sp_is_better c)) :
    Has P w K mg base 16 "best_match" p_best_match (sp_best_match c) := by
  refine D.has sc_best_match (fun vs H Q E h => ?_) (fun f cdv A outer sh H vs Q E hr h => ?_)
  · obtain ⟨γ, s, e, rfl, _⟩ := h
    rfl
  · obtain ⟨γ, s, e, rfl, ws, W, he, k⟩ := h
    refine ⟨_, (pss_cons (ps_set (i := 2) sc_best_match.nd rfl (Or.inl rfl) pe_non)
 (pss_cons (ps_for PassesOwn.never rfl (pi_list (pe_has G_pairings_of (hr.mono (by decide)) rfl (pa_cons (pv 0) (pa_cons (pv 1) pa_nil)))) (pg_name (i := 3) sc_best_match.nd rfl (Or.inl rfl))
  (pss_one (ps_if (PW.pt (pw_or (pt_cmpR op_isN (pv 2) pe_non (nomark _)) (pw_or1 (pt_val (pe_has G_is_better (hr.mono (by decide)) rfl (pa_cons (pv 3) (pa_cons (pv 2) pa_nil)))))))
  (pss_one (ps_set (i := 2) sc_best_match.nd rfl (Or.inl rfl) (pv 3))) pss_nil)))
 (pss_one (ps_ret (pv 2))))), ?_⟩
    refine q_asg ev_c fun H1 e1 => ?_
    refine ⟨.ref γ.w, rfl, .ref (γ.ea e.num), rfl, ?_⟩
    refine ⟨γ, s, e, rfl, ws.mono e1, W, he, fun p gs H2 hp e2 h2 hps => ?_⟩
    refine ⟨p, rfl, ⟨_, sq_of h2⟩, for_list (xs := gs.map V.ref) (fun i σ' H' => Ex H2 H' ∧ ∃ v x, OptAt c H' γ.ea (plOf s) (s.now : Nat) v (((pairsOf s.rules (plOf s) (s.now : Nat) s.entries e).take i).foldl (pick (plOf s) (s.now : Nat)) none) ∧ σ' = [some (.ref γ.w), some (.ref (γ.ea e.num)), some v, x])
      ⟨Ex.refl _, .non, none, rfl, rfl⟩ (fun i σ' H' _ pv => sq_of (pv.1 _ _ h2)) ?_ ?_⟩
    · rintro i x σ' H' hi ⟨e3, v, y, ho, rfl⟩
      rw [List.getElem?_map] at hi
      cases hq : gs[i]? with
      | none => rw [hq] at hi; cases hi
      | some g =>
        rw [hq] at hi
        cases hi
        have hlt : i < gs.length := (List.getElem?_eq_some_iff.mp hq).1
        obtain ⟨sd, hsd, hpa⟩ : ∃ sd, (pairsOf s.rules (plOf s) (s.now : Nat) s.entries e)[i]? = some sd ∧ PairAt c H2 γ.ea (plOf s) (s.now : Nat) g sd := by
          have hpg : ∀ {gs' : List Addr} {xs : List Sd}, PsAt c H2 γ.ea (plOf s) (s.now : Nat) gs' xs → ∀ {i : Nat} {g : Addr}, gs'[i]? = some g → ∃ sd, xs[i]? = some sd ∧ PairAt c H2 γ.ea (plOf s) (s.now : Nat) g sd := by
            intro gs' xs hh
            induction hh with
            | nil => intro i g h; simp at h
            | @cons a b l1 l2 r _ ih =>
              intro i g h
              cases i with
              | zero =>
                have h' : a = g := by simpa using h
                subst h'
                exact ⟨b, rfl, r⟩
              | succ i => exact ih (i := i) (by simpa using h)
          exact hpg hps hq
        have hpa' := hpa.mono e3
        show tIfS _ _ _ _ [some (.ref γ.w), some (.ref (γ.ea e.num)), some v, some (.ref g)] H'
        generalize hb : ((pairsOf s.rules (plOf s) (s.now : Nat) s.entries e).take i).foldl (pick (plOf s) (s.now : Nat)) none = b at ho
        cases b with
        | none =>
          have hv : v = .non := ho
          subst hv
          refine s_when (b := true) (et_is (et_or (a := true) (b := true) (et_test (ev_op (ev_var rfl) ev_c (fun H4 _ Q' q' => ⟨rfl, q' H4 (Ex.refl H4)⟩))) (fun z => by cases z)) rfl) (fun _ H4 e4 => ?_) (fun z => by cases z)
          refine s_asg (ev_var rfl) fun H5 e5 => ⟨e3.trans (e4.trans e5), .ref g, some (.ref g), ?_, rfl⟩
          rw [take_more hsd, List.foldl_append, hb]
          exact ⟨g, rfl, hpa'.mono (e4.trans e5)⟩
        | some y =>
          obtain ⟨g2, hv, hp2⟩ := ho
          subst hv
          have hp2' := hp2
          have hpa2 := hpa'
          obtain ⟨d1, la1, lb1, i1, _, _⟩ := hpa'
          obtain ⟨d2, la2, lb2, i2, _, _⟩ := hp2
          refine s_when (b := betS (plOf s) (s.now : Nat) sd y) (et_is (et_or (a := false) (et_test (ev_op (ev_var rfl) ev_c (fun H4 _ Q' q' => ⟨rfl, q' H4 (Ex.refl H4)⟩))) (fun _ => et_B (ev_callV (vs := [.ref g, .ref g2]) (ea_cons (ev_var rfl) (ea_cons (ev_var rfl) ea_nil)) fun H4 e4 Q' q' => ⟨g, g2, d1, d2, la1, lb1, la2, lb2, _, _, _, _, rfl, e4 _ _ i1, e4 _ _ i2, q'⟩))) rfl) (fun hbt H4 e4 => ?_) (fun hbt H4 e4 => ?_)
          · refine s_asg (ev_var rfl) fun H5 e5 => ⟨e3.trans (e4.trans e5), .ref g, some (.ref g), ?_, rfl⟩
            rw [take_more hsd, List.foldl_append, hb]
            show OptAt c H5 γ.ea (plOf s) (s.now : Nat) (.ref g) (if betS (plOf s) (s.now : Nat) sd y = true then some sd else some y)
            rw [if_pos hbt]
            exact ⟨g, rfl, hpa2.mono (e4.trans e5)⟩
          · refine ⟨e3.trans e4, .ref g2, some (.ref g), ?_, rfl⟩
            rw [take_more hsd, List.foldl_append, hb]
            show OptAt c H4 γ.ea (plOf s) (s.now : Nat) (.ref g2) (if betS (plOf s) (s.now : Nat) sd y = true then some sd else some y)
            rw [hbt]
            exact ⟨g2, rfl, hp2'.mono e4⟩
    · rintro σ' H' ⟨e3, v, y, ho, rfl⟩
      rw [List.length_map, paired_len hps, List.take_length] at ho
      show tRet (tVar 2) { nx := fun x H' => Q V.non H', rt := Q } _ H'
      exact s_ret (ev_var rfl) fun H4 e4 => k.go (((e1.trans e2).trans e3).trans e4) (ho.mono e4)
end
end EM

namespace EM
open PySem PySem.Spec PyProof.Rows L2 Evl
open Vbwsap (Rules Player Match sumOf membersOf gap State)
theorem rd_lock {H : Hp} {d b : Addr} {kvs : List (Key × V)} {o : HO} {od : Obj} (hd : H d = some (.dK kvs)) (h : Rd H b o) : Rd (upd H d (.frz od (.dK kvs))) b o := by
  by_cases q : b = d
  · subst q
    rcases h with h | ⟨o', h⟩
    · rw [hd] at h
      cases h
      exact .inr ⟨od, upd_same⟩
    · rw [hd] at h
      cases h
  · rcases h with h | ⟨o', h⟩
    · exact .inl (by rw [upd_ne q]; exact h)
    · exact .inr ⟨o', by rw [upd_ne q]; exact h⟩
theorem WS.lock {c : Cs} {H : Hp} {γ : Gh} {s : State} {d : Addr} {kvs : List (Key × V)} {od : Obj} (h : WS c H γ s) (hd : H d = some (.dK kvs)) : WS c (upd H d (.frz od (.dK kvs))) γ s := by
  refine ⟨?_, ?_, rd_lock hd h.pd, rd_lock hd h.ed, rd_lock hd h.md, fun p hp => ?_, fun p hp => ?_, fun p hp => ?_⟩
  · obtain ⟨dx, q⟩ := h.wo
    exact ⟨dx, lock_ex hd q (by intro z; cases z)⟩
  · obtain ⟨dx, q⟩ := h.ru
    exact ⟨dx, lock_ex hd q (by intro z; cases z)⟩
  · obtain ⟨dx, q⟩ := h.ps p hp
    exact ⟨dx, lock_ex hd q (by intro z; cases z)⟩
  · obtain ⟨dx, l, q, q2⟩ := h.en p hp
    exact ⟨dx, l, lock_ex hd q (by intro z; cases z), lock_ex hd q2 (by intro z; cases z)⟩
  · obtain ⟨dx, l, l2, q, q2, q3⟩ := h.ms p hp
    exact ⟨dx, l, l2, lock_ex hd q (by intro z; cases z), lock_ex hd q2 (by intro z; cases z), lock_ex hd q3 (by intro z; cases z)⟩
theorem unlock_at {H : Hp} {d b : Addr} {u u' o : HO} {od : Obj} (hd : H d = some (.frz od u)) (h : H b = some o) (hne : o ≠ .frz od u) : upd H d u' b = some o := by
  rw [upd_ne (fun z => by rw [z, hd] at h; exact hne (Option.some.inj h).symm)]
  exact h
theorem OptAt.unlock {c : Cs} {H : Hp} {ea : Nat → Addr} {pl : Nat → Player} {t : Int} {v : V} {x : Option Sd} {d : Addr} {u u' : HO} {od : Obj} (hd : H d = some (.frz od u)) (h : OptAt c H ea pl t v x) : OptAt c (upd H d u') ea pl t v x := by
  cases x with
  | none => exact h
  | some x =>
    obtain ⟨g, h1, dx, la, lb, q1, q2, q3⟩ := h
    exact ⟨g, h1, dx, la, lb, unlock_at hd q1 (by intro z; cases z), unlock_at hd q2 (by intro z; cases z), unlock_at hd q3 (by intro z; cases z)⟩
section
variable {P : Program} {w : World} {K : PySem.W.Frag} {mg : Str → Option Value} {base : Heap} {c : Cs}
def turnOf (s : State) : Option Sd := s.entries.findSome? (bestOf s)
def sp_match_in_turn (c : Cs) : Sp := fun vs H Q _ => ∃ (γ : Gh) (s : State), vs = [.ref γ.w] ∧ WS c H γ s ∧ Wf s ∧ Un3 H γ s ∧ RetO c γ.ea (plOf s) (s.now : Nat) (turnOf s) H Q
abbrev s_match_in_turn : Stmt := top 32
abbrev n_match_in_turn : List Str := ["world", "party", "best"]
abbrev p_match_in_turn : List Str := ["world"]
theorem sc_match_in_turn : FnScope n_match_in_turn p_match_in_turn (defScope s_match_in_turn) := ⟨rfl, rfl, rfl, by decide +kernel, rfl, by decide +kernel, by decide +kernel⟩

theorem ok_match_in_turn (T : Txt mg) (CC : CT K c) (D : Def K mg "match_in_turn" s_match_in_turn p_match_in_turn) (G_best_match : Has P w K mg base 16 "best_match" p_best_match (sp_best_match c)) : Has P w K mg base 17 "match_in_turn" p_match_in_turn (sp_match_in_turn c) := by
  refine D.has sc_match_in_turn (fun vs H Q E h => ?_) (fun f cdv A outer sh H vs Q E hr h => ?_)
  · obtain ⟨γ, s, rfl, _⟩ := h
    rfl
  · obtain ⟨γ, s, rfl, ws, W, un, k⟩ := h
    refine ⟨_, (pss_cons (ps_lock (ps_for PassesOwn.never rfl (pi_values (pe_fld (pv 0) rfl)) (pg_name (i := 1) sc_match_in_turn.nd rfl (Or.inl rfl))
  (pss_cons (ps_set (i := 2) sc_match_in_turn.nd rfl (Or.inl rfl) (pe_has G_best_match (hr.mono (by decide)) rfl (pa_cons (pv 0) (pa_cons (pv 1) pa_nil))))
 (pss_one (ps_if (pt_cmpR op_notN (pv 2) pe_non (nomark _))
  (pss_one (ps_ret (pv 2))) pss_nil)))))
 (pss_one (ps_ret pe_non))), ?_⟩
    obtain ⟨dw, h1⟩ := ws.wo
    refine q_forDG (l := s.entries) (fun e => Sum.inl ((e.num : Nat) : Int)) (fun e => V.ref (γ.ea e.num)) un.ed (fun od => ev_W CC (ev_var rfl) (lock_ex un.ed h1 (by intro z; cases z)) (worldF_parties ..))
      (fun od i σ' H' => Ex (upd H γ.ed (.frz od (.dK (s.entries.map fun e => (Sum.inl ((e.num : Nat) : Int), V.ref (γ.ea e.num)))))) H' ∧ (s.entries.take i).findSome? (bestOf s) = none ∧ ∃ x y, σ' = [some (.ref γ.w), x, y]) (fun od H1 e1 => ⟨e1, rfl, none, none, rfl⟩) (fun od i σ' H' pv => pv.1 _ _ upd_same) ?_ ?_
    · rintro od i e σ' H' hi ⟨e1, hno, x, y, rfl⟩
      have he : e ∈ s.entries := List.mem_of_getElem? hi
      have wsl : WS c H' γ s := (ws.lock un.ed).mono e1
      refine q_asgC (vs := [.ref γ.w, .ref (γ.ea e.num)]) (ea_cons (ev_var rfl) (ea_cons (ev_var rfl) ea_nil)) fun H2 e2 => ?_
      refine ⟨γ, s, e, rfl, wsl.mono e2, W, he, ?_⟩
      -- the value is None, or a pairing
      have go : ∀ v H3, Ex H2 H3 → OptAt c H3 γ.ea (plOf s) (s.now : Nat) v (bestOf s e) → tIfS (tTest (tOp (fun x y H Q => y = V.non ∧ Q (.bl (!decide (x = .non))) H) (tVar 2) (tC .non))) (tRet (tVar 2)) tNext
          { nx := fun σ' H' => Ex (upd H γ.ed (.frz od (.dK (s.entries.map fun e => (Sum.inl ((e.num : Nat) : Int), V.ref (γ.ea e.num)))))) H' ∧ (s.entries.take (i + 1)).findSome? (bestOf s) = none ∧ ∃ x y, σ' = [some (.ref γ.w), x, y],
            rt := fun v H' => H' γ.ed = some (.frz od (.dK (s.entries.map fun e => (Sum.inl ((e.num : Nat) : Int), V.ref (γ.ea e.num))))) ∧ Q v (upd H' γ.ed (.dK (s.entries.map fun e => (Sum.inl ((e.num : Nat) : Int), V.ref (γ.ea e.num))))),
            bk := fun σ' H' => H' γ.ed = some (.frz od (.dK (s.entries.map fun e => (Sum.inl ((e.num : Nat) : Int), V.ref (γ.ea e.num))))) ∧ tRet (tC .non) { nx := fun _ H' => Q .non H', rt := Q } σ' (upd H' γ.ed (.dK (s.entries.map fun e => (Sum.inl ((e.num : Nat) : Int), V.ref (γ.ea e.num))))),
            ct := fun σ' H' => Ex (upd H γ.ed (.frz od (.dK (s.entries.map fun e => (Sum.inl ((e.num : Nat) : Int), V.ref (γ.ea e.num)))))) H' ∧ (s.entries.take (i + 1)).findSome? (bestOf s) = none ∧ ∃ x y, σ' = [some (.ref γ.w), x, y] }
          [some (.ref γ.w), some (.ref (γ.ea e.num)), some v] H3 := by
        intro v H3 e3 ho
        have e13 := (e1.trans e2).trans e3
        refine s_when (b := !(bestOf s e).isNone) (et_is (et_test (ev_op (ev_var rfl) ev_c (fun H4 _ Q' q' => ⟨rfl, q' H4 (Ex.refl H4)⟩))) (by rw [ho.isN])) (fun hb H4 e4 => ?_) (fun hb H4 e4 => ?_)
        · refine s_ret (ev_var rfl) fun H5 e5 => ?_
          have e15 := e13.trans (e4.trans e5)
          have hed := e15 _ _ upd_same
          refine ⟨hed, ?_⟩
          have ht : turnOf s = bestOf s e := by
            unfold turnOf
            have hsp : s.entries = s.entries.take i ++ e :: s.entries.drop (i + 1) := by
              have h9 := List.take_append_drop i s.entries
              rw [List.drop_eq_getElem_cons (List.getElem?_eq_some_iff.mp hi).1, (List.getElem?_eq_some_iff.mp hi).2] at h9
              exact h9.symm
            rw [hsp, List.findSome?_append]
            rw [show List.findSome? (bestOf s) (List.take i s.entries) = none from hno]
            rw [Option.none_or, List.findSome?_cons]
            cases hbe : bestOf s e with
            | none => rw [hbe] at hb; cases hb
            | some z => rfl
          rw [← ht] at ho
          exact k.go (unlock_ex un.ed e15) ((ho.mono (e4.trans e5)).unlock hed)
        · have hbn : bestOf s e = none := by
            cases hbe : bestOf s e with
            | none => rfl
            | some z => rw [hbe] at hb; cases hb
          refine ⟨e13.trans e4, ?_, _, _, rfl⟩
          rw [take_more hi, List.findSome?_append, hno, Option.none_or, List.findSome?_cons, hbn]
          rfl
      cases hb : bestOf s e with
      | none =>
        rw [hb] at go
        exact fun H3 e3 => go _ H3 e3 rfl
      | some z =>
        rw [hb] at go
        exact fun g H3 e3 hp => go _ H3 e3 ⟨g, rfl, hp⟩
    · rintro od σ' H' ⟨e1, hno, x, y, rfl⟩
      rw [List.take_length] at hno
      have ht : turnOf s = none := hno
      rw [ht] at k
      exact s_ret ev_c fun H3 e3 => k H3 ((unlock_ex un.ed e1).trans e3)
end
end EM

namespace EM
open Vbwsap (Rules Player Match sumOf membersOf gap State someOf partsOf)
/-! ### the ways, by the specification -/
theorem membersOf_cons (e : Ent) (l : List Ent) : membersOf (e :: l) = e.who ++ membersOf l := by simp [membersOf]
theorem ways_zero : ∀ {row : List Ent}, (∀ e ∈ row, 1 ≤ e.who.length) → (someOf row).filter (fun l => decide (((membersOf l).length : Int) = 0)) = [[]]
  | [], _ => by simp [someOf, membersOf]
  | e :: r, h => by
    have ih := ways_zero (row := r) (fun x hx => h x (List.mem_cons_of_mem _ hx))
    have he := h e List.mem_cons_self
    rw [someOf, List.filter_append, ih, List.filter_map]
    have : (someOf r).filter ((fun l => decide (((membersOf l).length : Int) = 0)) ∘ fun l => e :: l) = [] := by
      rw [List.filter_eq_nil_iff]
      intro l _
      simp only [Function.comp, membersOf_cons, List.length_append, decide_eq_true_eq]
      omega
    rw [this]
    rfl
theorem ways_spec : ∀ {row : List Ent} (k : Int), (∀ e ∈ row, 1 ≤ e.who.length) → ways row k = (someOf row).filter (fun l => decide (((membersOf l).length : Int) = k))
  | [], k, _ => by
    unfold ways
    by_cases hk : k = 0
    · subst hk
      simp [someOf, membersOf]
    · have hk' : ¬ (0 : Int) = k := fun z => hk z.symm
      simp [someOf, membersOf, hk, hk']
  | e :: r, k, h => by
    unfold ways
    split
    · rename_i hk
      subst hk
      exact (ways_zero h).symm
    · split
      · rename_i hk
        symm
        rw [List.filter_eq_nil_iff]
        intro l _
        simp only [decide_eq_true_eq]
        omega
      · have ih1 := ways_spec (row := r) (k - (e.who.length : Nat)) (fun x hx => h x (List.mem_cons_of_mem _ hx))
        have ih2 := ways_spec (row := r) k (fun x hx => h x (List.mem_cons_of_mem _ hx))
        rw [ih1, ih2, someOf, List.filter_append, List.filter_map]
        congr 2
        apply List.filter_congr
        intro l _
        simp only [Function.comp, membersOf_cons, List.length_append]
        exact decide_eq_decide.mpr (by omega)
theorem outOf_cons_in {e : Ent} {l m : List Ent} (h : ∀ x ∈ l, x.num ≠ e.num) : outOf (e :: l) (e :: m) = outOf l m := by
  unfold outOf
  rw [List.filter_cons]
  simp only [List.map_cons, List.contains_cons, beq_self_eq_true, Bool.true_or, Bool.not_true, Bool.false_eq_true, if_false]
  apply List.filter_congr
  intro x hx
  have hn : (x.num == e.num) = false := beq_false_of_ne (h x hx)
  rw [hn, Bool.false_or]
theorem outOf_cons_out {e : Ent} {l m : List Ent} (h : ∀ x ∈ m, x.num ≠ e.num) : outOf (e :: l) m = e :: outOf l m := by
  unfold outOf
  rw [List.filter_cons]
  have hn : (m.map fun (g : Ent) => g.num).contains e.num = false := by
    rw [List.contains_eq_mem, decide_eq_false_iff_not]
    intro z
    obtain ⟨x, hx, hxe⟩ := List.mem_map.mp z
    exact h x hx hxe
  rw [hn]
  rfl
theorem someOf_sub {α : Type} : ∀ {row l : List α}, l ∈ someOf row → ∀ e ∈ l, e ∈ row
  | [], l, h => by
    have : l = [] := by simpa [someOf] using h
    subst this
    simp
  | x :: r, l, h => by
    rw [someOf] at h
    rcases List.mem_append.mp h with h | h
    · obtain ⟨l', h', rfl⟩ := List.mem_map.mp h
      intro e he
      rcases List.mem_cons.mp he with z | z
      · rw [z]; exact List.mem_cons_self
      · exact List.mem_cons_of_mem _ (someOf_sub h' e z)
    · intro e he
      exact List.mem_cons_of_mem _ (someOf_sub h e he)
theorem parts_spec : ∀ {l : List Ent}, (l.map fun e => e.num).Nodup → partsOf l = (someOf l).map fun m => (m, outOf l m)
  | [], _ => by simp [partsOf, someOf, outOf]
  | e :: r, nd => by
    rw [List.map_cons, List.nodup_cons] at nd
    have hne : ∀ x ∈ r, x.num ≠ e.num := fun x hx z => nd.1 (List.mem_map.mpr ⟨x, hx, z⟩)
    have ih := parts_spec (l := r) nd.2
    rw [partsOf, ih, someOf, List.map_append, List.map_map, List.map_map, List.map_map]
    congr 1
    · apply List.map_congr_left
      intro m _
      simp only [Function.comp, outOf_cons_in hne]
    · apply List.map_congr_left
      intro m hm
      simp only [Function.comp]
      rw [outOf_cons_out (fun x hx => hne x (someOf_sub hm x hx))]
/-! ### whether a party takes it -/
theorem cdivI_le {a b m : Int} (hb : 0 < b) : cdivI a b ≤ m ↔ a ≤ m * b := by
  unfold cdivI
  rw [Int.fdiv_eq_ediv_of_nonneg _ (Int.le_of_lt hb)]
  constructor
  · intro h
    have h1 : -m ≤ (-a) / b := by omega
    have h2 := (Int.le_ediv_iff_mul_le hb).mp h1
    have h3 : -m * b = -(m * b) := Int.neg_mul m b
    omega
  · intro h
    have h3 : -m * b = -(m * b) := Int.neg_mul m b
    have h1 : -m ≤ (-a) / b := (Int.le_ediv_iff_mul_le hb).mpr (by omega)
    omega
theorem gap_abs (a b : Nat) : ((gap a b : Nat) : Int) = absI ((a : Int) - (b : Int)) := by
  unfold gap absI
  split <;> split <;> omega
theorem takes_spec {s : State} {all : List Ent} {e : Ent} (hn : (membersOf all).length = 2 * s.rules.side) (h1 : 1 ≤ s.rules.side) (h2 : 1 ≤ e.who.length) (h3 : 1 ≤ s.rules.step) (h4 : e.since ≤ s.now) :
    Vbwsap.takes s all e = decide (tkSince s.rules (plOf s) (rsum (plOf s) all : Nat) e ≤ (s.now : Nat)) := by
  unfold Vbwsap.takes
  apply decide_eq_decide.mpr
  rw [hn, ← rsum_spec]
  have e1 : Vbwsap.sumRating s e.who = rsum (plOf s) [e] := by rw [rsum_spec, membersOf_one]
  rw [e1]
  unfold tkSince
  generalize rsum (plOf s) all = A
  generalize rsum (plOf s) [e] = B
  unfold Vbwsap.window
  generalize hk : e.who.length = k at *
  generalize hd : s.rules.side = d at *
  have hkd : (0 : Int) < (k : Int) * (2 * (d : Int)) := Int.mul_pos (by omega) (by omega)
  have hst : (0 : Int) < ((s.rules.step : Nat) : Int) := by omega
  have eg := gap_abs (A * k) (B * (2 * d))
  have ea : absI ((A : Int) * (k : Int) - (B : Int) * (2 * (d : Int))) = ((gap (A * k) (B * (2 * d)) : Nat) : Int) := by
    rw [eg]
    congr 1
  rw [ea]
  generalize gap (A * k) (B * (2 * d)) = g
  -- the least tick
  have hmax : ∀ x : Int, ((e.since : Nat) : Int) + maxI 0 x ≤ (s.now : Nat) ↔ x ≤ ((s.now - e.since : Nat) : Int) := by
    intro x
    unfold maxI
    split <;> omega
  rw [hmax, cdivI_le hst]
  generalize hT : s.now - e.since = t
  have h5 : cdivI (g : Int) ((k : Int) * (2 * (d : Int))) - ((s.rules.base : Nat) : Int) ≤ (t : Int) * ((s.rules.step : Nat) : Int) ↔ cdivI (g : Int) ((k : Int) * (2 * (d : Int))) ≤ ((s.rules.base : Nat) : Int) + (t : Int) * ((s.rules.step : Nat) : Int) := by omega
  rw [h5, cdivI_le hkd]
  have e6 : (((s.rules.base + s.rules.step * t) * (2 * d * k) : Nat) : Int) = (((s.rules.base : Nat) : Int) + (t : Int) * ((s.rules.step : Nat) : Int)) * ((k : Int) * (2 * (d : Int))) := by
    rw [Int.natCast_mul, Int.natCast_add, Int.natCast_mul, Int.natCast_mul, Int.natCast_mul, Int.mul_comm ((s.rules.step : Nat) : Int) (t : Int), Int.mul_comm ((2 : Nat) * (d : Int)) (k : Int)]
    rfl
  rw [← e6]
  omega
end EM

namespace EM
open Vbwsap (Rules Player Match sumOf membersOf gap State someOf partsOf)
theorem someOf_sublist {α : Type} : ∀ {row l : List α}, l ∈ someOf row → l.Sublist row
  | [], l, h => by
    have : l = [] := by simpa [someOf] using h
    subst this
    exact List.Sublist.refl _
  | x :: r, l, h => by
    rw [someOf] at h
    rcases List.mem_append.mp h with h | h
    · obtain ⟨l', h', rfl⟩ := List.mem_map.mp h
      exact (someOf_sublist h').cons₂ x
    · exact (someOf_sublist h).cons x
theorem nodup_sub {l row : List Ent} (h : l.Sublist row) (nd : (row.map fun e => e.num).Nodup) : (l.map fun e => e.num).Nodup := List.Nodup.sublist (h.map _) nd
theorem part_perm : ∀ {l m : List Ent}, m ∈ someOf l → (l.map fun e => e.num).Nodup → (m ++ outOf l m).Perm l
  | [], m, h, _ => by
    have : m = [] := by simpa [someOf] using h
    subst this
    exact List.Perm.refl _
  | e :: r, m, h, nd => by
    rw [List.map_cons, List.nodup_cons] at nd
    have hne : ∀ x ∈ r, x.num ≠ e.num := fun x hx z => nd.1 (List.mem_map.mpr ⟨x, hx, z⟩)
    rw [someOf] at h
    rcases List.mem_append.mp h with h | h
    · obtain ⟨m', h', rfl⟩ := List.mem_map.mp h
      rw [outOf_cons_in hne, List.cons_append]
      exact (part_perm h' nd.2).cons e
    · rw [outOf_cons_out (fun x hx => hne x (someOf_sub h x hx))]
      exact List.perm_middle.trans ((part_perm h nd.2).cons e)
theorem sumOf_perm {a b : List Nat} (h : a.Perm b) : sumOf a = sumOf b := by
  induction h with
  | nil => rfl
  | cons x _ ih =>
    show x + sumOf _ = x + sumOf _
    rw [ih]
  | swap x y l =>
    show y + (x + sumOf l) = x + (y + sumOf l)
    omega
  | trans _ _ h1 h2 => rw [h1, h2]
theorem members_perm {a b : List Ent} (h : a.Perm b) : (membersOf a).Perm (membersOf b) := by
  unfold membersOf
  exact h.flatMap_right _
theorem takes_perm {s : State} {a b : List Ent} (h : a.Perm b) (e : Ent) : Vbwsap.takes s a e = Vbwsap.takes s b e := by
  have hm := members_perm h
  unfold Vbwsap.takes Vbwsap.sumRating
  rw [hm.length_eq, sumOf_perm (hm.map (Vbwsap.ratingOf s))]
theorem all_perm {α : Type} {p : α → Bool} {a b : List α} (h : a.Perm b) : a.all p = b.all p := by
  rw [Bool.eq_iff_iff, List.all_eq_true, List.all_eq_true]
  exact ⟨fun q x hx => q x (h.mem_iff.mpr hx), fun q x hx => q x (h.mem_iff.mp hx)⟩
theorem flatMap_eq {α β : Type} {f g : α → List β} : ∀ {l : List α}, (∀ x ∈ l, f x = g x) → l.flatMap f = l.flatMap g
  | [], _ => rfl
  | x :: r, h => by
    rw [List.flatMap_cons, List.flatMap_cons, h x List.mem_cons_self, flatMap_eq fun y hy => h y (List.mem_cons_of_mem _ hy)]
theorem pairs_spec {s : State} (W : Wf s) {e : Ent} (he : e ∈ s.entries) : pairsOf s.rules (plOf s) (s.now : Nat) s.entries e = Vbwsap.sidesWith s e (s.entries.filter fun x => x.num != e.num) := by
  have hout : outOf s.entries [e] = s.entries.filter fun x => x.num != e.num := by
    unfold outOf
    apply List.filter_congr
    intro x _
    rw [Bool.eq_iff_iff]
    simp
  unfold pairsOf Vbwsap.sidesWith
  rw [hout]
  generalize hO : (s.entries.filter fun x => x.num != e.num) = O
  have hOs : ∀ x ∈ O, x ∈ s.entries := fun x hx => by
    rw [← hO] at hx
    exact (List.mem_filter.mp hx).1
  have hOn : (O.map fun e => e.num).Nodup := by
    rw [← hO]
    exact nodup_sub List.filter_sublist W.en
  rw [ways_spec _ (fun x hx => (W.ew x (hOs x hx)).1)]
  have hf : (someOf O).filter (fun l => decide (((membersOf l).length : Int) = 2 * ((s.rules.side : Nat) : Int) - ((e.who.length : Nat) : Int))) = (someOf O).filter fun l => (membersOf (e :: l)).length == 2 * s.rules.side := by
    apply List.filter_congr
    intro l _
    rw [membersOf_cons, List.length_append, Bool.eq_iff_iff]
    simp only [decide_eq_true_eq, beq_iff_eq]
    omega
  rw [hf]
  apply flatMap_eq
  intro l hl
  obtain ⟨hl1, hl2⟩ := List.mem_filter.mp hl
  have hlen : (membersOf (e :: l)).length = 2 * s.rules.side := by simpa using hl2
  have hls : ∀ x ∈ l, x ∈ s.entries := fun x hx => hOs x (someOf_sub hl1 x hx)
  have hln : (l.map fun e => e.num).Nodup := nodup_sub (someOf_sublist hl1) hOn
  have hcs : ∀ x ∈ e :: l, x ∈ s.entries := fun x hx => by
    rcases List.mem_cons.mp hx with z | z
    · rw [z]; exact he
    · exact hls x z
  have hpl : playable s.rules (plOf s) (s.now : Nat) (e :: l) = (e :: l).all (Vbwsap.takes s (e :: l)) := by
    unfold playable tks
    rw [List.all_map, Bool.eq_iff_iff, List.all_eq_true, List.all_eq_true]
    have key : ∀ x ∈ e :: l, ((fun y => decide (y ≤ ((s.now : Nat) : Int))) ∘ tkSince s.rules (plOf s) (rsum (plOf s) (e :: l) : Nat)) x = Vbwsap.takes s (e :: l) x := fun x hx => by
      have hx' := W.ew x (hcs x hx)
      rw [takes_spec hlen W.side.1 hx'.1 W.step.1 hx'.2.2.1]
      rfl
    exact ⟨fun q x hx => by rw [← key x hx]; exact q x hx, fun q x hx => by rw [key x hx]; exact q x hx⟩
  rw [parts_spec hln, List.map_map, List.filter_map]
  unfold pairsFor pairsIn
  rw [ways_spec _ (fun x hx => (W.ew x (hls x hx)).1), hpl]
  have hlegal : ∀ m ∈ someOf l, (((fun x => Vbwsap.legal s x.1 x.2) ∘ ((fun p => (e :: p.1, p.2)) ∘ fun m => (m, outOf l m))) m) = (decide (((membersOf m).length : Int) = ((s.rules.side : Nat) : Int) - ((e.who.length : Nat) : Int)) && (e :: l).all (Vbwsap.takes s (e :: l))) := by
    intro m hm
    show Vbwsap.legal s (e :: m) (outOf l m) = _
    unfold Vbwsap.legal
    have hp : ((e :: m) ++ outOf l m).Perm (e :: l) := by
      rw [List.cons_append]
      exact (part_perm hm hln).cons e
    have hmp := (members_perm (part_perm hm hln)).length_eq
    rw [membersOf_append, List.length_append] at hmp
    rw [membersOf_cons, List.length_append] at hlen
    have ha : ((e :: m) ++ outOf l m).all (Vbwsap.takes s ((e :: m) ++ outOf l m)) = (e :: l).all (Vbwsap.takes s (e :: l)) := by
      rw [all_perm hp]
      congr 1
      funext x
      exact takes_perm hp x
    rw [ha, membersOf_cons, List.length_append]
    cases (e :: l).all (Vbwsap.takes s (e :: l)) with
    | false => simp
    | true =>
      rw [Bool.and_true, Bool.and_true, Bool.eq_iff_iff]
      simp only [Bool.and_eq_true, beq_iff_eq, decide_eq_true_eq]
      omega
  rw [List.filter_congr hlegal]
  cases (e :: l).all (Vbwsap.takes s (e :: l)) with
  | false =>
    rw [if_neg Bool.false_ne_true]
    have : (someOf l).filter (fun m => (decide (((membersOf m).length : Int) = ((s.rules.side : Nat) : Int) - ((e.who.length : Nat) : Int)) && false)) = [] := by
      rw [List.filter_eq_nil_iff]
      intro m _
      simp
    rw [this]
    rfl
  | true =>
    rw [if_pos rfl]
    simp only [Bool.and_true]
    rfl
/-! ### the better of two, the best of all -/
theorem wait_spec {s : State} : ∀ {l : List Ent}, (∀ e ∈ l, e.since ≤ s.now) → wait (s.now : Nat) l = ((Vbwsap.waited s l : Nat) : Int)
  | [], _ => rfl
  | e :: r, h => by
    have ih := wait_spec (s := s) (l := r) (fun x hx => h x (List.mem_cons_of_mem _ hx))
    have he := h e List.mem_cons_self
    have e1 : wait (s.now : Nat) (e :: r) = (((s.now : Nat) : Int) - ((e.since : Nat) : Int)) + wait (s.now : Nat) r := by
      unfold wait
      rw [List.map_cons, List.sum_cons]
    have e2 : Vbwsap.waited s (e :: r) = (s.now - e.since) + Vbwsap.waited s r := rfl
    rw [e1, e2, ih]
    omega
theorem bet_spec {s : State} {x y : Sd} (hx : ∀ e ∈ x.1 ++ x.2, e.since ≤ s.now) (hy : ∀ e ∈ y.1 ++ y.2, e.since ≤ s.now) : betS (plOf s) (s.now : Nat) x y = Vbwsap.better s x y := by
  unfold betS betI Vbwsap.better Vbwsap.uneven
  have u : ∀ a b : List Ent, unev (plOf s) a b = ((gap (Vbwsap.sumRating s (membersOf a)) (Vbwsap.sumRating s (membersOf b)) : Nat) : Int) := fun a b => by
    unfold unev
    rw [gap_abs, rsum_spec, rsum_spec]
  rw [u, u, wait_spec hx, wait_spec hy]
  generalize gap (Vbwsap.sumRating s (membersOf x.1)) (Vbwsap.sumRating s (membersOf x.2)) = a
  generalize gap (Vbwsap.sumRating s (membersOf y.1)) (Vbwsap.sumRating s (membersOf y.2)) = b
  generalize Vbwsap.waited s (x.1 ++ x.2) = p
  generalize Vbwsap.waited s (y.1 ++ y.2) = q
  rw [Bool.eq_iff_iff]
  split <;> simp only [Bool.or_eq_true, Bool.and_eq_true, decide_eq_true_eq, beq_iff_eq] <;> omega
theorem better_iff {s : State} {x y : Sd} : Vbwsap.better s x y = true ↔ (Vbwsap.uneven s x.1 x.2 < Vbwsap.uneven s y.1 y.2 ∨ (Vbwsap.uneven s x.1 x.2 = Vbwsap.uneven s y.1 y.2 ∧ Vbwsap.waited s (y.1 ++ y.2) < Vbwsap.waited s (x.1 ++ x.2))) := by
  unfold Vbwsap.better
  simp only [Bool.or_eq_true, Bool.and_eq_true, decide_eq_true_eq, beq_iff_eq]
theorem better_trans {s : State} {x y z : Sd} (h1 : Vbwsap.better s x y = true) (h2 : Vbwsap.better s y z = true) : Vbwsap.better s x z = true := by
  rw [better_iff] at *
  omega
theorem better_neg {s : State} {x y z : Sd} (h1 : ¬ Vbwsap.better s x y = true) (h2 : ¬ Vbwsap.better s y z = true) : ¬ Vbwsap.better s x z = true := by
  rw [better_iff] at *
  omega
def pickS (s : State) (b : Option Sd) (x : Sd) : Option Sd := match b with
  | none => some x
  | some y => if Vbwsap.better s x y = true then some x else some y
theorem fold_best {s : State} : ∀ (xs : List Sd) (b : Sd), xs.foldl (pickS s) (some b) = match Vbwsap.bestOf s xs with
    | none => some b
    | some y => if Vbwsap.better s y b = true then some y else some b
  | [], b => rfl
  | x :: r, b => by
    rw [List.foldl_cons]
    have e0 : pickS s (some b) x = some (if Vbwsap.better s x b = true then x else b) := by
      show (if Vbwsap.better s x b = true then some x else some b) = _
      by_cases h : Vbwsap.better s x b = true
      · rw [if_pos h, if_pos h]
      · rw [if_neg h, if_neg h]
    rw [e0, fold_best r]
    rw [Vbwsap.bestOf]
    cases Vbwsap.bestOf s r with
    | none =>
      simp only
      split <;> rfl
    | some y =>
      simp only
      by_cases h1 : Vbwsap.better s y x = true
      · rw [if_pos h1]
        simp only
        by_cases h2 : Vbwsap.better s x b = true
        · rw [if_pos h2, if_pos h1, if_pos (better_trans h1 h2)]
        · rw [if_neg h2]
      · rw [if_neg h1]
        simp only
        by_cases h2 : Vbwsap.better s x b = true
        · rw [if_pos h2, if_neg h1, if_pos h2]
        · rw [if_neg h2, if_neg h2, if_neg (better_neg h1 h2)]
theorem fold_best0 {s : State} (xs : List Sd) : xs.foldl (pickS s) none = Vbwsap.bestOf s xs := by
  cases xs with
  | nil => rfl
  | cons x r =>
    rw [List.foldl_cons]
    show r.foldl (pickS s) (some x) = _
    rw [fold_best, Vbwsap.bestOf]
    cases Vbwsap.bestOf s r <;> rfl
theorem fold_congr {α β : Type} {f g : β → α → β} {Pb : β → Prop} : ∀ {l : List α} {b : β}, Pb b → (∀ b x, Pb b → x ∈ l → f b x = g b x ∧ Pb (f b x)) → l.foldl f b = l.foldl g b
  | [], _, _, _ => rfl
  | x :: r, b, hb, h => by
    rw [List.foldl_cons, List.foldl_cons]
    obtain ⟨h1, h2⟩ := h b x hb List.mem_cons_self
    rw [← h1]
    exact fold_congr h2 fun b' y hb' hy => h b' y hb' (List.mem_cons_of_mem _ hy)
theorem sides_in {s : State} {e : Ent} {O : List Ent} {x : Sd} (h : x ∈ Vbwsap.sidesWith s e O) : ∀ y ∈ x.1 ++ x.2, y = e ∨ y ∈ O := by
  unfold Vbwsap.sidesWith at h
  obtain ⟨l, hl, hx⟩ := List.mem_flatMap.mp h
  obtain ⟨hl1, _⟩ := List.mem_filter.mp hl
  obtain ⟨hx1, _⟩ := List.mem_filter.mp hx
  obtain ⟨p, hp, rfl⟩ := List.mem_map.mp hx1
  have hparts : ∀ {l : List Ent} {p : Sd}, p ∈ partsOf l → ∀ y ∈ p.1 ++ p.2, y ∈ l := by
    intro l
    induction l with
    | nil =>
      intro p hp
      have : p = ([], []) := by simpa [partsOf] using hp
      subst this
      simp
    | cons a r ih =>
      intro p hp y hy
      rw [partsOf] at hp
      rcases List.mem_append.mp hp with hp | hp
      · obtain ⟨q, hq, rfl⟩ := List.mem_map.mp hp
        simp only [List.cons_append, List.mem_cons] at hy
        rcases hy with z | z
        · rw [z]; exact List.mem_cons_self
        · exact List.mem_cons_of_mem _ (ih hq y z)
      · obtain ⟨q, hq, rfl⟩ := List.mem_map.mp hp
        simp only [List.mem_append, List.mem_cons] at hy
        rcases hy with z | z | z
        · exact List.mem_cons_of_mem _ (ih hq y (List.mem_append_left _ z))
        · rw [z]; exact List.mem_cons_self
        · exact List.mem_cons_of_mem _ (ih hq y (List.mem_append_right _ z))
  intro y hy
  simp only [List.cons_append, List.mem_cons] at hy
  rcases hy with z | z
  · exact .inl z
  · exact .inr (someOf_sub hl1 y (hparts hp y z))
theorem best_spec {s : State} (W : Wf s) {e : Ent} (he : e ∈ s.entries) : bestOf s e = Vbwsap.bestFor s e := by
  unfold bestOf bestP Vbwsap.bestFor
  rw [pairs_spec W he]
  generalize hL : Vbwsap.sidesWith s e (s.entries.filter fun x => x.num != e.num) = L
  have hin : ∀ x ∈ L, ∀ y ∈ x.1 ++ x.2, y.since ≤ s.now := fun x hx y hy => by
    rw [← hL] at hx
    rcases sides_in hx y hy with z | z
    · rw [z]; exact (W.ew e he).2.2.1
    · exact (W.ew y (List.mem_filter.mp z).1).2.2.1
  rw [← fold_best0]
  refine fold_congr (Pb := fun b => ∀ z, b = some z → ∀ y ∈ z.1 ++ z.2, y.since ≤ s.now) (fun z h => by cases h) fun b x hb hx => ?_
  cases b with
  | none => exact ⟨rfl, fun z hz => by cases hz; exact hin x hx⟩
  | some y =>
    have hy := hb y rfl
    refine ⟨?_, fun z hz => ?_⟩
    · unfold pick pickS
      simp only
      rw [bet_spec (hin x hx) hy]
    · unfold pick at hz
      simp only at hz
      split at hz
      · cases hz; exact hin x hx
      · cases hz; exact hy
theorem findSome_congr {α β : Type} {f g : α → Option β} : ∀ {l : List α}, (∀ x ∈ l, f x = g x) → l.findSome? f = l.findSome? g
  | [], _ => rfl
  | x :: r, h => by
    rw [List.findSome?_cons, List.findSome?_cons, h x List.mem_cons_self, findSome_congr fun y hy => h y (List.mem_cons_of_mem _ hy)]
theorem turn_spec {s : State} (W : Wf s) : turnOf s = Vbwsap.firstMatch s := findSome_congr fun e he => best_spec W he
end EM

namespace EM
open Vbwsap (Rules Player Match sumOf membersOf gap State someOf partsOf)
theorem bestOf_mem {s : State} : ∀ {xs : List Sd} {x : Sd}, Vbwsap.bestOf s xs = some x → x ∈ xs
  | [], x, h => by simp [Vbwsap.bestOf] at h
  | y :: r, x, h => by
    rw [Vbwsap.bestOf] at h
    cases q : Vbwsap.bestOf s r with
    | none =>
      rw [q] at h
      simp only at h
      cases h
      exact List.mem_cons_self
    | some z =>
      rw [q] at h
      simp only at h
      split at h
      · cases h
        exact List.mem_cons_of_mem _ (bestOf_mem q)
      · cases h
        exact List.mem_cons_self
theorem nodup_le {α : Type} [BEq α] [LawfulBEq α] : ∀ {l m : List α}, l.Nodup → (∀ x ∈ l, x ∈ m) → l.length ≤ m.length
  | [], m, _, _ => Nat.zero_le _
  | x :: r, m, nd, h => by
    rw [List.nodup_cons] at nd
    have hx := h x List.mem_cons_self
    have ih := nodup_le (l := r) (m := m.erase x) nd.2 (fun y hy => by
      have hne : y ≠ x := fun z => nd.1 (by rw [← z]; exact hy)
      exact (List.mem_erase_of_ne hne).mpr (h y (List.mem_cons_of_mem _ hy)))
    rw [List.length_erase_of_mem hx] at ih
    have : 0 < m.length := List.length_pos_of_mem hx
    simp
    omega
theorem flatMap_ge {α β : Type} {f : α → List β} : ∀ {l : List α}, (∀ x ∈ l, 1 ≤ (f x).length) → l.length ≤ (l.flatMap f).length
  | [], _ => by simp
  | x :: r, h => by
    have ih := flatMap_ge (f := f) (l := r) (fun y hy => h y (List.mem_cons_of_mem _ hy))
    have h1 := h x List.mem_cons_self
    rw [List.flatMap_cons, List.length_append, List.length_cons]
    omega
theorem Wf.few {s : State} (W : Wf s) : s.matches_.length ≤ 24 := by
  have h1 : (s.entries.flatMap (fun e => e.who) ++ s.matches_.flatMap (fun m => m.a ++ m.b)).length ≤ (s.players.map fun p => p.num).length := nodup_le W.mem fun n hn => by
    obtain ⟨p, hp, rfl⟩ := W.inp n hn
    exact List.mem_map.mpr ⟨p, hp, rfl⟩
  have h2 := flatMap_ge (f := fun (m : Match) => m.a ++ m.b) (l := s.matches_) (fun m hm => by
    have := (W.ml m hm).1
    have := W.side.1
    rw [List.length_append]
    omega)
  rw [List.length_append, List.length_map] at h1
  have := W.pl
  omega
/-- what is known of a match that may be made -/
structure SdOk (s : State) (x : Sd) : Prop where
  sub : ∀ e ∈ x.1 ++ x.2, e ∈ s.entries
  nd : ((x.1 ++ x.2).map fun e => e.num).Nodup
  l1 : (membersOf x.1).length = s.rules.side
  l2 : (membersOf x.2).length = s.rules.side
theorem bestFor_ok {s : State} (W : Wf s) {e : Ent} (he : e ∈ s.entries) {x : Sd} (h : Vbwsap.bestFor s e = some x) : SdOk s x := by
  have hm := bestOf_mem h
  have hin := sides_in hm
  unfold Vbwsap.sidesWith at hm
  obtain ⟨l, hl, hx⟩ := List.mem_flatMap.mp hm
  obtain ⟨hl1, _⟩ := List.mem_filter.mp hl
  obtain ⟨hx1, hlegal⟩ := List.mem_filter.mp hx
  obtain ⟨p, hp, rfl⟩ := List.mem_map.mp hx1
  unfold Vbwsap.legal at hlegal
  simp only [Bool.and_eq_true, beq_iff_eq] at hlegal
  have hOn : ((s.entries.filter fun x => x.num != e.num).map fun e => e.num).Nodup := nodup_sub List.filter_sublist W.en
  have hln : (l.map fun e => e.num).Nodup := nodup_sub (someOf_sublist hl1) hOn
  rw [parts_spec hln] at hp
  obtain ⟨m, hm', rfl⟩ := List.mem_map.mp hp
  refine ⟨fun y hy => ?_, ?_, hlegal.1, hlegal.2.1⟩
  · rcases hin y hy with z | z
    · rw [z]; exact he
    · exact (List.mem_filter.mp z).1
  · have hperm := (part_perm hm' hln).map fun e => e.num
    show ((e :: m ++ outOf l m).map fun e => e.num).Nodup
    rw [List.cons_append, List.map_cons, List.nodup_cons]
    refine ⟨fun z => ?_, hperm.nodup_iff.mpr hln⟩
    have z2 := hperm.mem_iff.mp z
    obtain ⟨y, hy, hye⟩ := List.mem_map.mp z2
    have := (List.mem_filter.mp (someOf_sub hl1 y hy)).2
    simp [hye] at this
theorem firstMatch_ok {s : State} (W : Wf s) {x : Sd} (h : Vbwsap.firstMatch s = some x) : SdOk s x := by
  unfold Vbwsap.firstMatch at h
  obtain ⟨e, he, hb⟩ := List.exists_of_findSome?_eq_some h
  exact bestFor_ok W he hb
theorem nodup_of_map {α β : Type} {f : α → β} {l : List α} (h : (l.map f).Nodup) : l.Nodup := by
  induction l with
  | nil => simp
  | cons x r ih =>
    rw [List.map_cons, List.nodup_cons] at h
    rw [List.nodup_cons]
    exact ⟨fun z => h.1 (List.mem_map.mpr ⟨x, z, rfl⟩), ih h.2⟩
theorem inj_num {l : List Ent} (nd : (l.map fun e => e.num).Nodup) {a b : Ent} (ha : a ∈ l) (hb : b ∈ l) (h : a.num = b.num) : a = b := by
  induction l with
  | nil => simp at ha
  | cons x r ih =>
    rw [List.map_cons, List.nodup_cons] at nd
    rcases List.mem_cons.mp ha with z1 | z1 <;> rcases List.mem_cons.mp hb with z2 | z2
    · rw [z1, z2]
    · exact absurd (List.mem_map.mpr ⟨b, z2, by rw [← h, z1]⟩) nd.1
    · exact absurd (List.mem_map.mpr ⟨a, z1, by rw [h, z2]⟩) nd.1
    · exact ih nd.2 z1 z2
/-- some go, the rest stays -/
def stay (l g : List Ent) : List Ent := l.filter fun e => !g.any fun x => x.num == e.num
theorem stay_perm {l g : List Ent} (nd : (l.map fun e => e.num).Nodup) (sub : ∀ e ∈ g, e ∈ l) (ng : (g.map fun e => e.num).Nodup) : l.Perm (stay l g ++ g) := by
  have h1 := (List.filter_append_perm (fun e => !g.any fun x => x.num == e.num) l).symm
  refine h1.trans (List.Perm.append_left _ ?_)
  rw [List.perm_ext_iff_of_nodup (List.Nodup.sublist List.filter_sublist (nodup_of_map nd)) (nodup_of_map ng)]
  intro a
  rw [List.mem_filter]
  simp only [Bool.not_not, List.any_eq_true, beq_iff_eq]
  constructor
  · rintro ⟨ha, x, hx, hxa⟩
    rw [← inj_num nd (sub x hx) ha hxa]
    exact hx
  · intro ha
    exact ⟨sub a ha, a, ha, rfl⟩
/-- the state behind a match -/
def behind (s : State) (x : Sd) : State := { Vbwsap.without s (x.1 ++ x.2) with matches_ := s.matches_ ++ [⟨s.next, membersOf x.1, membersOf x.2⟩], next := s.next + 1 }
theorem Wf.behind {s : State} (W : Wf s) {x : Sd} (h : SdOk s x) : Wf (behind s x) := by
  have hp := stay_perm W.en h.sub h.nd
  have hmem : ((stay s.entries (x.1 ++ x.2)).flatMap (fun e => e.who) ++ (s.matches_ ++ [(⟨s.next, membersOf x.1, membersOf x.2⟩ : Match)]).flatMap (fun m => m.a ++ m.b)).Perm (s.entries.flatMap (fun e => e.who) ++ s.matches_.flatMap (fun m => m.a ++ m.b)) := by
    have h1 := hp.flatMap_right (fun e => e.who)
    rw [List.flatMap_append] at h1
    rw [List.flatMap_append]
    have e1 : ([(⟨s.next, membersOf x.1, membersOf x.2⟩ : Match)]).flatMap (fun m => m.a ++ m.b) = (x.1 ++ x.2).flatMap (fun e => e.who) := by
      simp [membersOf]
    rw [e1]
    refine List.Perm.trans ?_ (h1.symm.append_right _)
    rw [List.append_assoc]
    exact List.Perm.append_left _ List.perm_append_comm
  refine ⟨W.side, W.base, W.step, W.factor, W.range, W.fine, W.pn, W.pl, W.pr, ?_, ?_, fun e he => ?_, ?_, fun m hm => ?_, hmem.nodup_iff.mpr W.mem, fun n hn => W.inp n (hmem.mem_iff.mp hn), W.now⟩
  · exact nodup_sub List.filter_sublist W.en
  · exact Nat.le_trans (List.length_filter_le _ _) W.el
  · have := W.ew e (List.mem_filter.mp he).1
    exact ⟨this.1, this.2.1, this.2.2.1, Nat.lt_succ_of_lt this.2.2.2⟩
  · show ((s.matches_ ++ [(⟨s.next, membersOf x.1, membersOf x.2⟩ : Match)]).map fun m => m.num).Nodup
    rw [List.map_append, List.nodup_append]
    refine ⟨W.mn, by simp, fun a ha b hb => ?_⟩
    obtain ⟨m, hm, rfl⟩ := List.mem_map.mp ha
    have hb' : b = s.next := by simpa using hb
    have := (W.ml m hm).2.2
    omega
  · rcases List.mem_append.mp hm with z | z
    · have := W.ml m z
      exact ⟨this.1, this.2.1, Nat.lt_succ_of_lt this.2.2⟩
    · have hz : m = ⟨s.next, membersOf x.1, membersOf x.2⟩ := by simpa using z
      subst hz
      exact ⟨h.l1, h.l2, Nat.lt_succ_self _⟩
theorem once_spec (s : State) : Vbwsap.matchOnce s = (Vbwsap.firstMatch s).map fun x => (behind s x, ⟨s.next, membersOf x.1, membersOf x.2⟩) := rfl
theorem behind_len {s : State} (W : Wf s) {x : Sd} (h : SdOk s x) : (behind s x).entries.length < s.entries.length := by
  have hp := (stay_perm W.en h.sub h.nd).length_eq
  rw [List.length_append] at hp
  have hpos : 0 < (x.1 ++ x.2).length := by
    have h1 := h.l1
    have := W.side.1
    cases hx : x.1 with
    | nil => rw [hx] at h1; simp [membersOf] at h1; omega
    | cons a r => simp
  show (stay s.entries (x.1 ++ x.2)).length < _
  omega
end EM

namespace EM
open Vbwsap (Rules Player Match sumOf membersOf gap State someOf partsOf)
def maxL : List Int → Int
  | [] => 0
  | [x] => x
  | x :: y :: r => max x (maxL (y :: r))
theorem maxL_is : ∀ {ns : List Int}, ns ≠ [] → IsMax (maxL ns) ns
  | [], h => absurd rfl h
  | [x], _ => ⟨List.mem_cons_self, fun y hy => by rw [List.mem_singleton.mp hy]; exact Int.le_refl _⟩
  | x :: y :: r, _ => by
    obtain ⟨h1, h2⟩ := maxL_is (ns := y :: r) (by simp)
    have e : maxL (x :: y :: r) = max x (maxL (y :: r)) := rfl
    rw [e]
    refine ⟨?_, fun z hz => ?_⟩
    · by_cases h : x ≤ maxL (y :: r)
      · rw [Int.max_eq_right h]
        exact List.mem_cons_of_mem _ h1
      · rw [Int.max_eq_left (by omega)]
        exact List.mem_cons_self
    · rcases List.mem_cons.mp hz with q | q
      · rw [q]; exact Int.le_max_left _ _
      · exact Int.le_trans (h2 z q) (Int.le_max_right _ _)
/-- the tick from which a group may play, by the program's reckoning -/
def startOf (s : State) (g : List Ent) : Int := maxL (tks s.rules (plOf s) g)
def npStep (s : State) (b : Option Int) (g : List Ent) : Option Int := match b with
  | none => if 0 < (ways g (s.rules.side : Nat)).length then some (startOf s g) else none
  | some i => if startOf s g < i then (if 0 < (ways g (s.rules.side : Nat)).length then some (startOf s g) else some i) else some i
def npOf (s : State) : Option Int := (ways s.entries (2 * ((s.rules.side : Nat) : Int))).foldl (npStep s) none
theorem np_keep {s : State} : ∀ {gs : List (List Ent)} {b : Option Int} {m : Int}, (∃ i, b = some i ∧ i ≤ m) → ∃ i, gs.foldl (npStep s) b = some i ∧ i ≤ m
  | [], b, m, h => h
  | g :: r, b, m, h => by
    rw [List.foldl_cons]
    apply np_keep
    obtain ⟨i, rfl, hi⟩ := h
    show ∃ j, (if startOf s g < i then (if 0 < (ways g (s.rules.side : Nat)).length then some (startOf s g) else some i) else some i) = some j ∧ j ≤ m
    split
    · split
      · exact ⟨_, rfl, by omega⟩
      · exact ⟨_, rfl, hi⟩
    · exact ⟨_, rfl, hi⟩
theorem np_le {s : State} : ∀ {gs : List (List Ent)} {b : Option Int} {g : List Ent}, g ∈ gs → 0 < (ways g (s.rules.side : Nat)).length → ∃ i, gs.foldl (npStep s) b = some i ∧ i ≤ startOf s g
  | [], b, g, h, _ => by simp at h
  | x :: r, b, g, h, hw => by
    rw [List.foldl_cons]
    rcases List.mem_cons.mp h with z | z
    · subst z
      apply np_keep
      cases b with
      | none =>
        refine ⟨startOf s g, ?_, Int.le_refl _⟩
        show (if 0 < (ways g (s.rules.side : Nat)).length then some (startOf s g) else none) = _
        rw [if_pos hw]
      | some i =>
        show ∃ j, (if startOf s g < i then (if 0 < (ways g (s.rules.side : Nat)).length then some (startOf s g) else some i) else some i) = some j ∧ j ≤ _
        split
        · exact ⟨_, rfl, Int.le_refl _⟩
        · exact ⟨_, rfl, by omega⟩
    · exact np_le z hw
theorem filter_someOf {α : Type} (p : α → Bool) : ∀ l : List α, l.filter p ∈ someOf l
  | [] => by simp [someOf]
  | x :: r => by
    rw [someOf, List.filter_cons]
    have ih := filter_someOf p r
    split
    · exact List.mem_append_left _ (List.mem_map.mpr ⟨_, ih, rfl⟩)
    · exact List.mem_append_right _ ih
theorem firstMatch_legal {s : State} {x : Sd} (h : Vbwsap.firstMatch s = some x) : Vbwsap.legal s x.1 x.2 = true := by
  unfold Vbwsap.firstMatch at h
  obtain ⟨e, he, hb⟩ := List.exists_of_findSome?_eq_some h
  have hm := bestOf_mem hb
  unfold Vbwsap.sidesWith at hm
  obtain ⟨l, hl, hx⟩ := List.mem_flatMap.mp hm
  exact (List.mem_filter.mp hx).2
theorem np_spec {s : State} (W : Wf s) {x : Sd} (h : Vbwsap.firstMatch s = some x) : ∃ i, npOf s = some i ∧ i ≤ ((s.now : Nat) : Int) := by
  have ok := firstMatch_ok W h
  have hleg := firstMatch_legal h
  unfold Vbwsap.legal at hleg
  simp only [Bool.and_eq_true, beq_iff_eq] at hleg
  -- the group, in the order in which they wait
  let inX : Ent → Bool := fun e => (x.1 ++ x.2).any fun y => y.num == e.num
  have hgp : (s.entries.filter inX).Perm (x.1 ++ x.2) := by
    rw [List.perm_ext_iff_of_nodup (List.Nodup.sublist List.filter_sublist (nodup_of_map W.en)) (nodup_of_map ok.nd)]
    intro a
    rw [List.mem_filter]
    simp only [inX, List.any_eq_true, beq_iff_eq]
    constructor
    · rintro ⟨ha, y, hy, hya⟩
      rw [← inj_num W.en (ok.sub y hy) ha hya]
      exact hy
    · intro ha
      exact ⟨ok.sub a ha, a, ha, rfl⟩
  generalize hG : s.entries.filter inX = G at hgp
  have hGs : ∀ e ∈ G, e ∈ s.entries := fun e he => by
    rw [← hG] at he
    exact (List.mem_filter.mp he).1
  have hGm : (membersOf G).length = 2 * s.rules.side := by
    rw [(members_perm hgp).length_eq, membersOf_append, List.length_append]
    omega
  have hGw : G ∈ ways s.entries (2 * ((s.rules.side : Nat) : Int)) := by
    rw [ways_spec _ (fun e he => (W.ew e he).1), List.mem_filter]
    refine ⟨by rw [← hG]; exact filter_someOf _ _, ?_⟩
    rw [decide_eq_true_eq, hGm]
    omega
  have hGn : (G.map fun e => e.num).Nodup := by
    rw [← hG]
    exact nodup_sub List.filter_sublist W.en
  have hside : 0 < (ways G (s.rules.side : Nat)).length := by
    have hmem : G.filter (fun e => x.1.any fun y => y.num == e.num) ∈ ways G (s.rules.side : Nat) := by
      rw [ways_spec _ (fun e he => (W.ew e (hGs e he)).1), List.mem_filter]
      refine ⟨filter_someOf _ _, ?_⟩
      rw [decide_eq_true_eq]
      have hp1 : (G.filter fun e => x.1.any fun y => y.num == e.num).Perm x.1 := by
        have hn1 : x.1.Nodup := by
          have := nodup_of_map ok.nd
          rw [List.nodup_append] at this
          exact this.1
        rw [List.perm_ext_iff_of_nodup (List.Nodup.sublist List.filter_sublist (nodup_of_map hGn)) hn1]
        intro a
        rw [List.mem_filter]
        simp only [List.any_eq_true, beq_iff_eq]
        constructor
        · rintro ⟨ha, y, hy, hya⟩
          rw [← inj_num W.en (ok.sub y (List.mem_append_left _ hy)) (hGs a ha) hya]
          exact hy
        · intro ha
          exact ⟨hgp.mem_iff.mpr (List.mem_append_left _ ha), a, ha, rfl⟩
      rw [(members_perm hp1).length_eq, ok.l1]
    exact List.length_pos_of_mem hmem
  obtain ⟨i, h1, h2⟩ := np_le (s := s) (b := none) hGw hside
  refine ⟨i, h1, Int.le_trans h2 ?_⟩
  have hne : tks s.rules (plOf s) G ≠ [] := by
    intro z
    have hz : G = [] := by
      unfold tks at z
      exact List.map_eq_nil_iff.mp z
    rw [hz] at hGm
    simp [membersOf] at hGm
    have := W.side.1
    omega
  have hmax := maxL_is hne
  have hall : (x.1 ++ x.2).all (Vbwsap.takes s (x.1 ++ x.2)) = true := hleg.2.2
  rw [← all_perm hgp] at hall
  obtain ⟨e, he, hee⟩ := List.mem_map.mp hmax.1
  have ht := List.all_eq_true.mp hall e he
  rw [← takes_perm hgp] at ht
  have hw := W.ew e (hGs e he)
  rw [takes_spec hGm W.side.1 hw.1 W.step.1 hw.2.2.1, decide_eq_true_eq] at ht
  unfold startOf
  rw [← hee]
  exact ht
/-! ### all matches of a tick -/
theorem all_fuel : ∀ (f : Nat) {s : State}, Wf s → s.entries.length + 1 ≤ f → Vbwsap.matchAll f s = Vbwsap.matchAll (s.entries.length + 1) s
  | 0, s, _, h => by omega
  | f + 1, s, W, h => by
    rw [Vbwsap.matchAll, Vbwsap.matchAll, once_spec]
    cases hq : Vbwsap.firstMatch s with
    | none => rfl
    | some x =>
      have ok := firstMatch_ok W hq
      have hlt := behind_len W ok
      have h1 := all_fuel f (W.behind ok) (by omega)
      have h2 := all_fuel s.entries.length (W.behind ok) (by omega)
      simp only [Option.map]
      rw [h1, h2]
  termination_by f => f
  decreasing_by
    all_goals omega
theorem all_none {s : State} (h : Vbwsap.firstMatch s = none) (f : Nat) : Vbwsap.matchAll (f + 1) s = (s, []) := by
  rw [Vbwsap.matchAll, once_spec, h]
  rfl
theorem all_some {s : State} (W : Wf s) {x : Sd} (h : Vbwsap.firstMatch s = some x) : Vbwsap.matchAll (s.entries.length + 1) s = ((Vbwsap.matchAll ((behind s x).entries.length + 1) (behind s x)).1, ⟨s.next, membersOf x.1, membersOf x.2⟩ :: (Vbwsap.matchAll ((behind s x).entries.length + 1) (behind s x)).2) := by
  have ok := firstMatch_ok W h
  have hlt := behind_len W ok
  rw [Vbwsap.matchAll, once_spec, h]
  simp only [Option.map]
  rw [all_fuel s.entries.length (W.behind ok) (by omega)]
end EM

namespace EM
open PySem PySem.Spec PyProof.Rows L2 Evl
open Vbwsap (Rules Player Match sumOf membersOf gap State)
/-! ### dicts by number -/
def kvOf {α : Type} (num : α → Nat) (adr : Nat → Addr) (l : List α) : List (Key × V) := l.map fun x => (Sum.inl ((num x : Nat) : Int), V.ref (adr (num x)))
theorem valV_kv {α : Type} {num : α → Nat} {adr : Nat → Addr} {z : Int} : ∀ {l : List α}, valV (kvOf num adr l) (Sum.inl z) = (l.find? fun x => ((num x : Nat) : Int) == z).map fun x => V.ref (adr (num x))
  | [] => rfl
  | x :: r => by
    have ih := valV_kv (num := num) (adr := adr) (z := z) (l := r)
    show valV ((Sum.inl ((num x : Nat) : Int), V.ref (adr (num x))) :: kvOf num adr r) (Sum.inl z) = _
    by_cases h : ((num x : Nat) : Int) = z
    · rw [valV_pos (by rw [h]), List.find?_cons, beq_iff_eq.mpr h]
      rfl
    · rw [valV_neg (fun q => h (Sum.inl.inj q)), ih, List.find?_cons, beq_false_of_ne h]
theorem dropK_kv {α : Type} {num : α → Nat} {adr : Nat → Addr} {z : Int} {l : List α} : dropK (kvOf num adr l) (Sum.inl z : Key) = kvOf num adr (l.filter fun x => ((num x : Nat) : Int) != z) := by
  unfold dropK kvOf
  rw [List.filter_map]
  congr 1
  apply List.filter_congr
  intro x _
  simp only [Function.comp]
  rw [Bool.eq_iff_iff]
  simp only [decide_eq_true_eq, bne_iff_ne, ne_eq]
  exact ⟨fun h z => h (by rw [z]), fun h z => h (Sum.inl.inj z)⟩
theorem putK_kv {α : Type} {num : α → Nat} {adr : Nat → Addr} {y : α} {l : List α} (h : ∀ x ∈ l, num x ≠ num y) : putK (kvOf num adr l) (Sum.inl ((num y : Nat) : Int) : Key) (.ref (adr (num y))) = kvOf num adr (l ++ [y]) := by
  unfold putK
  have hno : ((kvOf num adr l).any fun kv => decide (kv.1 = (Sum.inl ((num y : Nat) : Int) : Key))) = false := by
    rw [List.any_eq_false]
    intro kv hkv
    obtain ⟨x, hx, rfl⟩ := List.mem_map.mp hkv
    simp only [decide_eq_true_eq]
    intro z
    have := Sum.inl.inj z
    exact h x hx (by omega)
  rw [hno, if_neg Bool.false_ne_true]
  unfold kvOf
  rw [List.map_append]
  rfl
theorem kvOf_congr {α : Type} {num : α → Nat} {adr adr' : Nat → Addr} {l : List α} (h : ∀ x ∈ l, adr' (num x) = adr (num x)) : kvOf num adr' l = kvOf num adr l := by
  unfold kvOf
  apply List.map_congr_left
  intro x hx
  rw [h x hx]
theorem pKv_is (adr : Nat → Addr) (l : List Player) : pKv adr l = kvOf (fun p => p.num) adr l := rfl
theorem eKv_is (adr : Nat → Addr) (l : List Ent) : eKv adr l = kvOf (fun p => p.num) adr l := rfl
theorem mKv_is (adr : Nat → Addr) (l : List Match) : mKv adr l = kvOf (fun p => p.num) adr l := rfl
/-! ### what stands off the world's own objects -/
def S3 (γ : Gh) (b : Addr) : Prop := b = γ.w ∨ b = γ.pd ∨ b = γ.ed ∨ b = γ.md
def okO : HO → Prop
  | .ins _ _ fs => fs.length ≠ 8
  | .lst _ => True
  | _ => False
theorem off3 {c : Cs} {H : Hp} {γ : Gh} {s : State} (ws : WS c H γ s) (un : Un3 H γ s) {b : Addr} {o : HO} (h : H b = some o) (ho : okO o) : ¬ S3 γ b := by
  rintro (z | z | z | z)
  · obtain ⟨dx, q⟩ := ws.wo
    rw [z, q] at h
    cases h
    exact ho rfl
  · rw [z, un.pd] at h
    cases h
    exact ho
  · rw [z, un.ed] at h
    cases h
    exact ho
  · rw [z, un.md] at h
    cases h
    exact ho
section
variable {c : Cs} {H H' : Hp} {γ : Gh} {s : State}
theorem RulesAt.off {a : Addr} {r : Rules} (ws : WS c H γ s) (un : Un3 H γ s) (e : ExB (S3 γ) H H') (h : RulesAt c H a r) : RulesAt c H' a r := let ⟨dx, q⟩ := h; ⟨dx, e _ _ q (off3 ws un q (by show 6 ≠ 8; decide))⟩
theorem PlayerAt.off {a : Addr} {p : Player} (ws : WS c H γ s) (un : Un3 H γ s) (e : ExB (S3 γ) H H') (h : PlayerAt c H a p) : PlayerAt c H' a p := let ⟨dx, q⟩ := h; ⟨dx, e _ _ q (off3 ws un q (by show 5 ≠ 8; decide))⟩
theorem EntryAt.off {pa : Nat → Addr} {a : Addr} {n : Ent} (ws : WS c H γ s) (un : Un3 H γ s) (e : ExB (S3 γ) H H') (h : EntryAt c H pa a n) : EntryAt c H' pa a n := let ⟨dx, l, q, q2⟩ := h; ⟨dx, l, e _ _ q (off3 ws un q (by show 3 ≠ 8; decide)), e _ _ q2 (off3 ws un q2 trivial)⟩
theorem MatchAt.off {pa : Nat → Addr} {a : Addr} {n : Match} (ws : WS c H γ s) (un : Un3 H γ s) (e : ExB (S3 γ) H H') (h : MatchAt c H pa a n) : MatchAt c H' pa a n :=
  let ⟨dx, l, l2, q, q2, q3⟩ := h; ⟨dx, l, l2, e _ _ q (off3 ws un q (by show 3 ≠ 8; decide)), e _ _ q2 (off3 ws un q2 trivial), e _ _ q3 (off3 ws un q3 trivial)⟩
theorem Grp.off {row : List Ent} {pl : Nat → Player} (ws : WS c H γ s) (un : Un3 H γ s) (e : ExB (S3 γ) H H') (h : Grp c H γ.pa γ.ea pl row) : Grp c H' γ.pa γ.ea pl row :=
  ⟨fun x hx => (h.en x hx).off ws un e, fun x hx n hn => (h.ps x hx n hn).off ws un e, h.small⟩
end
section
variable {K : PySem.W.Frag} {σ : L2.St} {H : Hp} {D : Ends} {tu tz : TS} {ta tv td ty : TE}
/-- d.pop(k) as a statement -/
theorem s_pop {d : Addr} {kvs : List (Key × V)} {k : Key} {v : V} (h1 : Ev td σ H (.ref d)) (h2 : Ev ty σ H (kV k)) (hd : H d = some (.dK kvs)) (hv : valV kvs k = some v) (kk : ∀ H1, Ex H H1 → D.nx σ (upd H1 d (.dK (dropK kvs k)))) : tDrop (tDPop1 td ty) D σ H :=
  h1 H (Ex.refl H) _ fun H1 e1 => ⟨d, rfl, .inl ⟨kvs, .inl (e1 _ _ hd)⟩, h2 H1 e1 _ fun H2 e2 => ⟨kvs, k, v, (e1.trans e2) _ _ hd, rfl, hv, kk H2 (e1.trans e2)⟩⟩
theorem q_pop {d : Addr} {kvs : List (Key × V)} {k : Key} {v : V} (h1 : Ev td σ H (.ref d)) (h2 : Ev ty σ H (kV k)) (hd : H d = some (.dK kvs)) (hv : valV kvs k = some v) (kk : ∀ H1, Ex H H1 → tz D σ (upd H1 d (.dK (dropK kvs k)))) : tSeq (tDrop (tDPop1 td ty)) tz D σ H :=
  s_pop (D := { D with nx := tz D }) h1 h2 hd hv kk
/-- d[k] = v -/
theorem q_put {d : Addr} {kvs : List (Key × V)} {k : Key} {v : V} (h0 : Ev tv σ H v) (h1 : Ev td σ H (.ref d)) (h2 : Ev ty σ H (kV k)) (hd : H d = some (.dK kvs)) (hz : kvs.length < 100000) (kk : ∀ H1, Ex H H1 → tz D σ (upd H1 d (.dK (putK kvs k v)))) : tSeq (sDPut td ty tv) tz D σ H :=
  h0 H (Ex.refl H) _ fun H1 e1 => h1 H1 e1 _ fun H2 e2 => h2 H2 (e1.trans e2) _ fun H3 e3 => ⟨d, _, rfl, DPut.k (((e1.trans e2).trans e3) _ _ hd) (sz_lt hz), kk H3 ((e1.trans e2).trans e3)⟩
end
section
variable {P : Program} {w : World} {K : PySem.W.Frag} {mg : Str → Option Value} {base : Heap} {c : Cs}
def gMa (γ : Gh) (n : Nat) (a : Addr) : Gh := { γ with ma := fun m => if m = n then a else γ.ma m }
theorem stay_snoc (l g : List Ent) (n : Ent) : (stay l g).filter (fun x => ((x.num : Nat) : Int) != ((n.num : Nat) : Int)) = stay l (g ++ [n]) := by
  unfold stay
  rw [List.filter_filter]
  apply List.filter_congr
  intro x _
  rw [List.any_append, Bool.eq_iff_iff]
  simp only [Bool.and_eq_true, bne_iff_ne, ne_eq, Bool.not_eq_true', List.any_eq_false, Bool.or_eq_false_iff, beq_iff_eq, List.any_cons, List.any_nil, Bool.or_false]
  constructor
  · rintro ⟨h1, h2⟩
    refine ⟨h2, ?_⟩
    apply beq_false_of_ne
    intro z
    exact h1 (by rw [z])
  · rintro ⟨h1, h2⟩
    refine ⟨fun z => ?_, h1⟩
    have := ne_of_beq_false h2
    exact this (by omega)
def sp_begin_match (c : Cs) : Sp := fun vs H Q _ => ∃ (γ : Gh) (s : State) (g : Addr) (x : Sd), vs = [.ref γ.w, .ref g] ∧ WS c H γ s ∧ Wf s ∧ Un3 H γ s ∧ Apart γ ∧ PairAt c H γ.ea (plOf s) (s.now : Nat) g x ∧ SdOk s x ∧
  ∀ gm H', WS c H' (gMa γ s.next gm) (behind s x) → Un3 H' (gMa γ s.next gm) (behind s x) → ExB (S3 γ) H H' → H gm = none → Q (.ref gm) H'
abbrev s_begin_match : Stmt := top 33
abbrev n_begin_match : List Str := ["world", "pairing", "party", "game"]
abbrev p_begin_match : List Str := ["world", "pairing"]
theorem sc_begin_match : FnScope n_begin_match p_begin_match (defScope s_begin_match) := ⟨rfl, rfl, rfl, by decide +kernel, rfl, by decide +kernel, by decide +kernel⟩

theorem ok_begin_match (T : Txt mg) (CC : CT K c) (D : Def K mg "begin_match" s_begin_match p_begin_match) (M_take_number : HasM P w K mg base 1 c.W "take_number" p_World_take_number (sp_take_number c)) (G_members_of : Has P w K mg base 1 "members_of" p_members_of (sp_members_of K c))
    (C_Match : HasC P w K mg base 1 "Match" c.M p_Match___init__ (sp_Match c)) : Has P w K mg base 3 "begin_match" p_begin_match (sp_begin_match c) := by
  refine D.has sc_begin_match (fun vs H Q E h => ?_) (fun f cdv A outer sh H vs Q E hr h => ?_)
  · obtain ⟨γ, s, g, x, rfl, _⟩ := h
    rfl
  · obtain ⟨γ, s, g, x, rfl, ws, W, un, ap, ⟨dg, la, lb, g1, g2, g3⟩, ok, k⟩ := h
    refine ⟨_, (pss_cons (ps_for PassesOwn.never rfl (pi_list (pe_op op_cat (pe_fld (pv 1) rfl) (pe_fld (pv 1) rfl))) (pg_name (i := 2) sc_begin_match.nd rfl (Or.inl rfl))
  (pss_one (ps_expr (pe_dpop1 (pe_fld (pv 0) rfl) (pe_fld (pv 2) rfl) ⟨rfl, rfl, rfl, rfl⟩))))
 (pss_cons (ps_set (i := 3) sc_begin_match.nd rfl (Or.inl rfl) (pe_hasC C_Match (hr.mono (by decide)) rfl (pa_cons (pe_hasM0 (pv 0) M_take_number (hr.mono (by decide))) (pa_cons (pe_has G_members_of (hr.mono (by decide)) rfl (pa_cons (pe_fld (pv 1) rfl) pa_nil)) (pa_cons (pe_has G_members_of (hr.mono (by decide)) rfl (pa_cons (pe_fld (pv 1) rfl) pa_nil)) pa_nil)))))
 (pss_cons (ps_dput (hu_of hr) (pe_fld (pv 0) rfl) (pe_fld (pv 3) rfl) (pv 3) rfl)
 (pss_one (ps_ret (pv 3)))))), ?_⟩
    obtain ⟨dw, h1⟩ := ws.wo
    have hxl : (x.1 ++ x.2).length ≤ 12 := by
      have := (stay_perm W.en ok.sub ok.nd).length_eq
      rw [List.length_append] at this
      have := W.el
      omega
    have hl12 : x.1.length ≤ 12 ∧ x.2.length ≤ 12 := by
      rw [List.length_append] at hxl
      omega
    have nwe : γ.w ≠ γ.ed := ne_of h1 un.ed (by intro z; cases z)
    have hcat : EvL (tOp rCat (tFld K (tVar 1) "first") (tFld K (tVar 1) "second")) (start n_begin_match [.ref γ.w, .ref g]) H (eRefs γ.ea (x.1 ++ x.2)) := by
      have z := el_cat (ev_G CC (ev_var (σ := start n_begin_match [.ref γ.w, .ref g]) (i := 1) rfl) g1 (pairF_first ..)) (ev_G CC (ev_var (i := 1) rfl) g1 (pairF_second ..)) g2 g3 (by unfold eRefs; rw [List.length_map, List.length_map]; omega)
      unfold eRefs at *
      rw [List.map_append]
      exact z
    refine q_forNLn hcat (fun p i σ' H' => ExB (· = γ.ed) H H' ∧ p ≠ γ.ed ∧ H' p = some (.lst (eRefs γ.ea (x.1 ++ x.2))) ∧ H' γ.ed = some (.dK (eKv γ.ea (stay s.entries ((x.1 ++ x.2).take i)))) ∧ ∃ y z, σ' = [some (.ref γ.w), some (.ref g), y, z]) ?_ (fun p i σ' H' _ pv => sq_of pv.2.2.1) ?_ ?_
    · intro p H1 hp e1 h2
      refine ⟨.of e1, (fun z => by rw [z, un.ed] at hp; cases hp), h2, ?_, none, none, rfl⟩
      rw [List.take_zero]
      have : stay s.entries [] = s.entries := by
        unfold stay
        exact List.filter_eq_self.mpr (fun _ _ => rfl)
      rw [this]
      exact e1 _ _ un.ed
    · rintro p i v σ' H' hi ⟨e1, np, h2, h3, y, z, rfl⟩
      unfold eRefs at hi
      rw [List.getElem?_map] at hi
      cases hq : (x.1 ++ x.2)[i]? with
      | none => rw [hq] at hi; cases hi
      | some n =>
        rw [hq] at hi
        cases hi
        have hn : n ∈ x.1 ++ x.2 := List.mem_of_getElem? hq
        obtain ⟨de, l, i1, i2⟩ := ws.en n (ok.sub n hn)
        have i1' := e1 _ _ i1 (ne_of i1 un.ed (by intro z; cases z))
        have h1' := e1 _ _ h1 nwe
        have hin : n ∈ stay s.entries ((x.1 ++ x.2).take i) := by
          unfold stay
          refine List.mem_filter.mpr ⟨ok.sub n hn, ?_⟩
          simp only [Bool.not_eq_true', List.any_eq_false, beq_iff_eq]
          intro y hy hyn
          have hnd := ok.nd
          rw [← List.take_append_drop (i + 1) (x.1 ++ x.2), take_more hq, List.append_assoc, List.map_append, List.nodup_append] at hnd
          exact hnd.2.2 y.num (List.mem_map.mpr ⟨y, hy, rfl⟩) n.num (List.mem_map.mpr ⟨n, List.mem_append_left _ (by simp), rfl⟩) hyn
        refine s_pop (k := Sum.inl ((n.num : Nat) : Int)) (v := .ref (γ.ea n.num)) (ev_W CC (ev_var rfl) h1' (worldF_parties ..)) (ev_E CC (ev_var rfl) i1' (entryF_number _ _)) h3 ?_ fun H2 e2 => ?_
        · rw [eKv_is, valV_kv]
          cases hf : (stay s.entries ((x.1 ++ x.2).take i)).find? fun x => ((x.num : Nat) : Int) == ((n.num : Nat) : Int) with
          | none =>
            have := List.find?_eq_none.mp hf n hin
            simp at this
          | some n' =>
            have := List.find?_some hf
            have e0 : n'.num = n.num := by
              have := beq_iff_eq.mp this
              omega
            show some (V.ref (γ.ea n'.num)) = _
            rw [e0]
        · refine ⟨(e1.trans (.of e2)).trans (ExB.upd rfl), np, ?_, ?_, _, z, rfl⟩
          · rw [upd_ne np]
            exact e2 _ _ h2
          · rw [upd_same, eKv_is, dropK_kv, stay_snoc, take_more hq]
            rfl
    · rintro p σ' H1 ⟨e1, np, _, h3, y, z, rfl⟩
      have hlen : (eRefs γ.ea (x.1 ++ x.2)).length = (x.1 ++ x.2).length := by unfold eRefs; rw [List.length_map]
      rw [hlen, List.take_length] at h3
      have e1' : ExB (S3 γ) H H1 := e1.mono fun b hb => .inr (.inr (.inl hb))
      have h1' := e1 _ _ h1 nwe
      have nge : g ≠ γ.ed := ne_of g1 un.ed (by intro z; cases z)
      -- game = Match(world.take_number(), members_of(..), members_of(..))
      refine ⟨.ref γ.w, rfl, γ.w, dw, _, rfl, h1', worldF_no _ _ _ _ _ _ _ _ (by decide +kernel), ?_⟩
      refine ⟨γ.w, dw, _, _, _, _, _, _, _, _, rfl, h1', fun H2 e2 h2 => ?_⟩
      have e02 : ExB (S3 γ) H H2 := e1'.trans (e2.mono fun b hb => .inl hb)
      have g1' := e02 _ _ g1 (off3 ws un g1 (by show 4 ≠ 8; decide))
      have g2' := e02 _ _ g2 (off3 ws un g2 trivial)
      have g3' := e02 _ _ g3 (off3 ws un g3 trivial)
      have gall := (ws.grp W (row := s.entries) fun _ h => h).off ws un e02
      have hs1 : ∀ e ∈ x.1, e ∈ s.entries := fun e he => ok.sub e (List.mem_append_left _ he)
      have hs2 : ∀ e ∈ x.2, e ∈ s.entries := fun e he => ok.sub e (List.mem_append_right _ he)
      refine el_callL (xs := pRefs γ.pa (membersOf x.1)) (vs := [.ref la]) (ea_cons (ev_G CC (ev_var rfl) g1' (pairF_first ..)) ea_nil) (fun H3 e3 Q' q' => ⟨la, γ.pa, γ.ea, plOf s, x.1, rfl, sq_of (e3 _ _ g2'), (gall.sub hs1).mono e3, by omega, q'⟩) H2 (Ex.refl _) _ fun ma H3 hma e3 h4 => ?_
      refine el_callL (xs := pRefs γ.pa (membersOf x.2)) (vs := [.ref lb]) (ea_cons (ev_G CC (ev_var rfl) (e3 _ _ g1') (pairF_second ..)) ea_nil) (fun H4 e4 Q' q' => ⟨lb, γ.pa, γ.ea, plOf s, x.2, rfl, sq_of ((e3.trans e4) _ _ g3'), (gall.sub hs2).mono (e3.trans e4), by omega, q'⟩) H3 (Ex.refl _) _ fun mb H4 hmb e4 h5 => ?_
      intro gm dm ngm ndm ne
      refine ⟨H4, gm, dm, ma, mb, ⟨s.next, membersOf x.1, membersOf x.2⟩, rfl, made_ex ngm ndm, ngm, made_at, fun H5 e5 h6 => ⟨rfl, ?_⟩⟩
      have e25 := (e3.trans e4).trans e5
      have e05 : ExB (S3 γ) H H5 := e02.trans (.of e25)
      have hmd : H5 γ.md = some (.dK (mKv γ.ma s.matches_)) := by
        refine e25 _ _ (e2 _ _ (e1 _ _ un.md ap.em.symm) ?_)
        exact ne_of un.md h1 (by intro z; cases z)
      have hml : (mKv γ.ma s.matches_).length < 100000 := by
        have := W.few
        unfold mKv
        rw [List.length_map]
        omega
      show tSeq (sDPut (tFld K (tVar 0) "matches") (tFld K (tVar 3) "number") (tVar 3)) (tRet (tVar 3)) { nx := fun _ H' => Q .non H', rt := Q } [some (.ref γ.w), some (.ref g), y, some (.ref gm)] H5
      refine q_put (k := Sum.inl ((s.next : Nat) : Int)) (ev_var rfl) (ev_W CC (ev_var rfl) (e25 _ _ h2) (worldF_matches ..)) (ev_M CC (ev_var rfl) h6 (matchF_number ..)) hmd hml fun H6 e6 => ?_
      refine s_ret (ev_var rfl) fun H7 e7 => ?_
      have nH : H gm = none := by
        cases hq : H gm with
        | none => rfl
        | some o =>
          exfalso
          have hs : S3 γ gm := Classical.byContradiction fun hs => by
            rw [(e02.trans (.of (e3.trans e4))) _ _ hq hs] at ngm
            cases ngm
          have e24 := e3.trans e4
          rcases hs with z | z | z | z
          · rw [z, e24 _ _ h2] at ngm; cases ngm
          · rw [z, e24 _ _ (e2 _ _ (e1 _ _ un.pd ap.pe) (ne_of un.pd h1 (by intro z; cases z)))] at ngm; cases ngm
          · rw [z, e24 _ _ (e2 _ _ h3 nwe.symm)] at ngm; cases ngm
          · rw [z, e24 _ _ (e2 _ _ (e1 _ _ un.md ap.em.symm) (ne_of un.md h1 (by intro z; cases z)))] at ngm; cases ngm
      have e57 : ExB (· = γ.md) H5 H7 := ((ExB.of e6).trans (ExB.upd (S := (· = γ.md)) rfl)).trans (.of e7)
      have e07 : ExB (S3 γ) H H7 := e05.trans (e57.mono fun b hb => .inr (.inr (.inr hb)))
      have nwm : γ.w ≠ γ.md := ne_of h1 un.md (by intro z; cases z)
      have hpd : H5 γ.pd = some (.dK (pKv γ.pa s.players)) := e25 _ _ (e2 _ _ (e1 _ _ un.pd ap.pe) (ne_of un.pd h1 (by intro z; cases z)))
      have hed : H5 γ.ed = some (.dK (eKv γ.ea (stay s.entries (x.1 ++ x.2)))) := e25 _ _ (e2 _ _ h3 nwe.symm)
      have hmk : ∀ m ∈ s.matches_, (gMa γ s.next gm).ma m.num = γ.ma m.num := fun m hm => by
        have := (W.ml m hm).2.2
        show (if m.num = s.next then gm else γ.ma m.num) = _
        rw [if_neg (by omega)]
      have hmd7 : H7 γ.md = some (.dK (mKv (gMa γ s.next gm).ma (s.matches_ ++ [⟨s.next, membersOf x.1, membersOf x.2⟩]))) := by
        refine e7 _ _ ?_
        rw [upd_same, mKv_is, mKv_is]
        have e9 : (gMa γ s.next gm).ma s.next = gm := if_pos rfl
        have z := putK_kv (num := fun (m : Match) => m.num) (adr := (gMa γ s.next gm).ma) (y := (⟨s.next, membersOf x.1, membersOf x.2⟩ : Match)) (l := s.matches_) (fun m hm => by have := (W.ml m hm).2.2; show m.num ≠ s.next; omega)
        rw [← z, kvOf_congr hmk]
        show some (HO.dK (putK (kvOf _ _ _) (Sum.inl ((s.next : Nat) : Int)) (V.ref gm))) = some (HO.dK (putK (kvOf _ _ _) (Sum.inl ((s.next : Nat) : Int)) (V.ref ((gMa γ s.next gm).ma s.next))))
        rw [e9]
      have hpd7 := e57 _ _ hpd ap.pm
      have hed7 := e57 _ _ hed ap.em
      refine k gm H7 ⟨⟨dw, ?_⟩, ws.ru.off ws un e07, .inl hpd7, .inl hed7, .inl hmd7, fun p hp => (ws.ps p hp).off ws un e07, fun e he => (ws.en e (List.mem_filter.mp he).1).off ws un e07, fun m hm => ?_⟩ ⟨hpd7, hed7, hmd7⟩ e07 nH
      · exact e57 _ _ (e25 _ _ h2) nwm
      · rcases List.mem_append.mp hm with q | q
        · have z := (ws.ms m q).off ws un e07
          rw [← hmk m q] at z
          exact z
        · have q' : m = ⟨s.next, membersOf x.1, membersOf x.2⟩ := by simpa using q
          subst q'
          have e9 : (gMa γ s.next gm).ma s.next = gm := if_pos rfl
          show MatchAt c H7 γ.pa ((gMa γ s.next gm).ma s.next) _
          rw [e9]
          exact ⟨dm, ma, mb, e57 _ _ h6 (ne_of h6 hmd (by intro z; cases z)), e57 _ _ ((e4.trans e5) _ _ h4) (ne_of ((e4.trans e5) _ _ h4) hmd (by intro z; cases z)), e57 _ _ (e5 _ _ h5) (ne_of (e5 _ _ h5) hmd (by intro z; cases z))⟩
end
end EM

namespace EM
open PySem PySem.Spec PyProof.Rows L2 Evl
open Vbwsap (Rules Player Match sumOf membersOf gap State)
theorem s_asgC {σ : L2.St} {H : Hp} {D : Ends} {sp : Sp} {vs : List V} {i : Nat} {ta : TA} (ha : EvA ta σ H vs) (k : ∀ H1, Ex H H1 → sp vs H1 (fun v H2 => D.nx (σ.set i (some v)) H2) E0) : tAsg (tCall sp [] E0 ta) (gName i) D σ H :=
  ha H (Ex.refl H) _ fun H1 e => by
    show sp (vs ++ []) H1 _ _
    rw [List.append_nil]
    exact k H1 e
section
variable {P : Program} {w : World} {K : PySem.W.Frag} {mg : Str → Option Value} {base : Heap} {c : Cs}
/-- a list that is no list of players -/
def NotPl (c : Cs) (H : Hp) (xs : List V) : Prop := ∀ a r, xs = .ref a :: r → ∀ p, ¬ PlayerAt c H a p
theorem rd_upd {H : Hp} {p d : Addr} {o : HO} {kvs : List (Key × V)} {xs : List V} (hp : H p = some (.lst xs)) (h : Rd H d (.dK kvs)) : Rd (upd H p o) d (.dK kvs) := by
  rcases h with h | ⟨ob, h⟩
  · exact .inl (by rw [upd_ne (ne_of h hp (by intro z; cases z))]; exact h)
  · exact .inr ⟨ob, by rw [upd_ne (ne_of h hp (by intro z; cases z))]; exact h⟩
theorem WS.upd {H : Hp} {γ : Gh} {s : State} {p : Addr} {xs : List V} {o : HO} (ws : WS c H γ s) (W : Wf s) (hp : H p = some (.lst xs)) (hn : NotPl c H xs) : WS c (upd H p o) γ s := by
  have key : ∀ {l : Addr} {who : List Nat}, H l = some (.lst (who.map fun n => V.ref (γ.pa n))) → 1 ≤ who.length → (∀ n ∈ who, ∃ q ∈ s.players, q.num = n) → L2.upd H p o l = some (.lst (who.map fun n => V.ref (γ.pa n))) := by
    intro l who hl h1 hpl
    rw [upd_ne]
    · exact hl
    · intro z
      rw [z, hp] at hl
      cases who with
      | nil => simp at h1
      | cons n r =>
        have hl' : xs = V.ref (γ.pa n) :: r.map fun n => V.ref (γ.pa n) := by
          have := Option.some.inj hl
          injection this
        obtain ⟨q, hq, rfl⟩ := hpl n List.mem_cons_self
        exact hn _ _ hl' q (ws.ps q hq)
  refine ⟨?_, ?_, rd_upd hp ws.pd, rd_upd hp ws.ed, rd_upd hp ws.md, fun q hq => ?_, fun e he => ?_, fun m hm => ?_⟩
  · obtain ⟨dx, h⟩ := ws.wo
    exact ⟨dx, by rw [upd_ne (ne_of h hp (by intro z; cases z))]; exact h⟩
  · obtain ⟨dx, h⟩ := ws.ru
    exact ⟨dx, by rw [upd_ne (ne_of h hp (by intro z; cases z))]; exact h⟩
  · obtain ⟨dx, h⟩ := ws.ps q hq
    exact ⟨dx, by rw [upd_ne (ne_of h hp (by intro z; cases z))]; exact h⟩
  · obtain ⟨dx, l, h, h2⟩ := ws.en e he
    exact ⟨dx, l, by rw [upd_ne (ne_of h hp (by intro z; cases z))]; exact h, key h2 (W.ew e he).1 (fun n hn => W.who he hn)⟩
  · obtain ⟨dx, l, l2, h, h2, h3⟩ := ws.ms m hm
    have h4 := W.ml m hm
    have h5 := W.side.1
    exact ⟨dx, l, l2, by rw [upd_ne (ne_of h hp (by intro z; cases z))]; exact h, key h2 (by omega) (fun n hn => W.mat hm (List.mem_append_left _ hn)), key h3 (by omega) (fun n hn => W.mat hm (List.mem_append_right _ hn))⟩
theorem Un3.upd {H : Hp} {γ : Gh} {s : State} {p : Addr} {xs : List V} {o : HO} (un : Un3 H γ s) (hp : H p = some (.lst xs)) : Un3 (upd H p o) γ s :=
  ⟨by rw [upd_ne (ne_of un.pd hp (by intro z; cases z))]; exact un.pd, by rw [upd_ne (ne_of un.ed hp (by intro z; cases z))]; exact un.ed, by rw [upd_ne (ne_of un.md hp (by intro z; cases z))]; exact un.md⟩
/-- the same world, its matches elsewhere -/
def gM (γ : Gh) (ma : Nat → Addr) : Gh := { γ with ma := ma }
def mRefs (ma : Nat → Addr) (ms : List Match) : List V := ms.map fun m => V.ref (ma m.num)
theorem S3_gM {γ : Gh} {ma : Nat → Addr} {b : Addr} : S3 (gM γ ma) b = S3 γ b := rfl
theorem Apart.gM {γ : Gh} (h : Apart γ) (ma : Nat → Addr) : Apart (gM γ ma) := ⟨h.pe, h.pm, h.em⟩
def sp_make_matches (c : Cs) : Sp := fun vs H Q _ => ∃ (γ : Gh) (s : State), vs = [.ref γ.w] ∧ WS c H γ s ∧ Wf s ∧ Un3 H γ s ∧ Apart γ ∧
  ∀ (ma : Nat → Addr) (p : Addr) (H' : Hp), WS c H' (gM γ ma) (Vbwsap.matchAll (s.entries.length + 1) s).1 → Un3 H' (gM γ ma) (Vbwsap.matchAll (s.entries.length + 1) s).1 → ExB (S3 γ) H H' → H p = none →
    H' p = some (.lst (mRefs ma (Vbwsap.matchAll (s.entries.length + 1) s).2)) → (∀ n, n < s.next → ma n = γ.ma n) → Q (.ref p) H'
abbrev s_make_matches : Stmt := top 34
abbrev n_make_matches : List Str := ["world", "made", "pairing"]
abbrev p_make_matches : List Str := ["world"]
theorem sc_make_matches : FnScope n_make_matches p_make_matches (defScope s_make_matches) := ⟨rfl, rfl, rfl, by decide +kernel, rfl, by decide +kernel, by decide +kernel⟩

theorem ok_make_matches (T : Txt mg) (CC : CT K c) (D : Def K mg "make_matches" s_make_matches p_make_matches) (G_match_in_turn : Has P w K mg base 17 "match_in_turn" p_match_in_turn (sp_match_in_turn c)) (G_begin_match : Has P w K mg base 3 "begin_match" p_begin_match (sp_begin_match c)) :
    Has P w K mg base 18 "make_matches" p_make_matches (sp_make_matches c) := by
  refine D.has sc_make_matches (fun vs H Q E h => ?_) (fun f cdv A outer sh H vs Q E hr h => ?_)
  · obtain ⟨γ, s, rfl, _⟩ := h
    rfl
  · obtain ⟨γ, s, rfl, ws, W, un, ap, k⟩ := h
    refine ⟨_, (pss_cons (ps_set (i := 1) sc_make_matches.nd rfl (Or.inl rfl) (pe_lst pa_nil))
 (pss_cons (ps_set (i := 2) sc_make_matches.nd rfl (Or.inl rfl) (pe_has G_match_in_turn (hr.mono (by decide)) rfl (pa_cons (pv 0) pa_nil)))
 (pss_cons (ps_while PassesOwn.never (pt_cmpR op_notN (pv 2) pe_non (nomark _))
  (pss_cons (ps_expr (pe_bm PySem.F.plainAttrs_list PySem.F.slot_list_append PySem.F.type_list_append mt_append (pv 1) (pa_cons (pe_has G_begin_match (hr.mono (by decide)) rfl (pa_cons (pv 0) (pa_cons (pv 2) pa_nil))) pa_nil)))
 (pss_one (ps_set (i := 2) sc_make_matches.nd rfl (Or.inl rfl) (pe_has G_match_in_turn (hr.mono (by decide)) rfl (pa_cons (pv 0) pa_nil))))))
 (pss_one (ps_ret (pv 1)))))), ?_⟩
    refine q_asgL (el_lst ea_nil (by show 0 ≤ 100000; decide)) fun p H1 hp e1 h1 => ?_
    -- what follows a call of match_in_turn
    let Inv0 : State → List Match → (Nat → Addr) → V → Hp → Prop := fun t done ma v H' => Wf t ∧ WS c H' (gM γ ma) t ∧ Un3 H' (gM γ ma) t ∧ ExB (S3 γ) H H' ∧ H' p = some (.lst (mRefs ma done)) ∧ OptAt c H' γ.ea (plOf t) (t.now : Nat) v (turnOf t) ∧
      Vbwsap.matchAll (s.entries.length + 1) s = ((Vbwsap.matchAll (t.entries.length + 1) t).1, done ++ (Vbwsap.matchAll (t.entries.length + 1) t).2) ∧ (∀ m ∈ done, m.num < t.next ∧ m ∈ t.matches_) ∧ s.next ≤ t.next ∧ (∀ n, n < s.next → ma n = γ.ma n) ∧ done.length + t.entries.length ≤ 12
    have call : ∀ {D : Ends} {σ : L2.St} {i : Nat} {t : State} {done : List Match} {ma : Nat → Addr} {H' : Hp}, σ[0]? = some (some (.ref γ.w)) → Wf t → WS c H' (gM γ ma) t → Un3 H' (gM γ ma) t → (∀ v H2, Ex H' H2 → OptAt c H2 γ.ea (plOf t) (t.now : Nat) v (turnOf t) → D.nx (σ.set i (some v)) H2) →
        tAsg (tCall (sp_match_in_turn c) [] E0 (tCons (tVar 0) tNil)) (gName i) D σ H' := by
      intro D σ i t done ma H' hs Wt wst unt kk
      refine s_asgC (vs := [.ref γ.w]) (ea_cons (ev_var hs) ea_nil) fun H2 e2 => ⟨gM γ ma, t, rfl, wst.mono e2, Wt, unt.mono e2, ?_⟩
      have kk' : ∀ v H3, Ex H2 H3 → OptAt c H3 γ.ea (plOf t) (t.now : Nat) v (turnOf t) → D.nx (σ.set i (some v)) H3 := fun v H3 e3 => kk v H3 (e2.trans e3)
      revert kk'
      cases turnOf t with
      | none => exact fun kk' H3 e3 => kk' .non H3 e3 rfl
      | some x => exact fun kk' g H3 e3 hp => kk' (.ref g) H3 e3 ⟨g, rfl, hp⟩
    refine call (t := s) (done := []) (ma := γ.ma) rfl W (ws.mono e1) (un.mono e1) fun v H2 e2 ho => ?_
    refine q_while (fun m σ' H' => ∃ t done ma v, Inv0 t done ma v H' ∧ m = t.entries.length ∧ σ' = [some (.ref γ.w), some (.ref p), some v]) s.entries.length ⟨s, [], γ.ma, v, ⟨W, (ws.mono e1).mono e2, (un.mono e1).mono e2, .of (e1.trans e2), e2 _ _ h1, ho, by rw [List.nil_append], fun m hm => by simp at hm, Nat.le_refl _, fun _ _ => rfl, by have := W.el; simpa using this⟩, rfl, rfl⟩ ?_
    rintro m σ' H' ⟨t, done, ma, v, ⟨Wt, wst, unt, eb, hp', ho, hall, hdn, hnx, hma, hlen⟩, rfl, rfl⟩
    refine ⟨!(turnOf t).isNone, et_is (et_test (ev_op (ev_var rfl) ev_c (fun H4 _ Q' q' => ⟨rfl, q' H4 (Ex.refl H4)⟩))) (by rw [ho.isN]), fun hb H3 e3 => ?_, fun hb H3 e3 => ?_⟩
    · -- one more match
      have hts := turn_spec Wt
      cases hx : turnOf t with
      | none => rw [hx] at hb; cases hb
      | some x =>
        rw [hx] at ho
        obtain ⟨g, rfl, hpa⟩ := ho
        have hfm : Vbwsap.firstMatch t = some x := by rw [← hts]; exact hx
        have ok := firstMatch_ok Wt hfm
        have hlt := behind_len Wt ok
        have hall2 := all_some Wt hfm
        refine ⟨fun σ2 H2 => ∃ t' done' ma' v', Inv0 t' done' ma' v' H2 ∧ t'.entries.length < t.entries.length ∧ σ2 = [some (.ref γ.w), some (.ref p), some v'], fun σ2 H2 ⟨t', done', ma', v', i0, il, is⟩ => ⟨t'.entries.length, il, t', done', ma', v', i0, rfl, is⟩, ?_⟩
        refine ⟨.ref p, rfl, Or.inl ⟨rfl, _, sq_of (e3 _ _ hp')⟩, .ref γ.w, rfl, .ref g, rfl, ?_⟩
        refine ⟨gM γ ma, t, g, x, rfl, wst.mono e3, Wt, unt.mono e3, ap.gM ma, hpa.mono e3, ok, fun gm H4 ws4 un4 e4 ngm => ?_⟩
        have np3 : ¬ S3 γ p := off3 (wst.mono e3) (unt.mono e3) (e3 _ _ hp') trivial
        have hp4 : H4 p = some (.lst (mRefs ma done)) := e4 _ _ (e3 _ _ hp') np3
        refine ⟨p, _, .ref gm, rfl, rfl, hp4, by unfold mRefs; rw [List.length_map, sizeLine_is]; omega, ?_⟩
        have hnew : gM γ (gMa (gM γ ma) t.next gm).ma = gMa (gM γ ma) t.next gm := rfl
        generalize hma2 : (gMa (gM γ ma) t.next gm).ma = ma2 at *
        rw [← hnew] at ws4 un4
        have hag : ∀ n, n ≠ t.next → ma2 n = ma n := fun n hn => by
          rw [← hma2]
          show (if n = t.next then gm else ma n) = ma n
          rw [if_neg hn]
        have hgm : ma2 t.next = gm := by
          rw [← hma2]
          exact if_pos rfl
        have hW2 := Wt.behind ok
        have hnot : NotPl c H4 (mRefs ma done) := by
          intro a r hr p' hpl
          cases done with
          | nil => cases hr
          | cons m0 dr =>
            have ha : ma m0.num = a := by
              unfold mRefs at hr
              rw [List.map_cons] at hr
              have := (List.cons.inj hr).1
              injection this
            obtain ⟨hm1, hm2⟩ := hdn m0 List.mem_cons_self
            obtain ⟨dx, l1, l2, q1, _, _⟩ := ws4.ms m0 (List.mem_append_left _ hm2)
            obtain ⟨dx2, q2⟩ := hpl
            have q1' : H4 (ma m0.num) = some (.ins c.M dx (matchF m0 l1 l2)) := by
              rw [← hag m0.num (by omega)]
              exact q1
            rw [ha, q2] at q1'
            have := Option.some.inj q1'
            injection this with _ _ h3
            have := congrArg List.length h3
            exact absurd this (by show ¬ (5 = 3); decide)
        have hmr : mRefs ma done ++ [V.ref gm] = mRefs ma2 (done ++ [⟨t.next, membersOf x.1, membersOf x.2⟩]) := by
          unfold mRefs
          rw [List.map_append]
          congr 1
          · apply List.map_congr_left
            intro m hm
            rw [hag m.num (by have := (hdn m hm).1; omega)]
          · show [V.ref gm] = [V.ref (ma2 t.next)]
            rw [hgm]
        have ws5 := WS.upd (o := .lst (mRefs ma done ++ [V.ref gm])) ws4 hW2 hp4 hnot
        have un5 := Un3.upd (o := .lst (mRefs ma done ++ [V.ref gm])) un4 hp4
        have eb5 : ExB (S3 γ) H (upd H4 p (.lst (mRefs ma done ++ [V.ref gm]))) := fun b o hb hs => by
          rw [upd_ne (fun z => by rw [z, hp] at hb; cases hb)]
          exact e4 _ _ (e3 _ _ (eb _ _ hb hs)) hs
        show tAsg (tCall (sp_match_in_turn c) [] E0 (tCons (tVar 0) tNil)) (gName 2) _ [some (.ref γ.w), some (.ref p), some (.ref g)] _
        refine call (t := behind t x) (done := done ++ [⟨t.next, membersOf x.1, membersOf x.2⟩]) (ma := ma2) rfl hW2 ws5 un5 fun v' H6 e6 ho' => ?_
        refine ⟨behind t x, done ++ [⟨t.next, membersOf x.1, membersOf x.2⟩], ma2, v', ⟨hW2, ws5.mono e6, un5.mono e6, eb5.trans (.of e6), ?_, ho', ?_, ?_, ?_, ?_, ?_⟩, hlt, rfl⟩
        · rw [← hmr]
          exact e6 _ _ upd_same
        · rw [hall, hall2]
          simp
        · intro m hm
          rcases List.mem_append.mp hm with z | z
          · have := hdn m z
            exact ⟨Nat.lt_succ_of_lt this.1, List.mem_append_left _ this.2⟩
          · have hz : m = ⟨t.next, membersOf x.1, membersOf x.2⟩ := by simpa using z
            subst hz
            exact ⟨Nat.lt_succ_self _, List.mem_append_right _ (by simp)⟩
        · exact Nat.le_succ_of_le hnx
        · intro n hn
          rw [hag n (by omega)]
          exact hma n hn
        · rw [List.length_append]
          show done.length + 1 + _ ≤ 12
          omega
    · have hn : turnOf t = none := by
        cases hx : turnOf t with
        | none => rfl
        | some x => rw [hx] at hb; cases hb
      have hfm : Vbwsap.firstMatch t = none := by rw [← turn_spec Wt]; exact hn
      rw [all_none hfm] at hall
      rw [List.append_nil] at hall
      refine s_ret (ev_var rfl) fun H4 e4 => k ma p H4 ?_ ?_ (eb.trans (.of (e3.trans e4))) hp ((e3.trans e4) _ _ ?_) hma
      · rw [hall]; exact wst.mono (e3.trans e4)
      · rw [hall]; exact unt.mono (e3.trans e4)
      · rw [hall]; exact hp'
end
end EM

namespace EM
open PySem PySem.Spec PyProof.Rows L2 Evl
open Vbwsap (Rules Player Match sumOf membersOf gap State)
theorem ev_lenLL {K : PySem.W.Frag} {σ : L2.St} {H : Hp} {te : TE} {xss : List (List V)} (h : EvLL te σ H xss) : Ev (tCB (rLenS K) (tCons te tNil)) σ H (.int (xss.length : Nat)) := fun H1 e Q q =>
  h H1 e _ fun p ls H2 hp hf e2 h2 hl => ⟨p, _, rfl, .inl (sq_of h2), by
    rw [List.length_map, hl.length]
    exact q H2 e2⟩
def optV : Option Int → V
  | none => .non
  | some i => .int i
section
variable {P : Program} {w : World} {K : PySem.W.Frag} {mg : Str → Option Value} {base : Heap} {c : Cs}
def sp_next_play (c : Cs) : Sp := fun vs H Q _ => ∃ (γ : Gh) (s : State), vs = [.ref γ.w] ∧ WS c H γ s ∧ Wf s ∧ RetV (optV (npOf s)) H Q
abbrev s_next_play : Stmt := top 35
abbrev n_next_play : List Str := ["world", "side", "soonest", "group", "start"]
abbrev p_next_play : List Str := ["world"]
theorem sc_next_play : FnScope n_next_play p_next_play (defScope s_next_play) := ⟨rfl, rfl, rfl, by decide +kernel, rfl, by decide +kernel, by decide +kernel⟩

theorem ok_next_play (T : Txt mg) (CC : CT K c) (D : Def K mg "next_play" s_next_play p_next_play) (G_ways_to_take : Has P w K mg base 14 "ways_to_take" p_ways_to_take (sp_ways K c 14)) (G_playable_since : Has P w K mg base 3 "playable_since" p_playable_since (sp_playable_since K c)) : Has P w K mg base 15 "next_play" p_next_play (sp_next_play c) := by
  refine D.has sc_next_play (fun vs H Q E h => ?_) (fun f cdv A outer sh H vs Q E hr h => ?_)
  · obtain ⟨γ, s, rfl, _⟩ := h
    rfl
  · obtain ⟨γ, s, rfl, ws, W, k⟩ := h
    refine ⟨_, (pss_cons (ps_set (i := 1) sc_next_play.nd rfl (Or.inl rfl) (pe_fld (pe_fld (pv 0) rfl) rfl))
 (pss_cons (ps_set (i := 2) sc_next_play.nd rfl (Or.inl rfl) pe_non)
 (pss_cons (ps_for PassesOwn.never rfl (pi_list (pe_has G_ways_to_take (hr.mono (by decide)) rfl (pa_cons (pe_callTy (cr_listView rfl) (by rfl) T.list (by decide +kernel) (pa_cons (pe_valsK (pe_fld (pv 0) rfl)) pa_nil)) (pa_cons (pe_op op_mul pe_int (pv 1)) pa_nil)))) (pg_name (i := 3) sc_next_play.nd rfl (Or.inl rfl))
  (pss_cons (ps_set (i := 4) sc_next_play.nd rfl (Or.inl rfl) (pe_has G_playable_since (hr.mono (by decide)) rfl (pa_cons (pe_fld (pv 0) rfl) (pa_cons (pv 3) pa_nil))))
 (pss_one (ps_if (PW.pt (pw_or (pt_cmpR op_isN (pv 2) pe_non (nomark _)) (pw_or1 (pt_cmpR op_lt (pv 4) (pv 2) (nomark _)))))
  (pss_one (ps_if (pt_cmpR op_gt (pe_callB call_len_seq (by rfl) T.len PySem.boot_len (pa_cons (pe_has G_ways_to_take (hr.mono (by decide)) rfl (pa_cons (pv 3) (pa_cons (pv 1) pa_nil))) pa_nil)) pe_int (nomark _))
  (pss_one (ps_set (i := 2) sc_next_play.nd rfl (Or.inl rfl) (pv 4))) pss_nil)) pss_nil))))
 (pss_one (ps_ret (pv 2)))))), ?_⟩
    obtain ⟨dw, h1⟩ := ws.wo
    obtain ⟨dr, h2⟩ := ws.ru
    have gall := ws.grp W (row := s.entries) fun _ h => h
    have szall : SzOk s.entries := fun x hx => ⟨(W.ew x hx).1, Nat.le_trans (W.ew x hx).2.1 W.side.2⟩
    refine q_asg (ev_R CC (ev_W CC (ev_var rfl) h1 (worldF_rules ..)) h2 (rulesF_side _)) fun H1 e1 => ?_
    refine q_asg ev_c fun H2 e2 => ?_
    have e12 := e1.trans e2
    have hvals : ((eKv γ.ea s.entries).map fun kv => kv.2) = eRefs γ.ea s.entries := by
      unfold eKv eRefs
      rw [List.map_map]
      rfl
    have hev : EvLL (tCall (sp_ways K c 14) [] E0 (tCons (tCB rListView (tCons (tValsK (tFld K (tVar 0) "parties")) tNil)) (tCons (tOp (rI CMul fun i j => .int (i * j)) (tC (.int 2)) (tVar 1)) tNil))) [some (.ref γ.w), some (.int (s.rules.side : Nat)), some .non, none, none] H2 ((ways s.entries (2 * ((s.rules.side : Nat) : Int))).map (eRefs γ.ea)) := by
      intro H3 e3 Q' q'
      have hlv := el_listVals (σ := [some (.ref γ.w), some (.int (s.rules.side : Nat)), some .non, none, none]) (ev_W CC (ev_var (i := 0) rfl) ((e12.trans e3) _ _ h1) (worldF_parties ..)) (ex_rd (e12.trans e3) ws.ed)
      rw [hvals] at hlv
      refine hlv H3 (Ex.refl _) _ fun l H4 hl e4 h3 => ?_
      refine ev_op ev_c (ev_var (i := 1) rfl) (rv_I (Or.inl (by decide))) H4 (Ex.refl _) _ fun H5 e5 => ?_
      exact ⟨l, γ.pa, γ.ea, plOf s, s.entries, _, rfl, sq_of (e5 _ _ h3), gall.mono (((e12.trans e3).trans e4).trans e5), by have := W.el; omega, by omega, q'.mono (e4.trans e5)⟩
    refine q_forLL (p := γ.w) hev (e12 _ _ h1) (fun H1 i σ' H' => Ex H1 H' ∧ ∃ x y, σ' = [some (.ref γ.w), some (.int (s.rules.side : Nat)), some (optV (((ways s.entries (2 * ((s.rules.side : Nat) : Int))).take i).foldl (npStep s) none)), x, y]) (fun H3 e3 => ⟨Ex.refl _, none, none, rfl⟩) (fun H3 i σ' H' pv b o h _ => pv.1 b o h) ?_ ?_
    · rintro H3 i xs b σ' H' e3 hi nb hb ⟨e4, x0, y0, rfl⟩
      rw [List.getElem?_map] at hi
      cases hq : (ways s.entries (2 * ((s.rules.side : Nat) : Int)))[i]? with
      | none => rw [hq] at hi; cases hi
      | some g =>
        rw [hq] at hi
        cases hi
        have hgm : g ∈ ways s.entries (2 * ((s.rules.side : Nat) : Int)) := List.mem_of_getElem? hq
        have hgs : ∀ e ∈ g, e ∈ s.entries := ways_sub hgm
        have hgl : g.length ≤ 12 := Nat.le_trans (ways_short hgm) W.el
        have hne : tks s.rules (plOf s) g ≠ [] := by
          rw [ways_spec _ (fun e he => (W.ew e he).1), List.mem_filter] at hgm
          intro z
          have hz : g = [] := by
            unfold tks at z
            exact List.map_eq_nil_iff.mp z
          have h5 := hgm.2
          rw [hz] at h5
          simp [membersOf] at h5
          have := W.side.1
          omega
        have e04 := e12.trans (e3.trans e4)
        have hbg := e4 _ _ hb
        refine q_asg (v := .int (startOf s g)) (ev_callV (vs := [.ref γ.r, .ref b]) (ea_cons (ev_W CC (ev_var rfl) (e04 _ _ h1) (worldF_rules ..)) (ea_cons (ev_var rfl) ea_nil)) fun H5 e5 Q' q' => ⟨γ.r, b, s.rules, γ.pa, γ.ea, plOf s, g, _, rfl, ⟨dr, e5 _ _ (e04 _ _ h2)⟩, sq_of (e5 _ _ hbg), (gall.sub hgs).mono (e04.trans e5), W.rok, fun x hx => szall x (hgs x hx), by omega, maxL_is hne, q'⟩) fun H5 e5 => ?_
        generalize hB : ((ways s.entries (2 * ((s.rules.side : Nat) : Int))).take i).foldl (npStep s) none = bb
        have inner : ∀ {H6 : Hp}, Ex H5 H6 → ∀ D' : Ends, (0 < (ways g (s.rules.side : Nat)).length → ∀ H7, Ex H6 H7 → D'.nx [some (.ref γ.w), some (.int (s.rules.side : Nat)), some (.int (startOf s g)), some (.ref b), some (.int (startOf s g))] H7) → (¬ 0 < (ways g (s.rules.side : Nat)).length → ∀ H7, Ex H6 H7 → D'.nx [some (.ref γ.w), some (.int (s.rules.side : Nat)), some (optV bb), some (.ref b), some (.int (startOf s g))] H7) →
            tIfS (tTest (tOp (rI0 fun i j => .bl (decide (j < i))) (tCB (rLenS K) (tCons (tCall (sp_ways K c 14) [] E0 (tCons (tVar 3) (tCons (tVar 1) tNil))) tNil)) (tC (.int 0)))) (tAsg (tVar 4) (gName 2)) tNext D' [some (.ref γ.w), some (.int (s.rules.side : Nat)), some (optV bb), some (.ref b), some (.int (startOf s g))] H6 := by
          intro H6 e6 D' k1 k2
          have e06 := e04.trans (e5.trans e6)
          refine s_when (b := decide (0 < (ways g (s.rules.side : Nat)).length)) (et_is (et_test (ev_op (ev_lenLL (ell_callL (xss := (ways g (s.rules.side : Nat)).map (eRefs γ.ea)) (vs := [.ref b, .int (s.rules.side : Nat)]) (ea_cons (ev_var rfl) (ea_cons (ev_var rfl) ea_nil)) fun H7 e7 Q' q' => ⟨b, γ.pa, γ.ea, plOf s, g, _, rfl, sq_of ((e5.trans (e6.trans e7)) _ _ hbg), (gall.sub hgs).mono (e06.trans e7), by omega, by omega, q'⟩)) ev_c rv_I0)) (by rw [List.length_map]; exact decide_eq_decide.mpr (by omega))) (fun hb2 H7 e7 => ?_) (fun hb2 H7 e7 => ?_)
          · exact s_asg (ev_var rfl) fun H8 e8 => k1 (of_decide_eq_true hb2) H8 (e7.trans e8)
          · exact k2 (of_decide_eq_false hb2) H7 e7
        cases bb with
        | none =>
          refine s_when (b := true) (et_is (et_or (a := true) (b := true) (et_test (ev_op (ev_var rfl) ev_c (fun H4 _ Q' q' => ⟨rfl, q' H4 (Ex.refl H4)⟩))) (fun z => by cases z)) rfl) (fun _ H6 e6 => ?_) (fun z => by cases z)
          refine inner e6 _ (fun hw H7 e7 => ⟨e4.trans (e5.trans (e6.trans e7)), some (.ref b), some (.int (startOf s g)), ?_⟩) (fun hw H7 e7 => ⟨e4.trans (e5.trans (e6.trans e7)), some (.ref b), some (.int (startOf s g)), ?_⟩)
          · rw [take_more hq, List.foldl_append, hB]
            show _ = [_, _, some (optV (if 0 < (ways g (s.rules.side : Nat)).length then some (startOf s g) else none)), _, _]
            rw [if_pos hw]
            rfl
          · rw [take_more hq, List.foldl_append, hB]
            show _ = [_, _, some (optV (if 0 < (ways g (s.rules.side : Nat)).length then some (startOf s g) else none)), _, _]
            rw [if_neg hw]
        | some j =>
          refine s_when (b := decide (startOf s g < j)) (et_is (et_or (a := false) (et_test (ev_op (ev_var rfl) ev_c (fun H4 _ Q' q' => ⟨rfl, q' H4 (Ex.refl H4)⟩))) (fun _ => et_test (ev_op (ev_var rfl) (ev_var rfl) rv_I0))) rfl) (fun hlt H6 e6 => ?_) (fun hlt H6 e6 => ?_)
          · have hlt' := of_decide_eq_true hlt
            refine inner e6 _ (fun hw H7 e7 => ⟨e4.trans (e5.trans (e6.trans e7)), some (.ref b), some (.int (startOf s g)), ?_⟩) (fun hw H7 e7 => ⟨e4.trans (e5.trans (e6.trans e7)), some (.ref b), some (.int (startOf s g)), ?_⟩)
            · rw [take_more hq, List.foldl_append, hB]
              show _ = [_, _, some (optV (if startOf s g < j then (if 0 < (ways g (s.rules.side : Nat)).length then some (startOf s g) else some j) else some j)), _, _]
              rw [if_pos hlt', if_pos hw]
              rfl
            · rw [take_more hq, List.foldl_append, hB]
              show _ = [_, _, some (optV (if startOf s g < j then (if 0 < (ways g (s.rules.side : Nat)).length then some (startOf s g) else some j) else some j)), _, _]
              rw [if_pos hlt', if_neg hw]
          · have hlt' := of_decide_eq_false hlt
            refine ⟨e4.trans (e5.trans e6), some (.ref b), some (.int (startOf s g)), ?_⟩
            rw [take_more hq, List.foldl_append, hB]
            show _ = [_, _, some (optV (if startOf s g < j then (if 0 < (ways g (s.rules.side : Nat)).length then some (startOf s g) else some j) else some j)), _, _]
            rw [if_neg hlt']
            rfl
    · rintro H3 σ' H' e3 ⟨e4, x0, y0, rfl⟩
      rw [List.length_map, List.take_length]
      exact s_ret (ev_var rfl) fun H5 e5 => k H5 ((e12.trans (e3.trans e4)).trans e5)
end
end EM

namespace EM
open PySem PySem.Spec PyProof.Rows L2 Evl
open Vbwsap (Rules Player Match sumOf membersOf gap State)
/-! ### ticks -/
structure Keeps (s t : State) (ms : List Match) : Prop where
  wf : Wf t
  ms : t.matches_ = s.matches_ ++ ms
  nx : s.next ≤ t.next
theorem all_keep : ∀ (n : Nat) {s : State}, s.entries.length = n → Wf s → Keeps s (Vbwsap.matchAll (s.entries.length + 1) s).1 (Vbwsap.matchAll (s.entries.length + 1) s).2 ∧ (Vbwsap.matchAll (s.entries.length + 1) s).1.now = s.now := by
  intro n
  induction n using Nat.strongRecOn with
  | ind n ih =>
    intro s hn W
    cases h : Vbwsap.firstMatch s with
    | none =>
      rw [all_none h]
      exact ⟨⟨W, (List.append_nil _).symm, Nat.le_refl _⟩, rfl⟩
    | some x =>
      have ok := firstMatch_ok W h
      have hlt := behind_len W ok
      obtain ⟨k, hk⟩ := ih (behind s x).entries.length (by omega) rfl (W.behind ok)
      rw [all_some W h]
      refine ⟨⟨k.wf, ?_, Nat.le_trans (Nat.le_succ _) k.nx⟩, hk⟩
      show (Vbwsap.matchAll ((behind s x).entries.length + 1) (behind s x)).1.matches_ = _
      rw [k.ms]
      show (s.matches_ ++ [_]) ++ _ = _
      rw [List.append_assoc]
      rfl
theorem Wf.tick {s : State} (W : Wf s) (h : s.now + 1 ≤ 1000000) : Wf { s with now := s.now + 1 } :=
  ⟨W.side, W.base, W.step, W.factor, W.range, W.fine, W.pn, W.pl, W.pr, W.en, W.el, fun e he => let ⟨a, b, d, f⟩ := W.ew e he; ⟨a, b, Nat.le_succ_of_le d, f⟩, W.mn, W.ml, W.mem, W.inp, h⟩
theorem Keeps.trans {s t u : State} {a b : List Match} (h : Keeps s t a) (k : Keeps t u b) : Keeps s u (a ++ b) := ⟨k.wf, by rw [k.ms, h.ms, List.append_assoc], Nat.le_trans h.nx k.nx⟩
theorem ticked_keep {s : State} (W : Wf s) (h : s.now + 1 ≤ 1000000) : Keeps s (Vbwsap.ticked s).1 (Vbwsap.ticked s).2 ∧ (Vbwsap.ticked s).1.now = s.now + 1 := by
  obtain ⟨k, hk⟩ := all_keep _ rfl (W.tick h)
  exact ⟨⟨k.wf, k.ms, k.nx⟩, hk⟩
theorem tickedBy_keep : ∀ (n : Nat) {s : State}, Wf s → s.now + n ≤ 1000000 → Keeps s (Vbwsap.tickedBy n s).1 (Vbwsap.tickedBy n s).2 ∧ (Vbwsap.tickedBy n s).1.now = s.now + n
  | 0, s, W, _ => ⟨⟨W, (List.append_nil _).symm, Nat.le_refl _⟩, rfl⟩
  | n + 1, s, W, h => by
    obtain ⟨k1, h1⟩ := ticked_keep W (by omega)
    obtain ⟨k2, h2⟩ := tickedBy_keep n k1.wf (by omega)
    refine ⟨k1.trans k2, ?_⟩
    show (Vbwsap.tickedBy n (Vbwsap.ticked s).1).1.now = _
    rw [h2, h1]
    omega
section
variable {P : Program} {w : World} {K : PySem.W.Frag} {mg : Str → Option Value} {base : Heap} {c : Cs}
theorem mRefs_not {H : Hp} {γ : Gh} {s : State} {ms : List Match} (ws : WS c H γ s) (h : ∀ m ∈ ms, m ∈ s.matches_) : NotPl c H (mRefs γ.ma ms) := by
  intro a r hr p' hpl
  cases ms with
  | nil => cases hr
  | cons m0 dr =>
    have ha : γ.ma m0.num = a := by
      unfold mRefs at hr
      rw [List.map_cons] at hr
      have := (List.cons.inj hr).1
      injection this
    obtain ⟨dx, l1, l2, q1, _, _⟩ := ws.ms m0 (h m0 List.mem_cons_self)
    obtain ⟨dx2, q2⟩ := hpl
    rw [ha, q2] at q1
    have := Option.some.inj q1
    injection this with _ _ h3
    have := congrArg List.length h3
    exact absurd this (by show ¬ (5 = 3); decide)
def sp_let_ticks (c : Cs) : Sp := fun vs H Q _ => ∃ (γ : Gh) (s : State) (n : Nat), vs = [.ref γ.w, .int (n : Nat)] ∧ WS c H γ s ∧ Wf s ∧ Un3 H γ s ∧ Apart γ ∧ n ≤ 50 ∧ s.now + n ≤ 1000000 ∧
  ∀ (ma : Nat → Addr) (p : Addr) (H' : Hp), WS c H' (gM γ ma) (Vbwsap.tickedBy n s).1 → Un3 H' (gM γ ma) (Vbwsap.tickedBy n s).1 → ExB (S3 γ) H H' → H p = none → H' p = some (.lst (mRefs ma (Vbwsap.tickedBy n s).2)) → Q (.ref p) H'
abbrev s_let_ticks_go_by : Stmt := top 36
abbrev n_let_ticks_go_by : List Str := ["world", "ticks", "made", "soonest", "passed"]
abbrev p_let_ticks_go_by : List Str := ["world", "ticks"]
theorem sc_let_ticks_go_by : FnScope n_let_ticks_go_by p_let_ticks_go_by (defScope s_let_ticks_go_by) := ⟨rfl, rfl, rfl, by decide +kernel, rfl, by decide +kernel, by decide +kernel⟩

theorem ok_let_ticks (T : Txt mg) (CC : CT K c) (D : Def K mg "let_ticks_go_by" s_let_ticks_go_by p_let_ticks_go_by) (G_next_play : Has P w K mg base 15 "next_play" p_next_play (sp_next_play c)) (G_make_matches : Has P w K mg base 18 "make_matches" p_make_matches (sp_make_matches c)) :
    Has P w K mg base 19 "let_ticks_go_by" p_let_ticks_go_by (sp_let_ticks c) := by
  refine D.has sc_let_ticks_go_by (fun vs H Q E h => ?_) (fun f cdv A outer sh H vs Q E hr h => ?_)
  · obtain ⟨γ, s, n, rfl, _⟩ := h
    rfl
  · obtain ⟨γ, s, n, rfl, ws, W, un, ap, hn, hnow, k⟩ := h
    refine ⟨_, (pss_cons (ps_set (i := 2) sc_let_ticks_go_by.nd rfl (Or.inl rfl) (pe_lst pa_nil))
 (pss_cons (ps_set (i := 3) sc_let_ticks_go_by.nd rfl (Or.inl rfl) (pe_has G_next_play (hr.mono (by decide)) rfl (pa_cons (pv 0) pa_nil)))
 (pss_cons (ps_for PassesOwn.never rfl (pi_range1 rfl T.range (pa_cons (pv 1) pa_nil)) (pg_name (i := 4) sc_let_ticks_go_by.nd rfl (Or.inl rfl))
  (pss_cons (ps_fldaug (pv 0) pe_int in_add)
 (pss_one (ps_if (PW.pt (pw_and (pt_cmpR op_notN (pv 3) pe_non (nomark _)) (pw_and1 (pt_cmpR op_le (pv 3) (pe_fld (pv 0) rfl) (nomark _)))))
  (pss_cons (ps_expr (pe_bm PySem.F.plainAttrs_list PySem.F.slot_list_extend PySem.F.type_list_extend mt_extend (pv 2) (pa_cons (pe_has G_make_matches (hr.mono (by decide)) rfl (pa_cons (pv 0) pa_nil)) pa_nil)))
 (pss_one (ps_set (i := 3) sc_let_ticks_go_by.nd rfl (Or.inl rfl) (pe_has G_next_play (hr.mono (by decide)) rfl (pa_cons (pv 0) pa_nil))))) pss_nil))))
 (pss_one (ps_ret (pv 2)))))), ?_⟩
    refine q_asgL (el_lst ea_nil (by show 0 ≤ 100000; decide)) fun p H1 hp e1 h1 => ?_
    refine q_asg (v := optV (npOf s)) (ev_callV (vs := [.ref γ.w]) (ea_cons (ev_var rfl) ea_nil) fun H2 e2 Q' q' => ⟨γ, s, rfl, ws.mono (e1.trans e2), W, q'⟩) fun H2 e2 => ?_
    have e12 := e1.trans e2
    let Iv : Nat → State → List Match → (Nat → Addr) → Hp → Prop := fun i t done ma H' => Keeps s t done ∧ WS c H' (gM γ ma) t ∧ Un3 H' (gM γ ma) t ∧ ExB (S3 γ) H H' ∧ H' p = some (.lst (mRefs ma done)) ∧
      t.now = s.now + i ∧ Vbwsap.tickedBy n s = ((Vbwsap.tickedBy (n - i) t).1, done ++ (Vbwsap.tickedBy (n - i) t).2)
    refine q_forR1 (n := (n : Nat)) (ea_cons (ev_var rfl) ea_nil) (by omega) (fun i σ' H' => ∃ t done ma x, Iv i t done ma H' ∧ σ' = [some (.ref γ.w), some (.int (n : Nat)), some (.ref p), some (optV (npOf t)), x]) ?_ ?_ ?_
    · exact fun H3 e3 => ⟨s, [], γ.ma, none, ⟨⟨W, (List.append_nil _).symm, Nat.le_refl _⟩, ws.mono (e12.trans e3), un.mono (e12.trans e3), .of (e12.trans e3), (e2.trans e3) _ _ h1, rfl, rfl⟩, rfl⟩
    · rintro i σ' H' hi ⟨t, done, ma, x, ⟨kp, wst, unt, eb, hp', hnw, hall⟩, rfl⟩
      have hin : i < n := by omega
      have Wt := kp.wf
      have hW1 := Wt.tick (by omega)
      have hsplit : Vbwsap.tickedBy (n - i) t = ((Vbwsap.tickedBy (n - (i + 1)) (Vbwsap.ticked t).1).1, (Vbwsap.ticked t).2 ++ (Vbwsap.tickedBy (n - (i + 1)) (Vbwsap.ticked t).1).2) := by
        have : n - i = (n - (i + 1)) + 1 := by omega
        rw [this]
        rfl
      obtain ⟨dw, hw⟩ := wst.wo
      refine q_fldaug (g := fun i j => i + j) (ev_var rfl) hw CC.W.cl (CC.W.na _ (by decide +kernel)) (worldF_tick ..) ev_c (by show 8 < 1000; decide) fun H3 e3 => ?_
      -- the world a tick on
      have hup : ∀ {o : HO}, ExB (· = γ.w) H' (upd H3 γ.w o) := (ExB.of e3).trans (ExB.upd rfl)
      have hup3 : ∀ {o : HO}, ExB (S3 γ) H' (upd H3 γ.w o) := hup.mono fun b hb => .inl hb
      have nw : ∀ {b : Addr} {kvs : List (Key × V)}, H' b = some (.dK kvs) → b ≠ γ.w := fun h => ne_of h hw (by intro z; cases z)
      have un1 : Un3 (upd H3 γ.w (.ins c.W dw (putF "tick" (.int (((t.now : Nat) : Int) + 1)) (wF (gM γ ma) t)))) (gM γ ma) { t with now := t.now + 1 } := ⟨hup _ _ unt.pd (nw unt.pd), hup _ _ unt.ed (nw unt.ed), hup _ _ unt.md (nw unt.md)⟩
      have ws1 : WS c (upd H3 γ.w (.ins c.W dw (putF "tick" (.int (((t.now : Nat) : Int) + 1)) (wF (gM γ ma) t)))) (gM γ ma) { t with now := t.now + 1 } :=
        ⟨⟨dw, upd_same⟩, wst.ru.off wst unt hup3, .inl un1.pd, .inl un1.ed, .inl un1.md, fun q hq => (wst.ps q hq).off wst unt hup3, fun q hq => (wst.en q hq).off wst unt hup3, fun q hq => (wst.ms q hq).off wst unt hup3⟩
      have hp1 : upd H3 γ.w (.ins c.W dw (putF "tick" (.int (((t.now : Nat) : Int) + 1)) (wF (gM γ ma) t))) p = some (.lst (mRefs ma done)) := hup _ _ hp' (ne_of hp' hw (by intro z; cases z))
      have eb1 : ExB (S3 γ) H (upd H3 γ.w (.ins c.W dw (putF "tick" (.int (((t.now : Nat) : Int) + 1)) (wF (gM γ ma) t)))) := eb.trans hup3
      generalize upd H3 γ.w (.ins c.W dw (putF "tick" (.int (((t.now : Nat) : Int) + 1)) (wF (gM γ ma) t))) = G at *
      obtain ⟨dw2, hw2⟩ := ws1.wo
      have hnp : npOf { t with now := t.now + 1 } = npOf t := rfl
      -- the test
      have htest : EvT (tAnd (tTest (tOp (fun x y H Q => y = V.non ∧ Q (.bl (!decide (x = .non))) H) (tVar 3) (tC .non))) (tTest (tOp (rI0 fun i j => .bl (decide (i ≤ j))) (tVar 3) (tFld K (tVar 0) "tick")))) [some (.ref γ.w), some (.int (n : Nat)), some (.ref p), some (optV (npOf t)), some (.int (i : Nat))] G
          (match npOf t with | none => false | some j => decide (j ≤ ((t.now + 1 : Nat) : Int))) := by
        cases hq : npOf t with
        | none => exact et_and (a := false) (b := true) (et_test (ev_op (ev_var rfl) ev_c (fun H4 _ Q' q' => ⟨rfl, q' H4 (Ex.refl H4)⟩))) (fun z => by cases z)
        | some j => exact et_and (a := true) (et_test (ev_op (ev_var rfl) ev_c (fun H4 _ Q' q' => ⟨rfl, q' H4 (Ex.refl H4)⟩))) (fun _ => et_test (ev_op (ev_var rfl) (ev_W CC (ev_var rfl) hw2 (worldF_tick ..)) rv_I0))
      refine s_when htest (fun hb H4 e4 => ?_) (fun hb H4 e4 => ?_)
      · -- matches are made
        refine ⟨.ref p, rfl, Or.inl ⟨rfl, _, sq_of (e4 _ _ hp1)⟩, .ref γ.w, rfl, ?_⟩
        refine ⟨gM γ ma, { t with now := t.now + 1 }, rfl, ws1.mono e4, hW1, un1.mono e4, ap.gM ma, fun ma2 q H5 ws5 un5 e5 nq hq5 hag => ?_⟩
        have np3 : ¬ S3 γ p := off3 (ws1.mono e4) (un1.mono e4) (e4 _ _ hp1) trivial
        have hp5 : H5 p = some (.lst (mRefs ma done)) := e5 _ _ (e4 _ _ hp1) np3
        obtain ⟨kt, ht⟩ := ticked_keep Wt (by omega)
        have hdn : ∀ m ∈ done, m ∈ t.matches_ := fun m hm => by rw [kp.ms]; exact List.mem_append_right _ hm
        have hmr : mRefs ma done = mRefs ma2 done := by
          unfold mRefs
          apply List.map_congr_left
          intro m hm
          rw [hag m.num (Wt.ml m (hdn m hm)).2.2]
          rfl
        have kall := kp.trans kt
        have hfew := kall.wf.few
        rw [kall.ms, List.length_append] at hfew
        have hl : (mRefs ma done).length + (mRefs ma2 (Vbwsap.ticked t).2).length ≤ 24 := by
          unfold mRefs
          rw [List.length_map, List.length_map]
          rw [List.length_append] at hfew
          omega
        refine ⟨p, q, _, _, rfl, rfl, hp5, hq5, Nat.le_trans hl (by rw [sizeLine_is]; decide), ?_⟩
        have hnot : NotPl c H5 (mRefs ma done) := by
          rw [hmr]
          exact mRefs_not ws5 fun m hm => by
            show m ∈ (Vbwsap.ticked t).1.matches_
            rw [kt.ms]
            exact List.mem_append_left _ (hdn m hm)
        have ws6 := WS.upd (o := .lst (mRefs ma done ++ mRefs ma2 (Vbwsap.ticked t).2)) ws5 kt.wf hp5 hnot
        have un6 := Un3.upd (o := .lst (mRefs ma done ++ mRefs ma2 (Vbwsap.ticked t).2)) un5 hp5
        have eb6 : ExB (S3 γ) H (upd H5 p (.lst (mRefs ma done ++ mRefs ma2 (Vbwsap.ticked t).2))) := fun b o hb hs => by
          rw [upd_ne (fun z => by rw [z, hp] at hb; cases hb)]
          exact e5 _ _ (e4 _ _ (eb1 _ _ hb hs)) hs
        show tAsg (tCall (sp_next_play c) [] E0 (tCons (tVar 0) tNil)) (gName 3) _ [some (.ref γ.w), some (.int (n : Nat)), some (.ref p), some (optV (npOf t)), some (.int (i : Nat))] (upd H5 p (.lst (mRefs ma done ++ mRefs ma2 (Vbwsap.ticked t).2)))
        refine s_asg (v := optV (npOf (Vbwsap.ticked t).1)) (ev_callV (vs := [.ref γ.w]) (ea_cons (ev_var rfl) ea_nil) fun H7 e7 Q' q' => ⟨gM γ ma2, (Vbwsap.ticked t).1, rfl, ws6.mono e7, kt.wf, q'⟩) fun H7 e7 => ?_
        refine ⟨(Vbwsap.ticked t).1, done ++ (Vbwsap.ticked t).2, ma2, _, ⟨kall, ws6.mono e7, un6.mono e7, eb6.trans (.of e7), ?_, by rw [ht]; omega, ?_⟩, rfl⟩
        · have e9 : mRefs ma done ++ mRefs ma2 (Vbwsap.ticked t).2 = mRefs ma2 (done ++ (Vbwsap.ticked t).2) := by
            rw [hmr]
            unfold mRefs
            rw [List.map_append]
          rw [← e9]
          exact e7 _ _ upd_same
        · rw [hall, hsplit]
          simp
      · -- none can be made
        have hno : Vbwsap.firstMatch { t with now := t.now + 1 } = none := by
          cases hq : Vbwsap.firstMatch { t with now := t.now + 1 } with
          | none => rfl
          | some x =>
            obtain ⟨j, h7, h8⟩ := np_spec hW1 hq
            rw [hnp] at h7
            rw [h7] at hb
            have := of_decide_eq_false hb
            exact absurd h8 this
        have htk : Vbwsap.ticked t = ({ t with now := t.now + 1 }, []) := by
          show Vbwsap.matchAll (_ + 1) _ = _
          exact all_none hno _
        refine ⟨{ t with now := t.now + 1 }, done, ma, some (.int (i : Nat)), ⟨⟨hW1, kp.ms, kp.nx⟩, ws1.mono e4, un1.mono e4, eb1.trans (.of e4), e4 _ _ hp1, by show t.now + 1 = _; omega, ?_⟩, rfl⟩
        rw [hall, hsplit, htk]
        rfl
    · rintro σ' H' ⟨t, done, ma, x, ⟨kp, wst, unt, eb, hp', hnw, hall⟩, rfl⟩
      have e9 : n - ((n : Nat) : Int).toNat = 0 := by omega
      rw [e9] at hall
      have hall' : Vbwsap.tickedBy n s = (t, done) := by
        rw [hall]
        show (t, done ++ []) = _
        rw [List.append_nil]
      refine s_ret (ev_var rfl) fun H4 e4 => k ma p H4 ?_ ?_ (eb.trans (.of e4)) hp (e4 _ _ ?_)
      · rw [hall']; exact wst.mono e4
      · rw [hall']; exact unt.mono e4
      · rw [hall']; exact hp'
end
end EM

namespace EM
open PySem PySem.Spec PyProof.Rows L2 Evl
open Vbwsap (Rules Player Match sumOf membersOf gap State)
/-! ### lists of whole numbers, and what is locked, stay -/
def isFr : HO → Prop
  | .frz _ _ => True
  | .lst xs => ∃ ns : List Int, xs = ns.map V.int
  | _ => False
def Frm (H H' : Hp) : Prop := ∀ b o, H b = some o → isFr o → H' b = some o
theorem Frm.of {H H' : Hp} (e : Ex H H') : Frm H H' := fun b o h _ => e b o h
theorem Frm.trans {H H1 H2 : Hp} (a : Frm H H1) (b : Frm H1 H2) : Frm H H2 := fun x o h i => b x o (a x o h i) i
theorem Frm.exB {S : Addr → Prop} {H H' : Hp} (e : ExB S H H') (h : ∀ b, S b → ∀ o, H b = some o → ¬ isFr o) : Frm H H' := fun b o hb i => e b o hb fun z => h b z o hb i
theorem Frm.three {c : Cs} {H H' : Hp} {γ : Gh} {s : State} (ws : WS c H γ s) (un : Un3 H γ s) (e : ExB (S3 γ) H H') : Frm H H' := Frm.exB e fun b hb o ho i => by
  rcases hb with z | z | z | z
  · obtain ⟨dx, q⟩ := ws.wo
    rw [z, q] at ho
    cases ho
    exact i
  · rw [z, un.pd] at ho
    cases ho
    exact i
  · rw [z, un.ed] at ho
    cases ho
    exact i
  · rw [z, un.md] at ho
    cases ho
    exact i
theorem Frm.ins {H H' : Hp} {a C dx : Addr} {fs : List (Str × V)} (h : H a = some (.ins C dx fs)) (e : ExB (· = a) H H') : Frm H H' := Frm.exB e fun b hb o ho i => by
  rw [show b = a from hb, h] at ho
  cases ho
  exact i
theorem Frm.seq {K : PySem.W.Frag} {H H' : Hp} {l : Addr} {ns : List Int} (f : Frm H H') (h : SqL K H l (ns.map V.int)) : SqL K H' l (ns.map V.int) := by
  rcases h with (h | ⟨o, h⟩) | h
  · exact .inl (.inl (f _ _ h ⟨ns, rfl⟩))
  · exact .inl (.inr ⟨o, f _ _ h trivial⟩)
  · exact .inr h
section
variable {P : Program} {w : World} {K : PySem.W.Frag} {mg : Str → Option Value} {base : Heap} {c : Cs}
def sp_no (k : Int) : Sp := fun vs H Q _ => vs = [] ∧ RetL [.int k] H Q
abbrev s_out_of_range : Stmt := top 38
abbrev n_out_of_range : List Str := []
abbrev p_out_of_range : List Str := []
theorem sc_out_of_range : FnScope n_out_of_range p_out_of_range (defScope s_out_of_range) := ⟨rfl, rfl, rfl, by decide +kernel, rfl, by decide +kernel, by decide +kernel⟩

theorem ok_out_of_range (D : Def K mg "out_of_range" s_out_of_range p_out_of_range) : Has P w K mg base 1 "out_of_range" p_out_of_range (sp_no (-1)) := by
  refine D.has sc_out_of_range (fun vs H Q E h => ?_) (fun f cdv A outer sh H vs Q E hr h => ?_)
  · obtain ⟨rfl, _⟩ := h
    rfl
  · obtain ⟨rfl, k⟩ := h
    refine ⟨_, (pss_one (ps_ret (pe_lst (pa_cons (pe_un un_neg pe_int) pa_nil)))), ?_⟩
    exact s_retL (el_lst (ea_cons (ev_un ev_c ru_neg) ea_nil) (by show 1 ≤ 100000; decide)) k
abbrev s_none_of_that_number : Stmt := top 39
abbrev n_none_of_that_number : List Str := []
abbrev p_none_of_that_number : List Str := []
theorem sc_none_of_that_number : FnScope n_none_of_that_number p_none_of_that_number (defScope s_none_of_that_number) := ⟨rfl, rfl, rfl, by decide +kernel, rfl, by decide +kernel, by decide +kernel⟩

theorem ok_none_of_that_number (D : Def K mg "none_of_that_number" s_none_of_that_number p_none_of_that_number) : Has P w K mg base 1 "none_of_that_number" p_none_of_that_number (sp_no (-2)) := by
  refine D.has sc_none_of_that_number (fun vs H Q E h => ?_) (fun f cdv A outer sh H vs Q E hr h => ?_)
  · obtain ⟨rfl, _⟩ := h
    rfl
  · obtain ⟨rfl, k⟩ := h
    refine ⟨_, (pss_one (ps_ret (pe_lst (pa_cons (pe_un un_neg pe_int) pa_nil)))), ?_⟩
    exact s_retL (el_lst (ea_cons (ev_un ev_c ru_neg) ea_nil) (by show 1 ≤ 100000; decide)) k
abbrev s_not_the_time : Stmt := top 40
abbrev n_not_the_time : List Str := []
abbrev p_not_the_time : List Str := []
theorem sc_not_the_time : FnScope n_not_the_time p_not_the_time (defScope s_not_the_time) := ⟨rfl, rfl, rfl, by decide +kernel, rfl, by decide +kernel, by decide +kernel⟩

theorem ok_not_the_time (D : Def K mg "not_the_time" s_not_the_time p_not_the_time) : Has P w K mg base 1 "not_the_time" p_not_the_time (sp_no (-3)) := by
  refine D.has sc_not_the_time (fun vs H Q E h => ?_) (fun f cdv A outer sh H vs Q E hr h => ?_)
  · obtain ⟨rfl, _⟩ := h
    rfl
  · obtain ⟨rfl, k⟩ := h
    refine ⟨_, (pss_one (ps_ret (pe_lst (pa_cons (pe_un un_neg pe_int) pa_nil)))), ?_⟩
    exact s_retL (el_lst (ea_cons (ev_un ev_c ru_neg) ea_nil) (by show 1 ≤ 100000; decide)) k
abbrev s_not_so : Stmt := top 41
abbrev n_not_so : List Str := []
abbrev p_not_so : List Str := []
theorem sc_not_so : FnScope n_not_so p_not_so (defScope s_not_so) := ⟨rfl, rfl, rfl, by decide +kernel, rfl, by decide +kernel, by decide +kernel⟩

theorem ok_not_so (D : Def K mg "not_so" s_not_so p_not_so) : Has P w K mg base 1 "not_so" p_not_so (sp_no (-4)) := by
  refine D.has sc_not_so (fun vs H Q E h => ?_) (fun f cdv A outer sh H vs Q E hr h => ?_)
  · obtain ⟨rfl, _⟩ := h
    rfl
  · obtain ⟨rfl, k⟩ := h
    refine ⟨_, (pss_one (ps_ret (pe_lst (pa_cons (pe_un un_neg pe_int) pa_nil)))), ?_⟩
    exact s_retL (el_lst (ea_cons (ev_un ev_c ru_neg) ea_nil) (by show 1 ≤ 100000; decide)) k
abbrev s_no_place : Stmt := top 42
abbrev n_no_place : List Str := []
abbrev p_no_place : List Str := []
theorem sc_no_place : FnScope n_no_place p_no_place (defScope s_no_place) := ⟨rfl, rfl, rfl, by decide +kernel, rfl, by decide +kernel, by decide +kernel⟩

theorem ok_no_place (D : Def K mg "no_place" s_no_place p_no_place) : Has P w K mg base 1 "no_place" p_no_place (sp_no (-5)) := by
  refine D.has sc_no_place (fun vs H Q E h => ?_) (fun f cdv A outer sh H vs Q E hr h => ?_)
  · obtain ⟨rfl, _⟩ := h
    rfl
  · obtain ⟨rfl, k⟩ := h
    refine ⟨_, (pss_one (ps_ret (pe_lst (pa_cons (pe_un un_neg pe_int) pa_nil)))), ?_⟩
    exact s_retL (el_lst (ea_cons (ev_un ev_c ru_neg) ea_nil) (by show 1 ≤ 100000; decide)) k
def wIn (a b z : Int) : Bool := decide (a ≤ z) && decide (z ≤ b)
theorem wIn_from (a b z : Int) : wIn a b z = Vbwsap.from_ z a b := by
  unfold wIn Vbwsap.from_
  rw [Bool.eq_iff_iff]
  simp
def sp_within : Sp := fun vs H Q _ => ∃ z a b : Int, vs = [.int z, .int a, .int b] ∧ RetV (.bl (wIn a b z)) H Q
abbrev s_within : Stmt := top 73
abbrev n_within : List Str := ["whole", "least", "most"]
abbrev p_within : List Str := ["whole", "least", "most"]
theorem sc_within : FnScope n_within p_within (defScope s_within) := ⟨rfl, rfl, rfl, by decide +kernel, rfl, by decide +kernel, by decide +kernel⟩

theorem ok_within (D : Def K mg "within" s_within p_within) : Has P w K mg base 1 "within" p_within sp_within := by
  refine D.has sc_within (fun vs H Q E h => ?_) (fun f cdv A outer sh H vs Q E hr h => ?_)
  · obtain ⟨z, a, b, rfl, _⟩ := h
    rfl
  · obtain ⟨z, a, b, rfl, k⟩ := h
    refine ⟨_, (pss_one (ps_ret (pe_and (pe_cmpR op_le (pv 1) (pv 0) (nomark _)) (pe_one (pe_cmpR op_le (pv 0) (pv 2) (nomark _)))))), ?_⟩
    exact s_ret (ev_andV (ev_op (ev_var rfl) (ev_var rfl) rv_I0) fun _ => ev_op (ev_var rfl) (ev_var rfl) rv_I0) k
/-- the constants of the calls -/
structure TxtK (mg : Str → Option Value) : Prop extends Txt mg where
  SECOND_WON : ∃ t, mg "SECOND_WON" = some (.int 0 t)
  DRAW : ∃ t, mg "DRAW" = some (.int 1 t)
  FIRST_WON : ∃ t, mg "FIRST_WON" = some (.int 2 t)
  MOST_NUMBER : ∃ t, mg "MOST_NUMBER" = some (.int 999 t)
  MOST_PLAYERS : ∃ t, mg "MOST_PLAYERS" = some (.int 24 t)
  MOST_PARTIES : ∃ t, mg "MOST_PARTIES" = some (.int 12 t)
  MOST_TICKS : ∃ t, mg "MOST_TICKS" = some (.int 50 t)
  MOST_SPLIT : ∃ t, mg "MOST_SPLIT" = some (.int 10 t)
  LAST_TICK : ∃ t, mg "LAST_TICK" = some (.int 1000000 t)
  MILLION : ∃ t, mg "MILLION" = some (.int 1000000 t)
def rulesOk (i1 i2 i3 i4 i5 i6 : Int) : Bool := wIn 1 3 i1 && (wIn 0 10000000 i2 && (wIn 1 1000000 i3 && (wIn 0 1000000 i4 && (wIn 1 10000000 i5 && wIn 0 1000000 i6))))
def sp_are_rules (c : Cs) : Sp := fun vs H Q _ => ∃ (a dx : Addr) (i1 i2 i3 i4 i5 i6 : Int), vs = [.ref a] ∧ H a = some (.ins c.R dx (rulesI i1 i2 i3 i4 i5 i6)) ∧ RetV (.bl (rulesOk i1 i2 i3 i4 i5 i6)) H Q
theorem ev_RI {σ : L2.St} {H : Hp} {ta : TE} {a dx : Addr} {f : Str} {v : V} {i1 i2 i3 i4 i5 i6 : Int} (CC : CT K c) (ha : Ev ta σ H (.ref a)) (h : H a = some (.ins c.R dx (rulesI i1 i2 i3 i4 i5 i6))) (l : (rulesI i1 i2 i3 i4 i5 i6).lookup f = some v) : Ev (tFld K ta f) σ H v := ev_fld (fs := rulesI i1 i2 i3 i4 i5 i6) CC.R ha h l
abbrev s_are_rules : Stmt := top 74
abbrev n_are_rules : List Str := ["rules"]
abbrev p_are_rules : List Str := ["rules"]
theorem sc_are_rules : FnScope n_are_rules p_are_rules (defScope s_are_rules) := ⟨rfl, rfl, rfl, by decide +kernel, rfl, by decide +kernel, by decide +kernel⟩

theorem ok_are_rules (T : TxtK mg) (CC : CT K c) (D : Def K mg "are_rules" s_are_rules p_are_rules) (G_within : Has P w K mg base 1 "within" p_within sp_within) : Has P w K mg base 2 "are_rules" p_are_rules (sp_are_rules c) := by
  refine D.has sc_are_rules (fun vs H Q E h => ?_) (fun f cdv A outer sh H vs Q E hr h => ?_)
  · obtain ⟨a, dx, i1, i2, i3, i4, i5, i6, rfl, _⟩ := h
    rfl
  · obtain ⟨a, dx, i1, i2, i3, i4, i5, i6, rfl, h1, k⟩ := h
    refine ⟨_, (pss_one (ps_ret (pe_and (pe_has G_within (hr.mono (by decide)) rfl (pa_cons (pe_fld (pv 0) rfl) (pa_cons pe_int (pa_cons pe_int pa_nil)))) (pe_and (pe_has G_within (hr.mono (by decide)) rfl (pa_cons (pe_fld (pv 0) rfl) (pa_cons pe_int (pa_cons (pe_const T.TOP rfl) pa_nil)))) (pe_and (pe_has G_within (hr.mono (by decide)) rfl (pa_cons (pe_fld (pv 0) rfl) (pa_cons pe_int (pa_cons (pe_const T.MILLION rfl) pa_nil)))) (pe_and (pe_has G_within (hr.mono (by decide)) rfl (pa_cons (pe_fld (pv 0) rfl) (pa_cons pe_int (pa_cons (pe_const T.MILLION rfl) pa_nil)))) (pe_and (pe_has G_within (hr.mono (by decide)) rfl (pa_cons (pe_fld (pv 0) rfl) (pa_cons pe_int (pa_cons (pe_const T.TOP rfl) pa_nil)))) (pe_one (pe_has G_within (hr.mono (by decide)) rfl (pa_cons (pe_fld (pv 0) rfl) (pa_cons pe_int (pa_cons (pe_const T.MILLION rfl) pa_nil)))))))))))), ?_⟩
    have wi : ∀ {σ' : L2.St} {t1 t2 t3 : TE} {z x y : Int}, Ev t1 σ' H (.int z) → Ev t2 σ' H (.int x) → Ev t3 σ' H (.int y) → Ev (tCall sp_within [] E0 (tCons t1 (tCons t2 (tCons t3 tNil)))) σ' H (.bl (wIn x y z)) := fun {σ' t1 t2 t3 z x y} q1 q2 q3 =>
      ev_callV (vs := [.int z, .int x, .int y]) (ea_cons q1 (ea_cons q2 (ea_cons q3 ea_nil))) fun H1 e1 Q' q' => ⟨z, x, y, rfl, q'⟩
    refine s_ret (ev_andV (wi (ev_RI CC (ev_var rfl) h1 lk_here) ev_c ev_c) fun _ => ev_andV (wi (ev_RI CC (ev_var rfl) h1 ((lk_past (by decide +kernel)).trans lk_here)) ev_c ev_c) fun _ => ev_andV (wi (ev_RI CC (ev_var rfl) h1 ((lk_past (by decide +kernel)).trans ((lk_past (by decide +kernel)).trans lk_here))) ev_c ev_c) fun _ =>
      ev_andV (wi (ev_RI CC (ev_var rfl) h1 ((lk_past (by decide +kernel)).trans ((lk_past (by decide +kernel)).trans ((lk_past (by decide +kernel)).trans lk_here)))) ev_c ev_c) fun _ => ev_andV (wi (ev_RI CC (ev_var rfl) h1 ((lk_past (by decide +kernel)).trans ((lk_past (by decide +kernel)).trans ((lk_past (by decide +kernel)).trans ((lk_past (by decide +kernel)).trans lk_here))))) ev_c ev_c) fun _ =>
      wi (ev_RI CC (ev_var rfl) h1 ((lk_past (by decide +kernel)).trans ((lk_past (by decide +kernel)).trans ((lk_past (by decide +kernel)).trans ((lk_past (by decide +kernel)).trans ((lk_past (by decide +kernel)).trans lk_here)))))) ev_c ev_c) k
end
end EM

namespace EM
open PySem PySem.Spec PyProof.Rows L2 Evl
open Vbwsap (Rules Player Match sumOf membersOf gap State)
/-! ### where a call stands -/
structure Fr (H H' : Hp) : Prop where
  frm : Frm H H'
  dm : ∀ b, H' b = none → H b = none
theorem Fr.of {H H' : Hp} (e : Ex H H') : Fr H H' := ⟨.of e, fun _ h => fresh_back e h⟩
theorem Fr.refl (H : Hp) : Fr H H := .of (Ex.refl H)
theorem Fr.trans {H H1 H2 : Hp} (a : Fr H H1) (b : Fr H1 H2) : Fr H H2 := ⟨a.frm.trans b.frm, fun x h => a.dm x (b.dm x h)⟩
theorem dm_exB {S : Addr → Prop} {H H' : Hp} (e : ExB S H H') (hs : ∀ b, S b → H' b ≠ none) : ∀ b, H' b = none → H b = none := fun b hb => by
  cases q : H b with
  | none => rfl
  | some o =>
    by_cases z : S b
    · exact absurd hb (hs b z)
    · rw [e b o q z] at hb
      cases hb
theorem Fr.ins {H H' : Hp} {a C dx : Addr} {fs : List (Str × V)} {o : HO} (h : H a = some (.ins C dx fs)) (e : ExB (· = a) H H') (h' : H' a = some o) : Fr H H' :=
  ⟨Frm.ins h e, dm_exB e fun b hb => by rw [show b = a from hb, h']; exact fun z => by cases z⟩
theorem Fr.three {c : Cs} {H H' : Hp} {γ γ' : Gh} {s s' : State} (ws : WS c H γ s) (un : Un3 H γ s) (e : ExB (S3 γ) H H') (ws' : WS c H' γ' s') (un' : Un3 H' γ' s') (h1 : γ'.w = γ.w) (h2 : γ'.pd = γ.pd) (h3 : γ'.ed = γ.ed) (h4 : γ'.md = γ.md) : Fr H H' :=
  ⟨Frm.three ws un e, dm_exB e fun b hb z => by
    rcases hb with q | q | q | q
    · obtain ⟨dx, r⟩ := ws'.wo
      rw [h1, ← q, z] at r
      cases r
    · have r := un'.pd
      rw [h2, ← q, z] at r
      cases r
    · have r := un'.ed
      rw [h3, ← q, z] at r
      cases r
    · have r := un'.md
      rw [h4, ← q, z] at r
      cases r⟩
structure At (K : PySem.W.Frag) (c : Cs) (H : Hp) (γ : Gh) (s : State) (rd l : Addr) (i : Nat) (ns : List Int) : Prop where
  ws : WS c H γ s
  W : Wf s
  un : Un3 H γ s
  ap : Apart γ
  rd : ReaderAt c H rd l i
  sq : SqL K H l (ns.map V.int)
section
variable {P : Program} {w : World} {K : PySem.W.Frag} {mg : Str → Option Value} {base : Heap} {c : Cs}
theorem At.mono {H H' : Hp} {γ : Gh} {s : State} {rd l : Addr} {i : Nat} {ns : List Int} (e : Ex H H') (a : At K c H γ s rd l i ns) : At K c H' γ s rd l i ns := ⟨a.ws.mono e, a.W, a.un.mono e, a.ap, a.rd.mono e, ex_l e a.sq⟩
/-- an object of two fields is none of the world's -/
theorem WS.two {H H' : Hp} {γ : Gh} {s : State} {a C dx : Addr} {fs : List (Str × V)} (ws : WS c H γ s) (h : H a = some (.ins C dx fs)) (hf : fs.length = 2) (e : ExB (· = a) H H') : WS c H' γ s := by
  have ne : ∀ {b C' dx' : Addr} {gs : List (Str × V)}, H b = some (.ins C' dx' gs) → gs.length ≠ 2 → H' b = some (.ins C' dx' gs) := fun {b C' dx' gs} hb hg => e _ _ hb fun z => by
    rw [show b = a from z, h] at hb
    cases hb
    exact hg hf
  have nl : ∀ {b : Addr} {xs : List V}, H b = some (.lst xs) → H' b = some (.lst xs) := fun {b xs} hb => e _ _ hb fun z => by
    rw [show b = a from z, h] at hb
    cases hb
  have nr : ∀ {b : Addr} {kvs : List (Key × V)}, Rd H b (.dK kvs) → Rd H' b (.dK kvs) := fun {b kvs} hb => by
    rcases hb with hb | ⟨o, hb⟩
    · exact .inl (e _ _ hb fun z => by rw [show b = a from z, h] at hb; cases hb)
    · exact .inr ⟨o, e _ _ hb fun z => by rw [show b = a from z, h] at hb; cases hb⟩
  refine ⟨?_, ?_, nr ws.pd, nr ws.ed, nr ws.md, fun p hp => ?_, fun p hp => ?_, fun p hp => ?_⟩
  · obtain ⟨d, q⟩ := ws.wo
    exact ⟨d, ne q (by show 8 ≠ 2; decide)⟩
  · obtain ⟨d, q⟩ := ws.ru
    exact ⟨d, ne q (by show 6 ≠ 2; decide)⟩
  · obtain ⟨d, q⟩ := ws.ps p hp
    exact ⟨d, ne q (by show 5 ≠ 2; decide)⟩
  · obtain ⟨d, l, q, q2⟩ := ws.en p hp
    exact ⟨d, l, ne q (by show 3 ≠ 2; decide), nl q2⟩
  · obtain ⟨d, l, l2, q, q2, q3⟩ := ws.ms p hp
    exact ⟨d, l, l2, ne q (by show 3 ≠ 2; decide), nl q2, nl q3⟩
theorem Un3.two {H H' : Hp} {γ : Gh} {s : State} {a C dx : Addr} {fs : List (Str × V)} (un : Un3 H γ s) (h : H a = some (.ins C dx fs)) (e : ExB (· = a) H H') : Un3 H' γ s :=
  ⟨e _ _ un.pd (ne_of un.pd h (by intro z; cases z)), e _ _ un.ed (ne_of un.ed h (by intro z; cases z)), e _ _ un.md (ne_of un.md h (by intro z; cases z))⟩
theorem At.read {H H' : Hp} {γ : Gh} {s : State} {rd l : Addr} {i j : Nat} {ns : List Int} (a : At K c H γ s rd l i ns) (e : ExB (· = rd) H H') (r : ReaderAt c H' rd l j) : At K c H' γ s rd l j ns ∧ Fr H H' := by
  obtain ⟨dx, h⟩ := a.rd
  obtain ⟨dx', h'⟩ := r
  have f := Fr.ins h e h'
  exact ⟨⟨a.ws.two h rfl e, a.W, a.un.two h e, a.ap, ⟨dx', h'⟩, f.frm.seq a.sq⟩, f⟩
/-- x = reader.take_whole() -/
theorem q_take {σ : L2.St} {H : Hp} {D : Ends} {tz : TS} {γ : Gh} {s : State} {rd l : Addr} {i j : Nat} {ns : List Int} {z : Int} (a : At K c H γ s rd l i ns) (hs : σ[1]? = some (some (.ref rd))) (hz : ns[i]? = some z)
    (k : ∀ H1, At K c H1 γ s rd l (i + 1) ns → Fr H H1 → tz D (σ.set j (some (.int z))) H1) : tSeq (tAsg (tMeth c.D "take_whole" (sp_take_whole K c) [] E0 (tVar 1) tNil) (gName j)) tz D σ H := by
  obtain ⟨dx, h⟩ := a.rd
  refine q_asgM0 (ev_var hs) h (readerF_no _ _ (by decide +kernel) (by decide +kernel)) fun H1 e1 => ?_
  have a1 := a.mono e1
  refine ⟨rd, l, i, ns, z, rfl, a1.rd, a1.sq, hz, fun H2 e2 r2 => ?_⟩
  obtain ⟨a2, f2⟩ := a1.read e2 r2
  exact k H2 a2 ((Fr.of e1).trans f2)
/-- x = reader.take_row() -/
theorem q_takeRow {σ : L2.St} {H : Hp} {D : Ends} {tz : TS} {γ : Gh} {s : State} {rd l : Addr} {i j n : Nat} {ns : List Int} (a : At K c H γ s rd l i ns) (hs : σ[1]? = some (some (.ref rd))) (hz : ns[i]? = some ((n : Nat) : Int)) (hn : i + 1 + n ≤ ns.length)
    (k : ∀ p H1, H p = none → At K c H1 γ s rd l (i + 1 + n) ns → Fr H H1 → H1 p = some (.lst (((ns.drop (i + 1)).take n).map V.int)) → tz D (σ.set j (some (.ref p))) H1) : tSeq (tAsg (tMeth c.D "take_row" (sp_take_row K c) [] E0 (tVar 1) tNil) (gName j)) tz D σ H := by
  obtain ⟨dx, h⟩ := a.rd
  refine q_asgM0 (ev_var hs) h (readerF_no _ _ (by decide +kernel) (by decide +kernel)) fun H1 e1 => ?_
  have a1 := a.mono e1
  refine ⟨rd, l, i, n, ns, rfl, a1.rd, a1.sq, hz, hn, fun p H2 hp e2 r2 h2 => ?_⟩
  obtain ⟨a2, f2⟩ := a1.read e2 r2
  exact k p H2 (fresh_back e1 hp) a2 ((Fr.of e1).trans f2) h2
theorem q_asgMk {σ : L2.St} {H : Hp} {D : Ends} {tz : TS} {sp : Sp} {C : Addr} {vs : List V} {ta : TA} {i : Nat} (ha : EvA ta σ H vs) (k : ∀ H1 x dx, Ex H H1 → H1 x = none → H1 dx = none → dx ≠ x → sp (.ref x :: vs) (made H1 x dx C) (fun v H2 => v = .non ∧ tz D (σ.set i (some (.ref x))) H2) E0) :
    tSeq (tAsg (tMake C sp [] E0 ta) (gName i)) tz D σ H := mk_go (Q := fun v H2 => tz D (σ.set i (some v)) H2) ha k
/-- what a call does -/
def Done (K : PySem.W.Frag) (c : Cs) (γ : Gh) (rd l : Addr) (i : Nat) (ns : List Int) (H : Hp) (Q : VK) (x : State × List Int) : Prop := ∀ γ' p H', γ'.w = γ.w → At K c H' γ' x.1 rd l i ns → Fr H H' → H p = none → H' p = some (.lst (x.2.map V.int)) → Q (.ref p) H'
theorem Done.mono {γ : Gh} {rd l : Addr} {i : Nat} {ns : List Int} {H H' : Hp} {Q : VK} {x : State × List Int} (f : Fr H H') (k : Done K c γ rd l i ns H Q x) : Done K c γ rd l i ns H' Q x := fun γ' p H2 hw a f2 hp h => k γ' p H2 hw a (f.trans f2) (f.dm p hp) h
/-- nothing changed, a list answered -/
theorem Done.same {γ : Gh} {s : State} {rd l : Addr} {i : Nat} {ns : List Int} {H H' : Hp} {Q : VK} {xs : List Int} {p : Addr} (a : At K c H γ s rd l i ns) (k : Done K c γ rd l i ns H Q (s, xs)) (hp : H p = none) (e : Ex H H') (h : H' p = some (.lst (xs.map V.int))) : Q (.ref p) H' :=
  k γ p H' rfl (a.mono e) (.of e) hp h
def sp_call (K : PySem.W.Frag) (c : Cs) (take : List Int → Option (Vbwsap.Call × Nat)) : Sp := fun vs H Q _ => ∃ (γ : Gh) (s : State) (rd l : Addr) (i n : Nat) (ns : List Int) (x : Vbwsap.Call), vs = [.ref γ.w, .ref rd] ∧ At K c H γ s rd l i ns ∧ take (ns.drop i) = some (x, n) ∧
  Done K c γ rd l (i + n) ns H Q (Vbwsap.step s x)
/-- return refusal() -/
theorem s_no {σ : L2.St} {H : Hp} {D : Ends} {γ : Gh} {s : State} {rd l : Addr} {i : Nat} {ns : List Int} {Q : VK} {k : Nat} (a : At K c H γ s rd l i ns) (hk : Done K c γ rd l i ns H Q (s, [-(k : Int)])) (hD : D.rt = Q) : tRet (tCall (sp_no (-(k : Int))) [] E0 tNil) D σ H := by
  refine s_retC (vs := []) ea_nil fun H1 e1 => ⟨rfl, fun p H2 hp e2 h => ?_⟩
  rw [hD]
  exact hk.same a (fresh_back e1 hp) (e1.trans e2) h
/-! ### call 0 -/
def tk_begin : List Int → Option (Vbwsap.Call × Nat)
  | k :: b :: st :: f :: r :: fn :: _ => some (.begin_ k b st f r fn, 6)
  | _ => none
theorem rulesOk_iff {k b st f r fn : Int} : rulesOk k b st f r fn = false ↔ (Vbwsap.from_ k 1 3 = false ∨ Vbwsap.from_ b 0 10000000 = false ∨ Vbwsap.from_ st 1 1000000 = false ∨ Vbwsap.from_ f 0 1000000 = false ∨ Vbwsap.from_ r 1 10000000 = false ∨ Vbwsap.from_ fn 0 1000000 = false) := by
  unfold rulesOk
  rw [wIn_from, wIn_from, wIn_from, wIn_from, wIn_from, wIn_from]
  simp only [Bool.and_eq_false_iff]
theorem from_iff {z a b : Int} : Vbwsap.from_ z a b = true ↔ a ≤ z ∧ z ≤ b := by
  unfold Vbwsap.from_
  rw [decide_eq_true_eq]
theorem Wf.start {r : Rules} (h1 : 1 ≤ r.side ∧ r.side ≤ 3) (h2 : r.base ≤ 10000000) (h3 : 1 ≤ r.step ∧ r.step ≤ 1000000) (h4 : r.factor ≤ 1000000) (h5 : 1 ≤ r.range ∧ r.range ≤ 10000000) (h6 : r.fine ≤ 1000000) : Wf { Vbwsap.start with rules := r } :=
  ⟨h1, h2, h3, h4, h5, h6, by simp [Vbwsap.start], by simp [Vbwsap.start], fun p hp => by simp [Vbwsap.start] at hp, by simp [Vbwsap.start], by simp [Vbwsap.start], fun p hp => by simp [Vbwsap.start] at hp, by simp [Vbwsap.start], fun p hp => by simp [Vbwsap.start] at hp, by simp [Vbwsap.start], fun p hp => by simp [Vbwsap.start] at hp, by simp [Vbwsap.start]⟩
abbrev s_call_begin : Stmt := top 75
abbrev n_call_begin : List Str := ["world", "reader", "side", "base", "step", "factor", "reach", "fine", "rules"]
abbrev p_call_begin : List Str := ["world", "reader"]
theorem sc_call_begin : FnScope n_call_begin p_call_begin (defScope s_call_begin) := ⟨rfl, rfl, rfl, by decide +kernel, rfl, by decide +kernel, by decide +kernel⟩

theorem ok_call_begin (T : TxtK mg) (CC : CT K c) (D : Def K mg "call_begin" s_call_begin p_call_begin) (M_take_whole : HasM P w K mg base 1 c.D "take_whole" p_Reader_take_whole (sp_take_whole K c)) (C_Rules : HasC P w K mg base 1 "Rules" c.R p_Rules___init__ (sp_Rules c))
    (G_are_rules : Has P w K mg base 2 "are_rules" p_are_rules (sp_are_rules c)) (G_out_of_range : Has P w K mg base 1 "out_of_range" p_out_of_range (sp_no (-1))) (M_start_over : HasM P w K mg base 1 c.W "start_over" p_World_start_over (sp_start_over c)) :
    Has P w K mg base 3 "call_begin" p_call_begin (sp_call K c tk_begin) := by
  refine D.has sc_call_begin (fun vs H Q E h => ?_) (fun f cdv A outer sh H vs Q E hr h => ?_)
  · obtain ⟨γ, s, rd, l, i, n, ns, x, rfl, _⟩ := h
    rfl
  · obtain ⟨γ, s, rd, l, i, n, ns, x, rfl, a, ht, k⟩ := h
    refine ⟨_, (pss_cons (ps_set (i := 2) sc_call_begin.nd rfl (Or.inl rfl) (pe_hasM0 (pv 1) M_take_whole (hr.mono (by decide))))
 (pss_cons (ps_set (i := 3) sc_call_begin.nd rfl (Or.inl rfl) (pe_hasM0 (pv 1) M_take_whole (hr.mono (by decide))))
 (pss_cons (ps_set (i := 4) sc_call_begin.nd rfl (Or.inl rfl) (pe_hasM0 (pv 1) M_take_whole (hr.mono (by decide))))
 (pss_cons (ps_set (i := 5) sc_call_begin.nd rfl (Or.inl rfl) (pe_hasM0 (pv 1) M_take_whole (hr.mono (by decide))))
 (pss_cons (ps_set (i := 6) sc_call_begin.nd rfl (Or.inl rfl) (pe_hasM0 (pv 1) M_take_whole (hr.mono (by decide))))
 (pss_cons (ps_set (i := 7) sc_call_begin.nd rfl (Or.inl rfl) (pe_hasM0 (pv 1) M_take_whole (hr.mono (by decide))))
 (pss_cons (ps_set (i := 8) sc_call_begin.nd rfl (Or.inl rfl) (pe_hasC C_Rules (hr.mono (by decide)) rfl (pa_cons (pv 2) (pa_cons (pv 3) (pa_cons (pv 4) (pa_cons (pv 5) (pa_cons (pv 6) (pa_cons (pv 7) pa_nil))))))))
 (pss_cons (ps_if (pt_not (pt_val (pe_has G_are_rules (hr.mono (by decide)) rfl (pa_cons (pv 8) pa_nil))))
  (pss_one (ps_ret (pe_has0 G_out_of_range (hr.mono (by decide)) rfl))) pss_nil)
 (pss_cons (ps_expr (pe_hasM (pv 0) M_start_over (hr.mono (by decide)) (pa_cons (pv 8) pa_nil)))
 (pss_one (ps_ret (pe_lst (pa_cons pe_int pa_nil))))))))))))), ?_⟩
    obtain ⟨i1, i2, i3, i4, i5, i6, rest, hd⟩ : ∃ i1 i2 i3 i4 i5 i6 rest, ns.drop i = i1 :: i2 :: i3 :: i4 :: i5 :: i6 :: rest := by
      unfold tk_begin at ht
      split at ht
      · rename_i q
        exact ⟨_, _, _, _, _, _, _, q⟩
      · cases ht
    rw [hd] at ht
    cases ht
    have hg : ∀ j, ns[i + j]? = (i1 :: i2 :: i3 :: i4 :: i5 :: i6 :: rest)[j]? := fun j => by rw [← hd, List.getElem?_drop]
    refine q_take a rfl (hg 0) fun H1 a1 f1 => ?_
    refine q_take a1 rfl (hg 1) fun H2 a2 f2 => ?_
    refine q_take a2 rfl (hg 2) fun H3 a3 f3 => ?_
    refine q_take a3 rfl (hg 3) fun H4 a4 f4 => ?_
    refine q_take a4 rfl (hg 4) fun H5 a5 f5 => ?_
    refine q_take a5 rfl (hg 5) fun H6 a6 f6 => ?_
    have f06 := ((((f1.trans f2).trans f3).trans f4).trans f5).trans f6
    have k6 := k.mono f06
    refine q_asgMk (vs := [.int i1, .int i2, .int i3, .int i4, .int i5, .int i6]) (ea_cons (ev_var rfl) (ea_cons (ev_var rfl) (ea_cons (ev_var rfl) (ea_cons (ev_var rfl) (ea_cons (ev_var rfl) (ea_cons (ev_var rfl) ea_nil)))))) fun H7 y dy e7 ny nd ne => ?_
    refine ⟨H7, y, dy, _, _, _, _, _, _, rfl, made_ex ny nd, ny, made_at, fun H8 e8 h8 => ⟨rfl, ?_⟩⟩
    have a8 := a6.mono (e7.trans e8)
    have k8 := k6.mono (.of (e7.trans e8))
    refine q_when (b := !rulesOk i1 i2 i3 i4 i5 i6) (et_not (et_B (ev_callV (vs := [.ref y]) (ea_cons (ev_var rfl) ea_nil) fun H9 e9 Q' q' => ⟨y, dy, _, _, _, _, _, _, rfl, e9 _ _ h8, q'⟩))) (fun hb H9 e9 => ?_) (fun hb H9 e9 => ?_)
    · have hb' : rulesOk i1 i2 i3 i4 i5 i6 = false := by simpa using hb
      refine s_no (k := 1) (a8.mono e9) ?_ rfl
      have e0 : Vbwsap.step s (.begin_ i1 i2 i3 i4 i5 i6) = (s, [-((1 : Nat) : Int)]) := if_pos (rulesOk_iff.mp hb')
      rw [e0] at k8
      exact k8.mono (.of e9)
    · have hb' : rulesOk i1 i2 i3 i4 i5 i6 = true := by simpa using hb
      have hnot : ¬ (Vbwsap.from_ i1 1 3 = false ∨ Vbwsap.from_ i2 0 10000000 = false ∨ Vbwsap.from_ i3 1 1000000 = false ∨ Vbwsap.from_ i4 0 1000000 = false ∨ Vbwsap.from_ i5 1 10000000 = false ∨ Vbwsap.from_ i6 0 1000000 = false) := fun z => by
        rw [rulesOk_iff.mpr z] at hb'
        cases hb'
      have e0 : Vbwsap.step s (.begin_ i1 i2 i3 i4 i5 i6) = ({ Vbwsap.start with rules := { side := i1.toNat, base := i2.toNat, step := i3.toNat, factor := i4.toNat, range := i5.toNat, fine := i6.toNat } }, [0]) := if_neg hnot
      rw [e0] at k8
      unfold rulesOk at hb'
      simp only [Bool.and_eq_true, wIn_from, from_iff] at hb'
      obtain ⟨⟨r1, r2⟩, ⟨r3, r4⟩, ⟨r5, r6⟩, ⟨r7, r8⟩, ⟨r9, r10⟩, r11, r12⟩ := hb'
      have a9 := a8.mono e9
      have k9 := k8.mono (.of e9)
      have h9 := e9 _ _ h8
      obtain ⟨dw, hw⟩ := a9.ws.wo
      have nyw : y ≠ γ.w := fun z => by
        rw [z, hw] at h9
        have := Option.some.inj h9
        injection this with _ _ h3
        exact absurd (congrArg List.length h3) (by show ¬ (8 = 6); decide)
      have hri : rulesI i1 i2 i3 i4 i5 i6 = rulesF { side := i1.toNat, base := i2.toNat, step := i3.toNat, factor := i4.toNat, range := i5.toNat, fine := i6.toNat } := by
        unfold rulesI rulesF
        rw [Int.toNat_of_nonneg (by omega : 0 ≤ i1), Int.toNat_of_nonneg (by omega : 0 ≤ i2), Int.toNat_of_nonneg (by omega : 0 ≤ i3), Int.toNat_of_nonneg (by omega : 0 ≤ i4), Int.toNat_of_nonneg (by omega : 0 ≤ i5), Int.toNat_of_nonneg (by omega : 0 ≤ i6)]
      refine ⟨.ref γ.w, rfl, γ.w, dw, _, rfl, hw, worldF_no _ _ _ _ _ _ _ _ (by decide +kernel), .ref y, rfl, ?_⟩
      refine ⟨drp H9 γ.w, γ.w, dw, y, _, rfl, drp_ex _ _, drp_self, hw, .inr ⟨_, _, _, _, _, _, _, _, rfl⟩, fun pd ed md H10 n1 n2 n3 d1 d2 d3 e10 q1 q2 q3 q4 => ?_⟩
      have hy : H10 y = some (.ins c.R dy (rulesF { side := i1.toNat, base := i2.toNat, step := i3.toNat, factor := i4.toNat, range := i5.toNat, fine := i6.toNat })) := by
        rw [← hri]
        exact e10 _ _ (drp_at nyw h9)
      obtain ⟨ws, un⟩ := WS.fresh (γ := ⟨γ.w, y, pd, ed, md, fun _ => 0, fun _ => 0, fun _ => 0⟩) q1 hy q2 q3 q4
      have eB : ExB (· = γ.w) H9 H10 := fun b o hb hn => e10 _ _ (drp_at hn hb)
      have f10 : Fr H9 H10 := Fr.ins hw eB q1
      obtain ⟨dr, hrd⟩ := a9.rd
      have nrw : rd ≠ γ.w := fun z => by
        rw [z, hw] at hrd
        have := Option.some.inj hrd
        injection this with _ _ h3
        exact absurd (congrArg List.length h3) (by show ¬ (8 = 2); decide)
      have a10 : At K c H10 ⟨γ.w, y, pd, ed, md, fun _ => 0, fun _ => 0, fun _ => 0⟩ { Vbwsap.start with rules := { side := i1.toNat, base := i2.toNat, step := i3.toNat, factor := i4.toNat, range := i5.toNat, fine := i6.toNat } } rd l (i + 6) ns :=
        ⟨ws, Wf.start (by show 1 ≤ i1.toNat ∧ i1.toNat ≤ 3; omega) (by show i2.toNat ≤ _; omega) (by show 1 ≤ i3.toNat ∧ i3.toNat ≤ _; omega) (by show i4.toNat ≤ _; omega) (by show 1 ≤ i5.toNat ∧ i5.toNat ≤ _; omega) (by show i6.toNat ≤ _; omega), un, ⟨d1, d2, d3⟩, ⟨dr, eB _ _ hrd nrw⟩, f10.frm.seq a9.sq⟩
      refine s_retL (σ := []) (el_lst (ea_cons ev_c ea_nil) (by show 1 ≤ 100000; decide)) fun p H11 hp e11 h11 => ?_
      exact k9 ⟨γ.w, y, pd, ed, md, fun _ => 0, fun _ => 0, fun _ => 0⟩ p H11 rfl (a10.mono e11) (f10.trans (.of e11)) (f10.dm p hp) h11
end
end EM

namespace EM
open PySem PySem.Spec PyProof.Rows L2 Evl
open Vbwsap (Rules Player Match sumOf membersOf gap State)
section
variable {K : PySem.W.Frag} {σ : L2.St} {H : Hp} {D : Ends} {tu tz : TS} {ta tv td ty : TE}
theorem ev_din {d : Addr} {kvs : List (Key × V)} {k : Key} (h1 : Ev ty σ H (kV k)) (h2 : Ev td σ H (.ref d)) (hd : Rd H d (.dK kvs)) : Ev (tDIn ty td) σ H (.bl (valV kvs k).isSome) := fun H1 e Q q =>
  h1 H1 e _ fun H2 e2 => h2 H2 (e.trans e2) _ fun H3 e3 => ⟨d, _, rfl, .inl ⟨kvs, k, ex_rd ((e.trans e2).trans e3) hd, rfl, rfl⟩, q H3 (e2.trans e3)⟩
theorem ev_dnotin {d : Addr} {kvs : List (Key × V)} {k : Key} (h1 : Ev ty σ H (kV k)) (h2 : Ev td σ H (.ref d)) (hd : Rd H d (.dK kvs)) : Ev (tDNotIn ty td) σ H (.bl (!(valV kvs k).isSome)) := fun H1 e Q q =>
  h1 H1 e _ fun H2 e2 => h2 H2 (e.trans e2) _ fun H3 e3 => ⟨d, _, rfl, .inl ⟨kvs, k, ex_rd ((e.trans e2).trans e3) hd, rfl, rfl⟩, q H3 (e2.trans e3)⟩
theorem ev_dget {d : Addr} {kvs : List (Key × V)} {k : Key} {v : V} (h2 : Ev td σ H (.ref d)) (h1 : Ev ty σ H (kV k)) (hd : Rd H d (.dK kvs)) (hv : valV kvs k = some v) : Ev (tDGet td ty) σ H v := fun H1 e Q q =>
  h2 H1 e _ fun H2 e2 => h1 H2 (e.trans e2) _ fun H3 e3 => ⟨d, v, rfl, .inl ⟨kvs, k, ex_rd ((e.trans e2).trans e3) hd, rfl, hv.symm⟩, q H3 (e2.trans e3)⟩
theorem q_putMk {sp : Sp} {C : Addr} {vs : List V} {ta : TA} (ha : EvA ta σ H vs) (k : ∀ H1 x dx, Ex H H1 → H1 x = none → H1 dx = none → dx ≠ x → sp (.ref x :: vs) (made H1 x dx C) (fun v H2 => v = .non ∧ td σ H2 fun x' H3 => ty σ H3 fun y H4 => ∃ a H5, x' = .ref a ∧ DPut H4 a y (.ref x) H5 ∧ tz D σ H5) E0) :
    tSeq (sDPut td ty (tMake C sp [] E0 ta)) tz D σ H := mk_go (Q := fun v H1 => td σ H1 fun x H2 => ty σ H2 fun y H3 => ∃ a H4, x = .ref a ∧ DPut H3 a y v H4 ∧ tz D σ H4) ha k
def rLenD : List V → Hp → VK → Prop := fun xs H Q => ∃ a kvs, xs = [V.ref a] ∧ H a = some (.dK kvs) ∧ Q (.int kvs.length) H
theorem ev_lenD {d : Addr} {kvs : List (Key × V)} (h : Ev td σ H (.ref d)) (hd : H d = some (.dK kvs)) : Ev (tCB rLenD (tCons td tNil)) σ H (.int (kvs.length : Nat)) := fun H1 e Q q =>
  h H1 e _ fun H2 e2 => ⟨d, kvs, rfl, (e.trans e2) _ _ hd, q H2 e2⟩
end
theorem some_any {α : Type} {p : α → Bool} : ∀ {l : List α}, (l.find? p).isSome = l.any p
  | [] => rfl
  | x :: r => by
    rw [List.find?_cons, List.any_cons]
    cases h : p x with
    | true => rfl
    | false => exact some_any
theorem val_some {α : Type} {num : α → Nat} {adr : Nat → Addr} {z : Int} {l : List α} : (valV (kvOf num adr l) (Sum.inl z)).isSome = l.any fun x => ((num x : Nat) : Int) == z := by
  rw [valV_kv, Option.isSome_map, some_any]
section
variable {P : Program} {w : World} {K : PySem.W.Frag} {mg : Str → Option Value} {base : Heap} {c : Cs}
/-- a call whose numbers are read -/
theorem drop_at {ns : List Int} {i : Nat} {xs : List Int} (h : ns.drop i = xs) (j : Nat) : ns[i + j]? = xs[j]? := by
  rw [← h, List.getElem?_drop]
def tk_player : List Int → Option (Vbwsap.Call × Nat)
  | n :: r :: _ => some (.player n r, 2)
  | _ => none
def gPa (γ : Gh) (n : Nat) (a : Addr) : Gh := { γ with pa := fun m => if m = n then a else γ.pa m }
theorem Wf.addPlayer {s : State} (W : Wf s) {n r : Nat} (h1 : 1 ≤ n ∧ n ≤ 999) (h2 : r ≤ Vbwsap.TOP) (h3 : ∀ p ∈ s.players, p.num ≠ n) (h4 : s.players.length < 24) : Wf { s with players := s.players ++ [⟨n, r, 0, 0, 0⟩] } := by
  refine ⟨W.side, W.base, W.step, W.factor, W.range, W.fine, ?_, ?_, fun p hp => ?_, W.en, W.el, W.ew, W.mn, W.ml, W.mem, fun m hm => ?_, W.now⟩
  · show ((s.players ++ [(⟨n, r, 0, 0, 0⟩ : Player)]).map fun (p : Player) => p.num).Nodup
    rw [List.map_append, List.nodup_append]
    refine ⟨W.pn, by simp, fun a ha b hb => ?_⟩
    obtain ⟨p, hp, rfl⟩ := List.mem_map.mp ha
    have hb' : b = n := by simpa using hb
    rw [hb']
    exact h3 p hp
  · show (s.players ++ [_]).length ≤ 24
    rw [List.length_append]
    show _ + 1 ≤ 24
    omega
  · rcases List.mem_append.mp hp with z | z
    · exact W.pr p z
    · have hz : p = ⟨n, r, 0, 0, 0⟩ := by simpa using z
      subst hz
      exact ⟨h2, h1⟩
  · obtain ⟨p, hp, e⟩ := W.inp m hm
    exact ⟨p, List.mem_append_left _ hp, e⟩
/-- what the dict of players alone holds anew: the objects stand -/
theorem lists_of {H H' : Hp} {γ : Gh} {s : State} (ws : WS c H γ s) (un : Un3 H γ s) (e : ExB (S3 γ) H H') : RulesAt c H' γ.r s.rules ∧ (∀ p ∈ s.players, PlayerAt c H' (γ.pa p.num) p) ∧ (∀ e ∈ s.entries, EntryAt c H' γ.pa (γ.ea e.num) e) ∧ ∀ m ∈ s.matches_, MatchAt c H' γ.pa (γ.ma m.num) m :=
  ⟨ws.ru.off ws un e, fun p hp => (ws.ps p hp).off ws un e, fun p hp => (ws.en p hp).off ws un e, fun p hp => (ws.ms p hp).off ws un e⟩
theorem EntryAt.congr {H : Hp} {pa pa' : Nat → Addr} {a : Addr} {e : Ent} (h : EntryAt c H pa a e) (q : ∀ n ∈ e.who, pa' n = pa n) : EntryAt c H pa' a e := by
  obtain ⟨dx, l, h1, h2⟩ := h
  refine ⟨dx, l, h1, ?_⟩
  rw [h2]
  congr 2
  apply List.map_congr_left
  intro n hn
  rw [q n hn]
theorem MatchAt.congr {H : Hp} {pa pa' : Nat → Addr} {a : Addr} {m : Match} (h : MatchAt c H pa a m) (q : ∀ n ∈ m.a ++ m.b, pa' n = pa n) : MatchAt c H pa' a m := by
  obtain ⟨dx, l, l2, h1, h2, h3⟩ := h
  refine ⟨dx, l, l2, h1, ?_, ?_⟩
  · rw [h2]
    congr 2
    apply List.map_congr_left
    intro n hn
    rw [q n (List.mem_append_left _ hn)]
  · rw [h3]
    congr 2
    apply List.map_congr_left
    intro n hn
    rw [q n (List.mem_append_right _ hn)]
abbrev s_call_player : Stmt := top 76
abbrev n_call_player : List Str := ["world", "reader", "number", "rating"]
abbrev p_call_player : List Str := ["world", "reader"]
theorem sc_call_player : FnScope n_call_player p_call_player (defScope s_call_player) := ⟨rfl, rfl, rfl, by decide +kernel, rfl, by decide +kernel, by decide +kernel⟩

theorem ok_call_player (T : TxtK mg) (CC : CT K c) (D : Def K mg "call_player" s_call_player p_call_player) (M_take_whole : HasM P w K mg base 1 c.D "take_whole" p_Reader_take_whole (sp_take_whole K c)) (G_within : Has P w K mg base 1 "within" p_within sp_within)
    (G_out_of_range : Has P w K mg base 1 "out_of_range" p_out_of_range (sp_no (-1))) (G_not_the_time : Has P w K mg base 1 "not_the_time" p_not_the_time (sp_no (-3))) (G_no_place : Has P w K mg base 1 "no_place" p_no_place (sp_no (-5))) (C_Player : HasC P w K mg base 1 "Player" c.P p_Player___init__ (sp_Player c)) :
    Has P w K mg base 3 "call_player" p_call_player (sp_call K c tk_player) := by
  refine D.has sc_call_player (fun vs H Q E h => ?_) (fun f cdv A outer sh H vs Q E hr h => ?_)
  · obtain ⟨γ, s, rd, l, i, n, ns, x, rfl, _⟩ := h
    rfl
  · obtain ⟨γ, s, rd, l, i, n, ns, x, rfl, a, ht, k⟩ := h
    refine ⟨_, (pss_cons (ps_set (i := 2) sc_call_player.nd rfl (Or.inl rfl) (pe_hasM0 (pv 1) M_take_whole (hr.mono (by decide))))
 (pss_cons (ps_set (i := 3) sc_call_player.nd rfl (Or.inl rfl) (pe_hasM0 (pv 1) M_take_whole (hr.mono (by decide))))
 (pss_cons (ps_if (pt_not (PW.pt (pw_and (pt_val (pe_has G_within (hr.mono (by decide)) rfl (pa_cons (pv 2) (pa_cons pe_int (pa_cons (pe_const T.MOST_NUMBER rfl) pa_nil))))) (pw_and1 (pt_val (pe_has G_within (hr.mono (by decide)) rfl (pa_cons (pv 3) (pa_cons pe_int (pa_cons (pe_const T.TOP rfl) pa_nil)))))))))
  (pss_one (ps_ret (pe_has0 G_out_of_range (hr.mono (by decide)) rfl))) pss_nil)
 (pss_cons (ps_if (pt_cmp (pc_din (hu_of hr) (pv 2) (pe_fld (pv 0) rfl)))
  (pss_one (ps_ret (pe_has0 G_not_the_time (hr.mono (by decide)) rfl))) pss_nil)
 (pss_cons (ps_if (pt_cmpR op_ge (pe_callB call_lenD (by rfl) T.len PySem.boot_len (pa_cons (pe_fld (pv 0) rfl) pa_nil)) (pe_const T.MOST_PLAYERS rfl) (nomark _))
  (pss_one (ps_ret (pe_has0 G_no_place (hr.mono (by decide)) rfl))) pss_nil)
 (pss_cons (ps_dput (hu_of hr) (pe_fld (pv 0) rfl) (pv 2) (pe_hasC C_Player (hr.mono (by decide)) rfl (pa_cons (pv 2) (pa_cons (pv 3) pa_nil))) rfl)
 (pss_one (ps_ret (pe_lst (pa_cons pe_int (pa_cons (pe_callB call_lenD (by rfl) T.len PySem.boot_len (pa_cons (pe_fld (pv 0) rfl) pa_nil)) pa_nil))))))))))), ?_⟩
    obtain ⟨i1, i2, rest, hd⟩ : ∃ i1 i2 rest, ns.drop i = i1 :: i2 :: rest := by
      unfold tk_player at ht
      split at ht
      · rename_i q
        exact ⟨_, _, _, q⟩
      · cases ht
    rw [hd] at ht
    cases ht
    refine q_take a rfl (drop_at hd 0) fun H1 a1 f1 => ?_
    refine q_take a1 rfl (drop_at hd 1) fun H2 a2 f2 => ?_
    have k2 := k.mono (f1.trans f2)
    have wi : ∀ {σ' : L2.St} {H' : Hp} {t1 t2 t3 : TE} {z x y : Int}, Ev t1 σ' H' (.int z) → Ev t2 σ' H' (.int x) → Ev t3 σ' H' (.int y) → Ev (tCall sp_within [] E0 (tCons t1 (tCons t2 (tCons t3 tNil)))) σ' H' (.bl (wIn x y z)) := fun {σ' H' t1 t2 t3 z x y} q1 q2 q3 =>
      ev_callV (vs := [.int z, .int x, .int y]) (ea_cons q1 (ea_cons q2 (ea_cons q3 ea_nil))) fun H1 e1 Q' q' => ⟨z, x, y, rfl, q'⟩
    refine q_when (b := !(wIn 1 999 i1 && wIn 0 10000000 i2)) (et_not (et_and (et_B (wi (ev_var rfl) ev_c ev_c)) fun _ => et_B (wi (ev_var rfl) ev_c ev_c))) (fun hb H3 e3 => ?_) (fun hb H3 e3 => ?_)
    · refine s_no (k := 1) (a2.mono e3) ?_ rfl
      have e0 : Vbwsap.step s (.player i1 i2) = (s, [-((1 : Nat) : Int)]) := by
        show (if Vbwsap.from_ i1 1 999 = false ∨ Vbwsap.from_ i2 0 10000000 = false then _ else _) = _
        rw [if_pos]
        · rfl
        · rw [wIn_from, wIn_from] at hb
          cases hq1 : Vbwsap.from_ i1 1 999 <;> cases hq2 : Vbwsap.from_ i2 0 10000000 <;> simp_all
      rw [e0] at k2
      exact k2.mono (.of e3)
    · rw [wIn_from, wIn_from] at hb
      have hb1 : Vbwsap.from_ i1 1 999 = true := by
        cases hq1 : Vbwsap.from_ i1 1 999 <;> simp_all
      have hb2 : Vbwsap.from_ i2 0 10000000 = true := by
        cases hq2 : Vbwsap.from_ i2 0 10000000 <;> simp_all
      have hst : Vbwsap.step s (.player i1 i2) = (if Vbwsap.isPlayer s i1 = true then Vbwsap.no s 3 else if Vbwsap.PLAYERS ≤ s.players.length then Vbwsap.no s 5 else Vbwsap.yes { s with players := s.players ++ [{ num := i1.toNat, rating := i2.toNat, games := 0, wins := 0, left := 0 }] } [(s.players.length : Int) + 1]) := by
        show (if Vbwsap.from_ i1 1 999 = false ∨ Vbwsap.from_ i2 0 10000000 = false then _ else _) = _
        rw [if_neg (by rw [hb1, hb2]; simp)]
      rw [hst] at k2
      have a3 := a2.mono e3
      have k3 := k2.mono (.of e3)
      obtain ⟨dw, hw⟩ := a3.ws.wo
      refine q_when (b := Vbwsap.isPlayer s i1) (et_is (et_B (ev_din (k := Sum.inl i1) (ev_var rfl) (ev_W CC (ev_var rfl) hw (worldF_players ..)) a3.ws.pd)) (by rw [pKv_is, val_some]; rfl)) (fun hbp H4 e4 => ?_) (fun hbp H4 e4 => ?_)
      · rw [if_pos hbp] at k3
        exact s_no (k := 3) (a3.mono e4) (k3.mono (.of e4)) rfl
      · rw [if_neg (by rw [hbp]; exact Bool.false_ne_true)] at k3
        have a4 := a3.mono e4
        have k4 := k3.mono (.of e4)
        refine q_when (b := decide (24 ≤ s.players.length)) (et_is (et_test (ev_op (ev_lenD (ev_W CC (ev_var rfl) (e4 _ _ hw) (worldF_players ..)) a4.un.pd) ev_c rv_I0)) (by unfold pKv; rw [List.length_map]; exact decide_eq_decide.mpr (by omega))) (fun hb5 H5 e5 => ?_) (fun hb5 H5 e5 => ?_)
        · rw [if_pos (show Vbwsap.PLAYERS ≤ s.players.length from of_decide_eq_true hb5)] at k4
          exact s_no (k := 5) (a4.mono e5) (k4.mono (.of e5)) rfl
        · have hlt : ¬ 24 ≤ s.players.length := of_decide_eq_false hb5
          rw [if_neg (show ¬ Vbwsap.PLAYERS ≤ s.players.length from hlt)] at k4
          have a5 := a4.mono e5
          have k5 := k4.mono (.of e5)
          rw [from_iff] at hb1 hb2
          obtain ⟨n1, hn1⟩ : ∃ n1 : Nat, i1 = (n1 : Nat) := ⟨i1.toNat, by omega⟩
          obtain ⟨n2, hn2⟩ : ∃ n2 : Nat, i2 = (n2 : Nat) := ⟨i2.toNat, by omega⟩
          subst hn1 hn2
          have hnew : ∀ p ∈ s.players, p.num ≠ n1 := fun p hp z => by
            have := List.any_eq_false.mp hbp p hp
            rw [z] at this
            simp at this
          -- world.players[number] = Player(number, rating)
          refine q_putMk (vs := [.int (n1 : Nat), .int (n2 : Nat)]) (ea_cons (ev_var rfl) (ea_cons (ev_var rfl) ea_nil)) fun H6 y dy e6 ny nd ne => ?_
          refine ⟨H6, y, dy, n1, n2, rfl, made_ex ny nd, ny, made_at, fun H7 e7 h7 => ⟨rfl, ?_⟩⟩
          have a7 := a5.mono (e6.trans e7)
          have k7 := k5.mono (.of (e6.trans e7))
          obtain ⟨dw7, hw7⟩ := a7.ws.wo
          refine ev_W CC (ev_var rfl) hw7 (worldF_players ..) H7 (Ex.refl _) _ fun H8 e8 => ?_
          refine ev_var (v := .int ((n1 : Nat) : Int)) rfl H8 (Ex.refl _) _ fun H9 e9 => ?_
          have a9 := a7.mono (e8.trans e9)
          have k9 := k7.mono (.of (e8.trans e9))
          have h9 := (e8.trans e9) _ _ h7
          refine ⟨γ.pd, _, rfl, DPut.k (k := Sum.inl ((n1 : Nat) : Int)) a9.un.pd (sz_lt (by unfold pKv; rw [List.length_map]; omega)), ?_⟩
          -- the world with one more
          have hagree : ∀ p ∈ s.players, (gPa γ n1 y).pa p.num = γ.pa p.num := fun p hp => if_neg (hnew p hp)
          have hy : (gPa γ n1 y).pa n1 = y := if_pos rfl
          have hput : putK (pKv γ.pa s.players) (Sum.inl ((n1 : Nat) : Int)) (V.ref y) = pKv (gPa γ n1 y).pa (s.players ++ [⟨n1, n2, 0, 0, 0⟩]) := by
            rw [pKv_is, pKv_is, ← kvOf_congr hagree]
            have z := putK_kv (num := fun (p : Player) => p.num) (adr := (gPa γ n1 y).pa) (y := (⟨n1, n2, 0, 0, 0⟩ : Player)) (l := s.players) hnew
            rw [← z]
            show putK _ (Sum.inl ((n1 : Nat) : Int)) (V.ref y) = putK _ (Sum.inl ((n1 : Nat) : Int)) (V.ref ((gPa γ n1 y).pa n1))
            rw [hy]
          rw [hput]
          have hold : ∀ m : Nat, (∃ p ∈ s.players, p.num = m) → (gPa γ n1 y).pa m = γ.pa m := fun m ⟨p, hp, e⟩ => by rw [← e]; exact hagree p hp
          have eB : ExB (· = γ.pd) H9 (upd H9 γ.pd (.dK (pKv (gPa γ n1 y).pa (s.players ++ [⟨n1, n2, 0, 0, 0⟩])))) := ExB.upd rfl
          have e3B := eB.mono (S' := S3 γ) fun b hb => .inr (.inl hb)
          obtain ⟨lr, lp, le, lm⟩ := lists_of a9.ws a9.un e3B
          obtain ⟨dw9, hw9⟩ := a9.ws.wo
          have hpd : upd H9 γ.pd (.dK (pKv (gPa γ n1 y).pa (s.players ++ [⟨n1, n2, 0, 0, 0⟩]))) γ.pd = some (.dK (pKv (gPa γ n1 y).pa (s.players ++ [⟨n1, n2, 0, 0, 0⟩]))) := upd_same
          have hed := eB _ _ a9.un.ed a9.ap.pe.symm
          have hmd := eB _ _ a9.un.md a9.ap.pm.symm
          have hw10 := eB _ _ hw9 (ne_of hw9 a9.un.pd (by intro z; cases z))
          have hy10 := eB _ _ h9 (ne_of h9 a9.un.pd (by intro z; cases z))
          obtain ⟨dr, hrd⟩ := a9.rd
          have hrd10 := eB _ _ hrd (ne_of hrd a9.un.pd (by intro z; cases z))
          generalize upd H9 γ.pd (.dK (pKv (gPa γ n1 y).pa (s.players ++ [⟨n1, n2, 0, 0, 0⟩]))) = G at *
          have un10 : Un3 G (gPa γ n1 y) { s with players := s.players ++ [⟨n1, n2, 0, 0, 0⟩] } := ⟨hpd, hed, hmd⟩
          have ws10 : WS c G (gPa γ n1 y) { s with players := s.players ++ [⟨n1, n2, 0, 0, 0⟩] } := by
            refine ⟨⟨dw9, hw10⟩, lr, .inl hpd, .inl hed, .inl hmd, fun p hp => ?_, fun e he => (le e he).congr fun m hm => hold m (a9.W.who he hm), fun e he => (lm e he).congr fun m hm => hold m (a9.W.mat he hm)⟩
            rcases List.mem_append.mp hp with z | z
            · rw [hagree p z]
              exact lp p z
            · have hz : p = ⟨n1, n2, 0, 0, 0⟩ := by simpa using z
              subst hz
              show PlayerAt c G ((gPa γ n1 y).pa n1) _
              rw [hy]
              exact ⟨dy, hy10⟩
          have f10 : Fr H9 G := Fr.three a9.ws a9.un e3B ws10 un10 rfl rfl rfl rfl
          have hW10 : Wf { s with players := s.players ++ [⟨n1, n2, 0, 0, 0⟩] } := a9.W.addPlayer (by omega) (by show n2 ≤ 10000000; omega) hnew (by omega)
          have a10 : At K c G (gPa γ n1 y) { s with players := s.players ++ [⟨n1, n2, 0, 0, 0⟩] } rd l (i + 2) ns := ⟨ws10, hW10, un10, ⟨a9.ap.pe, a9.ap.pm, a9.ap.em⟩, ⟨dr, hrd10⟩, f10.frm.seq a9.sq⟩
          have hret : EvL (tLst (tCons (tC (.int 0)) (tCons (tCB rLenD (tCons (tFld K (tVar 0) "players") tNil)) tNil))) [some (.ref γ.w), some (.ref rd), some (.int ((n1 : Nat) : Int)), some (.int ((n2 : Nat) : Int))] G ([0, (s.players.length : Int) + 1].map V.int) := by
            refine el_lst (ea_cons ev_c (ea_cons (ev_is (ev_lenD (ev_W CC (ev_var rfl) hw10 (worldF_players ..)) hpd) ?_) ea_nil)) (by show 2 ≤ 100000; decide)
            unfold pKv
            rw [List.length_map, List.length_append]
            rfl
          refine s_retL hret fun p H11 hp e11 h11 => ?_
          exact k9 (gPa γ n1 y) p H11 rfl (a10.mono e11) (f10.trans (.of e11)) (f10.dm p hp) h11
end
end EM

namespace EM
open PySem PySem.Spec PyProof.Rows L2 Evl
open Vbwsap (Rules Player Match sumOf membersOf gap State)
section
variable {P : Program} {w : World} {K : PySem.W.Frag} {mg : Str → Option Value} {base : Heap} {c : Cs}
theorem ev_within {σ' : L2.St} {H' : Hp} {t1 t2 t3 : TE} {z x y : Int} (q1 : Ev t1 σ' H' (.int z)) (q2 : Ev t2 σ' H' (.int x)) (q3 : Ev t3 σ' H' (.int y)) : Ev (tCall sp_within [] E0 (tCons t1 (tCons t2 (tCons t3 tNil)))) σ' H' (.bl (wIn x y z)) :=
  ev_callV (vs := [.int z, .int x, .int y]) (ea_cons q1 (ea_cons q2 (ea_cons q3 ea_nil))) fun H1 e1 Q' q' => ⟨z, x, y, rfl, q'⟩
theorem Wf.without {s : State} (W : Wf s) {x : Ent} (hx : x ∈ s.entries) : Wf (Vbwsap.without s [x]) := by
  have hp := stay_perm (g := [x]) W.en (fun e he => by rw [List.mem_singleton.mp he]; exact hx) (by simp)
  have h1 := hp.flatMap_right (fun e => e.who)
  rw [List.flatMap_append] at h1
  have hsub : ((stay s.entries [x]).flatMap (fun e => e.who) ++ s.matches_.flatMap (fun m => m.a ++ m.b)).Sublist ((stay s.entries [x]).flatMap (fun e => e.who) ++ [x].flatMap (fun e => e.who) ++ s.matches_.flatMap (fun m => m.a ++ m.b)) := List.Sublist.append (List.sublist_append_left _ _) (List.Sublist.refl _)
  have hperm := (h1.append_right (s.matches_.flatMap (fun m => m.a ++ m.b)))
  refine ⟨W.side, W.base, W.step, W.factor, W.range, W.fine, W.pn, W.pl, W.pr, nodup_sub List.filter_sublist W.en, Nat.le_trans (List.length_filter_le _ _) W.el, fun e he => W.ew e (List.mem_filter.mp he).1, W.mn, W.ml, List.Nodup.sublist hsub (hperm.nodup_iff.mp W.mem), fun n hn => W.inp n (hperm.mem_iff.mpr (hsub.subset hn)), W.now⟩
def tk_unqueue : List Int → Option (Vbwsap.Call × Nat)
  | e :: _ => some (.unqueue e, 1)
  | _ => none
abbrev s_call_unqueue : Stmt := top 79
abbrev n_call_unqueue : List Str := ["world", "reader", "number"]
abbrev p_call_unqueue : List Str := ["world", "reader"]
theorem sc_call_unqueue : FnScope n_call_unqueue p_call_unqueue (defScope s_call_unqueue) := ⟨rfl, rfl, rfl, by decide +kernel, rfl, by decide +kernel, by decide +kernel⟩

theorem ok_call_unqueue (T : TxtK mg) (CC : CT K c) (D : Def K mg "call_unqueue" s_call_unqueue p_call_unqueue) (M_take_whole : HasM P w K mg base 1 c.D "take_whole" p_Reader_take_whole (sp_take_whole K c)) (G_none_of_that_number : Has P w K mg base 1 "none_of_that_number" p_none_of_that_number (sp_no (-2))) :
    Has P w K mg base 2 "call_unqueue" p_call_unqueue (sp_call K c tk_unqueue) := by
  refine D.has sc_call_unqueue (fun vs H Q E h => ?_) (fun f cdv A outer sh H vs Q E hr h => ?_)
  · obtain ⟨γ, s, rd, l, i, n, ns, x, rfl, _⟩ := h
    rfl
  · obtain ⟨γ, s, rd, l, i, n, ns, x, rfl, a, ht, k⟩ := h
    refine ⟨_, (pss_cons (ps_set (i := 2) sc_call_unqueue.nd rfl (Or.inl rfl) (pe_hasM0 (pv 1) M_take_whole (hr.mono (by decide))))
 (pss_cons (ps_if (pt_cmp (pc_dnotin (hu_of hr) (pv 2) (pe_fld (pv 0) rfl)))
  (pss_one (ps_ret (pe_has0 G_none_of_that_number (hr.mono (by decide)) rfl))) pss_nil)
 (pss_cons (ps_expr (pe_dpop1 (pe_fld (pv 0) rfl) (pv 2) ⟨rfl, rfl, rfl, rfl⟩))
 (pss_one (ps_ret (pe_lst (pa_cons pe_int pa_nil))))))), ?_⟩
    obtain ⟨i1, rest, hd⟩ : ∃ i1 rest, ns.drop i = i1 :: rest := by
      unfold tk_unqueue at ht
      split at ht
      · rename_i q
        exact ⟨_, _, q⟩
      · cases ht
    rw [hd] at ht
    cases ht
    refine q_take a rfl (drop_at hd 0) fun H1 a1 f1 => ?_
    have k1 := k.mono f1
    obtain ⟨dw, hw⟩ := a1.ws.wo
    have hval : valV (eKv γ.ea s.entries) (Sum.inl i1) = (Vbwsap.entryOf s i1).map fun x => V.ref (γ.ea x.num) := by
      rw [eKv_is, valV_kv]
      rfl
    refine q_when (b := !(Vbwsap.entryOf s i1).isSome) (et_is (et_B (ev_dnotin (k := Sum.inl i1) (ev_var rfl) (ev_W CC (ev_var rfl) hw (worldF_parties ..)) a1.ws.ed)) (by rw [hval, Option.isSome_map])) (fun hb H2 e2 => ?_) (fun hb H2 e2 => ?_)
    · have hn : Vbwsap.entryOf s i1 = none := by
        cases hq : Vbwsap.entryOf s i1 with
        | none => rfl
        | some y => rw [hq] at hb; cases hb
      have e0 : Vbwsap.step s (.unqueue i1) = (s, [-((2 : Nat) : Int)]) := by
        show (match Vbwsap.entryOf s i1 with | none => Vbwsap.no s 2 | some x => Vbwsap.yes (Vbwsap.without s [x]) []) = _
        rw [hn]
        rfl
      rw [e0] at k1
      exact s_no (k := 2) (a1.mono e2) (k1.mono (.of e2)) rfl
    · cases hq : Vbwsap.entryOf s i1 with
      | none => rw [hq] at hb; cases hb
      | some y =>
        have e0 : Vbwsap.step s (.unqueue i1) = (Vbwsap.without s [y], [0]) := by
          show (match Vbwsap.entryOf s i1 with | none => Vbwsap.no s 2 | some x => Vbwsap.yes (Vbwsap.without s [x]) []) = _
          rw [hq]
          rfl
        rw [e0] at k1
        have a2 := a1.mono e2
        have k2 := k1.mono (.of e2)
        have hy : y ∈ s.entries := List.mem_of_find?_eq_some hq
        have hyn : ((y.num : Nat) : Int) = i1 := by
          have h0 := List.find?_some (p := fun (x : Ent) => ((x.num : Nat) : Int) == i1) hq
          exact beq_iff_eq.mp h0
        refine q_pop (k := Sum.inl i1) (v := .ref (γ.ea y.num)) (ev_W CC (ev_var rfl) (e2 _ _ hw) (worldF_parties ..)) (ev_var rfl) a2.un.ed (by rw [hval, hq]; rfl) fun H3 e3 => ?_
        have a3 := a2.mono e3
        have k3 := k2.mono (.of e3)
        have hdrop : dropK (eKv γ.ea s.entries) (Sum.inl i1 : Key) = eKv γ.ea (stay s.entries [y]) := by
          rw [eKv_is, dropK_kv, ← hyn]
          have := stay_snoc s.entries [] y
          rw [List.nil_append] at this
          rw [← this]
          have e9 : stay s.entries [] = s.entries := List.filter_eq_self.mpr (fun _ _ => rfl)
          rw [e9]
          rfl
        rw [hdrop]
        have eB : ExB (· = γ.ed) H3 (upd H3 γ.ed (.dK (eKv γ.ea (stay s.entries [y])))) := ExB.upd rfl
        have e3B := eB.mono (S' := S3 γ) fun b hb => .inr (.inr (.inl hb))
        obtain ⟨lr, lp, le, lm⟩ := lists_of a3.ws a3.un e3B
        obtain ⟨dw3, hw3⟩ := a3.ws.wo
        have hed : upd H3 γ.ed (.dK (eKv γ.ea (stay s.entries [y]))) γ.ed = some (.dK (eKv γ.ea (stay s.entries [y]))) := upd_same
        have hpd := eB _ _ a3.un.pd a3.ap.pe
        have hmd := eB _ _ a3.un.md a3.ap.em.symm
        have hw4 := eB _ _ hw3 (ne_of hw3 a3.un.ed (by intro z; cases z))
        obtain ⟨dr, hrd⟩ := a3.rd
        have hrd4 := eB _ _ hrd (ne_of hrd a3.un.ed (by intro z; cases z))
        generalize upd H3 γ.ed (.dK (eKv γ.ea (stay s.entries [y]))) = G at *
        have un4 : Un3 G γ (Vbwsap.without s [y]) := ⟨hpd, hed, hmd⟩
        have ws4 : WS c G γ (Vbwsap.without s [y]) := ⟨⟨dw3, hw4⟩, lr, .inl hpd, .inl hed, .inl hmd, lp, fun e he => le e (List.mem_filter.mp he).1, lm⟩
        have f4 : Fr H3 G := Fr.three a3.ws a3.un e3B ws4 un4 rfl rfl rfl rfl
        have a4 : At K c G γ (Vbwsap.without s [y]) rd l (i + 1) ns := ⟨ws4, a3.W.without hy, un4, a3.ap, ⟨dr, hrd4⟩, f4.frm.seq a3.sq⟩
        refine s_retL (el_lst (ea_cons ev_c ea_nil) (by show 1 ≤ 100000; decide)) fun p H5 hp e5 h5 => ?_
        exact k3 γ p H5 rfl (a4.mono e5) (f4.trans (.of e5)) (f4.dm p hp) h5
def tk_tick : List Int → Option (Vbwsap.Call × Nat)
  | k :: _ => some (.tick k, 1)
  | _ => none
theorem ints_map (l : List Nat) : (Vbwsap.ints l).map V.int = l.map fun m => V.int ((m : Nat) : Int) := by
  unfold Vbwsap.ints
  rw [List.map_map]
  rfl
/-! ### matches shown -/
theorem match_len {s : State} (W : Wf s) {m : Match} (hm : m ∈ s.matches_) : (Vbwsap.matchRow m).length ≤ 7 := by
  have h2 := W.ml m hm
  have h3 := W.side.2
  unfold Vbwsap.matchRow Vbwsap.ints
  rw [List.length_cons, List.length_map, List.length_append]
  omega
def sp_shown_matches (K : PySem.W.Frag) (c : Cs) : Sp := fun vs H Q _ => ∃ (γ : Gh) (s : State) (l : Addr) (ms : List Match), vs = [.ref l] ∧ WS c H γ s ∧ Wf s ∧ (∀ m ∈ ms, m ∈ s.matches_) ∧ ms.length ≤ 24 ∧ SqL K H l (mRefs γ.ma ms) ∧ RetL ((ms.flatMap Vbwsap.matchRow).map V.int) H Q
abbrev s_shown_matches : Stmt := top 80
abbrev n_shown_matches : List Str := ["games", "shown", "game"]
abbrev p_shown_matches : List Str := ["games"]
theorem sc_shown_matches : FnScope n_shown_matches p_shown_matches (defScope s_shown_matches) := ⟨rfl, rfl, rfl, by decide +kernel, rfl, by decide +kernel, by decide +kernel⟩

theorem ok_shown_matches (T : TxtK mg) (CC : CT K c) (D : Def K mg "shown_matches" s_shown_matches p_shown_matches) (G_numbers_of : Has P w K mg base 1 "numbers_of" p_numbers_of (sp_numbers_of K c)) : Has P w K mg base 2 "shown_matches" p_shown_matches (sp_shown_matches K c) := by
  refine D.has sc_shown_matches (fun vs H Q E h => ?_) (fun f cdv A outer sh H vs Q E hr h => ?_)
  · obtain ⟨γ, s, l, ms, rfl, _⟩ := h
    rfl
  · obtain ⟨γ, s, l, ms, rfl, ws, W, hin, hfw, hl, k⟩ := h
    refine ⟨_, (pss_cons (ps_set (i := 1) sc_shown_matches.nd rfl (Or.inl rfl) (pe_lst pa_nil))
 (pss_cons (ps_for PassesOwn.never rfl (pi_list (pv 0)) (pg_name (i := 2) sc_shown_matches.nd rfl (Or.inl rfl))
  (pss_cons (ps_expr (pe_bm PySem.F.plainAttrs_list PySem.F.slot_list_append PySem.F.type_list_append mt_append (pv 1) (pa_cons (pe_fld (pv 2) rfl) pa_nil)))
 (pss_one (ps_expr (pe_bm PySem.F.plainAttrs_list PySem.F.slot_list_extend PySem.F.type_list_extend mt_extend (pv 1) (pa_cons (pe_has G_numbers_of (hr.mono (by decide)) rfl (pa_cons (pe_op op_cat (pe_fld (pv 2) rfl) (pe_fld (pv 2) rfl)) pa_nil)) pa_nil))))))
 (pss_one (ps_ret (pv 1))))), ?_⟩
    have few : ∀ i, ((ms.take i).flatMap Vbwsap.matchRow).length ≤ 24 * 7 := fun i => by
      have h1 := flatMap_len (f := Vbwsap.matchRow) (n := 7) (l := ms.take i) (fun m hm => match_len W (hin m (List.mem_of_mem_take hm)))
      have h3 : (ms.take i).length ≤ 24 := by
        rw [List.length_take]
        omega
      omega
    refine q_asgL (xs := ([] : List Int).map V.int) (el_lst ea_nil (by show 0 ≤ 100000; decide)) fun q H6 hq e6 h6 => ?_
    refine q_forB (Hb := H) (l := ms) (fun m => V.ref (γ.ma m.num)) e6 (ev_var rfl) hl (fun j σ' H' => Ex H H' ∧ H' q = some (.lst (((ms.take j).flatMap Vbwsap.matchRow).map V.int)) ∧ ∃ x, σ' = [some (.ref l), some (.ref q), x]) (fun H7 e7 => ⟨e6.trans e7, e7 _ _ h6, none, rfl⟩) (fun j σ' H' pv => pv.1) ?_ ?_
    · rintro j m σ' H7 hj ⟨e7, h7, x, rfl⟩
      have hm := hin m (List.mem_of_getElem? hj)
      obtain ⟨dm, l1, l2, q1, q2, q3⟩ := ws.ms m hm
      have hf1 := few j
      have hml := W.ml m hm
      have hsd := W.side.2
      refine q_app h7 (ev_var rfl) (ev_M CC (ev_var rfl) (e7 _ _ q1) (matchF_number ..)) (by rw [List.length_map]; omega) fun H8 e8 => ?_
      have e58 : Ex H (upd H8 q (.lst ((((ms.take j).flatMap Vbwsap.matchRow).map V.int) ++ [.int (m.num : Nat)]))) := Ex.mut (e7.trans e8) hq
      refine s_extL (zs := (m.a ++ m.b).map fun n => V.int ((n : Nat) : Int)) upd_same (ev_var rfl) ?_ (by rw [List.length_append, List.length_map, List.length_map, List.length_append]; show _ + 1 + _ ≤ _; omega) fun H9 e9 => ⟨Ex.mut (e58.trans e9) hq, ?_, some (.ref (γ.ma m.num)), rfl⟩
      · have hcat := el_cat (ev_M CC (ev_var (σ := [some (.ref l), some (.ref q), some (.ref (γ.ma m.num))]) (i := 2) rfl) (e58 _ _ q1) (matchF_first ..)) (ev_M CC (ev_var (i := 2) rfl) (e58 _ _ q1) (matchF_second ..)) (e58 _ _ q2) (e58 _ _ q3) (by rw [List.length_map, List.length_map]; omega)
        rw [← List.map_append] at hcat
        intro H10 e10 Q' q'
        refine hcat H10 e10 _ fun lc H11 hlc e11 h11 => ?_
        have e511 := (e58.trans e10).trans e11
        refine ⟨lc, γ.pa, plOf s, m.a ++ m.b, rfl, sq_of h11, (ws.pls W (fun n hn => W.mat hm hn)).mono e511, by rw [List.length_append]; omega, ?_⟩
        have e0 : ((m.a ++ m.b).map fun n => V.int (((plOf s n).num : Nat) : Int)) = (m.a ++ m.b).map fun n => V.int ((n : Nat) : Int) := by
          apply List.map_congr_left
          intro n hn
          rw [plOf_num W (W.mat hm hn)]
        rw [e0]
        exact fun r H12 hr e12 h12 => q' r H12 (fresh_back e11 hr) (e11.trans e12) h12
      · rw [upd_same, take_more hj, List.flatMap_append, List.flatMap_cons, List.flatMap_nil, List.append_nil]
        unfold Vbwsap.matchRow
        simp only [List.map_cons, List.map_append, ints_map, List.cons_append, List.append_assoc]
        rfl
    · rintro σ' H7 ⟨e7, h7, x, rfl⟩
      rw [List.take_length] at h7
      exact s_ret (ev_var rfl) fun H8 e8 => k q H8 hq (e7.trans e8) (e8 _ _ h7)
abbrev s_call_tick : Stmt := top 81
abbrev n_call_tick : List Str := ["world", "reader", "ticks", "made"]
abbrev p_call_tick : List Str := ["world", "reader"]
theorem sc_call_tick : FnScope n_call_tick p_call_tick (defScope s_call_tick) := ⟨rfl, rfl, rfl, by decide +kernel, rfl, by decide +kernel, by decide +kernel⟩

theorem ok_call_tick (T : TxtK mg) (CC : CT K c) (D : Def K mg "call_tick" s_call_tick p_call_tick) (M_take_whole : HasM P w K mg base 1 c.D "take_whole" p_Reader_take_whole (sp_take_whole K c)) (G_within : Has P w K mg base 1 "within" p_within sp_within)
    (G_out_of_range : Has P w K mg base 1 "out_of_range" p_out_of_range (sp_no (-1))) (G_no_place : Has P w K mg base 1 "no_place" p_no_place (sp_no (-5))) (G_let_ticks_go_by : Has P w K mg base 19 "let_ticks_go_by" p_let_ticks_go_by (sp_let_ticks c)) (G_shown_matches : Has P w K mg base 2 "shown_matches" p_shown_matches (sp_shown_matches K c)) :
    Has P w K mg base 20 "call_tick" p_call_tick (sp_call K c tk_tick) := by
  refine D.has sc_call_tick (fun vs H Q E h => ?_) (fun f cdv A outer sh H vs Q E hr h => ?_)
  · obtain ⟨γ, s, rd, l, i, n, ns, x, rfl, _⟩ := h
    rfl
  · obtain ⟨γ, s, rd, l, i, n, ns, x, rfl, a, ht, k⟩ := h
    refine ⟨_, (pss_cons (ps_set (i := 2) sc_call_tick.nd rfl (Or.inl rfl) (pe_hasM0 (pv 1) M_take_whole (hr.mono (by decide))))
 (pss_cons (ps_if (pt_not (pt_val (pe_has G_within (hr.mono (by decide)) rfl (pa_cons (pv 2) (pa_cons pe_int (pa_cons (pe_const T.MOST_TICKS rfl) pa_nil))))))
  (pss_one (ps_ret (pe_has0 G_out_of_range (hr.mono (by decide)) rfl))) pss_nil)
 (pss_cons (ps_if (pt_cmpR op_gt (pe_op op_add (pe_fld (pv 0) rfl) (pv 2)) (pe_const T.LAST_TICK rfl) (nomark _))
  (pss_one (ps_ret (pe_has0 G_no_place (hr.mono (by decide)) rfl))) pss_nil)
 (pss_cons (ps_set (i := 3) sc_call_tick.nd rfl (Or.inl rfl) (pe_has G_let_ticks_go_by (hr.mono (by decide)) rfl (pa_cons (pv 0) (pa_cons (pv 2) pa_nil))))
 (pss_one (ps_ret (pe_op op_cat (pe_lst (pa_cons pe_int (pa_cons (pe_fld (pv 0) rfl) pa_nil))) (pe_has G_shown_matches (hr.mono (by decide)) rfl (pa_cons (pv 3) pa_nil))))))))), ?_⟩
    obtain ⟨i1, rest, hd⟩ : ∃ i1 rest, ns.drop i = i1 :: rest := by
      unfold tk_tick at ht
      split at ht
      · rename_i q
        exact ⟨_, _, q⟩
      · cases ht
    rw [hd] at ht
    cases ht
    refine q_take a rfl (drop_at hd 0) fun H1 a1 f1 => ?_
    have k1 := k.mono f1
    refine q_when (b := !wIn 1 50 i1) (et_not (et_B (ev_within (ev_var rfl) ev_c ev_c))) (fun hb H2 e2 => ?_) (fun hb H2 e2 => ?_)
    · have hf : Vbwsap.from_ i1 1 50 = false := by rw [wIn_from] at hb; simpa using hb
      have e0 : Vbwsap.step s (.tick i1) = (s, [-((1 : Nat) : Int)]) := if_pos hf
      rw [e0] at k1
      exact s_no (k := 1) (a1.mono e2) (k1.mono (.of e2)) rfl
    · have hf : Vbwsap.from_ i1 1 50 = true := by rw [wIn_from] at hb; simpa using hb
      have e0 : Vbwsap.step s (.tick i1) = (if Vbwsap.LASTTICK < (s.now : Int) + i1 then Vbwsap.no s 5 else Vbwsap.yes (Vbwsap.tickedBy i1.toNat s).1 (((Vbwsap.tickedBy i1.toNat s).1.now : Int) :: (Vbwsap.tickedBy i1.toNat s).2.flatMap Vbwsap.matchRow)) := if_neg (by rw [hf]; exact Bool.noConfusion)
      rw [e0] at k1
      have a2 := a1.mono e2
      have k2 := k1.mono (.of e2)
      obtain ⟨dw, hw⟩ := a2.ws.wo
      refine q_when (b := decide ((1000000 : Int) < (s.now : Nat) + i1)) (et_test (ev_op (ev_op (ev_W CC (ev_var rfl) hw (worldF_tick ..)) (ev_var rfl) rv_I0) ev_c rv_I0)) (fun hb3 H3 e3 => ?_) (fun hb3 H3 e3 => ?_)
      · rw [if_pos (show Vbwsap.LASTTICK < (s.now : Int) + i1 from of_decide_eq_true hb3)] at k2
        exact s_no (k := 5) (a2.mono e3) (k2.mono (.of e3)) rfl
      · have hlt := of_decide_eq_false hb3
        rw [if_neg (show ¬ Vbwsap.LASTTICK < (s.now : Int) + i1 from hlt)] at k2
        rw [from_iff] at hf
        obtain ⟨n1, hn1⟩ : ∃ n1 : Nat, i1 = (n1 : Nat) := ⟨i1.toNat, by omega⟩
        subst hn1
        have ht : (((n1 : Nat) : Int)).toNat = n1 := Int.toNat_natCast n1
        rw [ht] at k2
        have a3 := a2.mono e3
        have k3 := k2.mono (.of e3)
        refine q_asgC (vs := [.ref γ.w, .int (n1 : Nat)]) (ea_cons (ev_var rfl) (ea_cons (ev_var rfl) ea_nil)) fun H4 e4 => ?_
        have a4 := a3.mono e4
        have k4 := k3.mono (.of e4)
        refine ⟨γ, s, n1, rfl, a4.ws, a4.W, a4.un, a4.ap, by omega, by omega, fun ma p H5 ws5 un5 e5 np hp => ?_⟩
        obtain ⟨kp, hnow⟩ := tickedBy_keep n1 a4.W (by omega)
        have f5 : Fr H4 H5 := Fr.three a4.ws a4.un e5 ws5 un5 rfl rfl rfl rfl
        obtain ⟨dr, hrd⟩ := a4.rd
        have hrd5 := e5 _ _ hrd (off3 a4.ws a4.un hrd (by show 2 ≠ 8; decide))
        have a5 : At K c H5 (gM γ ma) (Vbwsap.tickedBy n1 s).1 rd l (i + 1) ns := ⟨ws5, kp.wf, un5, a4.ap.gM ma, ⟨dr, hrd5⟩, f5.frm.seq a4.sq⟩
        have k5 := k4.mono f5
        obtain ⟨dw5, hw5⟩ := ws5.wo
        generalize hT : Vbwsap.tickedBy n1 s = T1 at *
        have hms : ∀ m ∈ T1.2, m ∈ T1.1.matches_ := fun m hm => by rw [kp.ms]; exact List.mem_append_right _ hm
        have hfew : T1.2.length ≤ 24 := by
          have h2 := kp.wf.few
          rw [kp.ms, List.length_append] at h2
          omega
        have hcat := el_catLL (σ := [some (.ref γ.w), some (.ref rd), some (.int (n1 : Nat)), some (.ref p)]) (el_lst (ea_cons (ev_c (v := .int 0)) (ea_cons (ev_W CC (ev_var (i := 0) rfl) hw5 (worldF_tick ..)) ea_nil)) (by show 2 ≤ 100000; decide))
          (el_callL (sp := sp_shown_matches K c) (xs := (T1.2.flatMap Vbwsap.matchRow).map V.int) (vs := [.ref p]) (ea_cons (ev_var (i := 3) rfl) ea_nil) fun H7 e7 Q' q' => ⟨gM γ ma, T1.1, p, T1.2, rfl, ws5.mono e7, kp.wf, hms, hfew, sq_of (e7 _ _ hp), q'⟩)
          (by
            have h1 := flatMap_len (f := Vbwsap.matchRow) (n := 7) (l := T1.2) (fun m hm => match_len kp.wf (hms m hm))
            rw [List.length_map]
            show 2 + _ ≤ _
            omega)
        refine s_retL hcat fun q H7 hq e7 h7 => ?_
        exact k5 (gM γ ma) q H7 rfl (a5.mono e7) (.of e7) hq h7
end
end EM

namespace EM
open PySem PySem.Spec PyProof.Rows L2 Evl
open Vbwsap (Rules Player Match sumOf membersOf gap State)
def minI (i j : Int) : Int := if j < i then j else i
theorem exB_one {H G : Hp} {a : Addr} {o : HO} (e : ExB (· = a) H G) : ExB (· = a) H (upd G a o) := e.trans (ExB.upd rfl)
theorem ExB.ex {S : Addr → Prop} {H G G' : Hp} (e : ExB S H G) (e2 : Ex G G') : ExB S H G' := e.trans (.of e2)
theorem nu2 (a b : Int) : nuMin2 (.int a) (.int b) = some (.int (minI a b)) := by
  show some (if decide (b < a) = true then V.int b else V.int a) = some (V.int (if b < a then b else a))
  by_cases h : b < a
  · rw [if_pos (decide_eq_true h), if_pos h]
  · rw [if_neg (by simpa using h), if_neg h]
theorem nu3 (a b d : Int) : nuMin3 (.int a) (.int b) (.int d) = some (.int (minI (minI a b) d)) := by
  unfold nuMin3
  rw [nu2]
  exact nu2 _ _
theorem playerF_putR {p : Player} {i : Int} (h : 0 ≤ i) : putF "rating" (.int i) (playerF p) = playerF { p with rating := i.toNat } := by
  have e : ((i.toNat : Nat) : Int) = i := Int.toNat_of_nonneg h
  unfold playerF
  rw [pf_past (by decide +kernel), pf_here]
  simp only [e]
theorem playerF_putG {p : Player} : putF "games" (.int ((p.games : Nat) + 1)) (playerF p) = playerF { p with games := p.games + 1 } := by
  unfold playerF
  rw [pf_past (by decide +kernel), pf_past (by decide +kernel), pf_here]
  rfl
theorem playerF_putW {p : Player} : putF "wins" (.int ((p.wins : Nat) + 1)) (playerF p) = playerF { p with wins := p.wins + 1 } := by
  unfold playerF
  rw [pf_past (by decide +kernel), pf_past (by decide +kernel), pf_past (by decide +kernel), pf_here]
  rfl
theorem playerF_putL {p : Player} : putF "leaves" (.int ((p.left : Nat) + 1)) (playerF p) = playerF { p with left := p.left + 1 } := by
  unfold playerF
  rw [pf_past (by decide +kernel), pf_past (by decide +kernel), pf_past (by decide +kernel), pf_past (by decide +kernel), pf_here]
  rfl
section
variable {P : Program} {w : World} {K : PySem.W.Frag} {mg : Str → Option Value} {base : Heap} {c : Cs}
def RB (r : Rules) : Prop := 1 ≤ r.side ∧ r.side ≤ 3 ∧ r.factor ≤ 1000000 ∧ 1 ≤ r.range ∧ r.range ≤ 10000000
theorem Wf.rb {s : State} (W : Wf s) : RB s.rules := ⟨W.side.1, W.side.2, W.factor, W.range.1, W.range.2⟩
def farI (r : Rules) : Int := ((r.range : Nat) : Int) * ((r.side : Nat) : Int)
theorem farI_b {r : Rules} (h : RB r) : 1 ≤ farI r ∧ farI r ≤ 30000000 := by
  obtain ⟨h1, h2, h3, h4, h5⟩ := h
  unfold farI
  constructor
  · have := Int.mul_le_mul (a := 1) (b := 1) (c := ((r.range : Nat) : Int)) (d := ((r.side : Nat) : Int)) (by omega) (by omega) (by omega) (by omega)
    omega
  · have := Int.mul_le_mul (a := ((r.range : Nat) : Int)) (b := ((r.side : Nat) : Int)) (c := 10000000) (d := 3) (by omega) (by omega) (by omega) (by omega)
    omega
def sp_far_of (c : Cs) : Sp := fun vs H Q _ => ∃ (a : Addr) (r : Rules), vs = [.ref a] ∧ RulesAt c H a r ∧ RB r ∧ RetV (.int (farI r)) H Q
abbrev s_far_of : Stmt := top 47
abbrev n_far_of : List Str := ["rules"]
abbrev p_far_of : List Str := ["rules"]
theorem sc_far_of : FnScope n_far_of p_far_of (defScope s_far_of) := ⟨rfl, rfl, rfl, by decide +kernel, rfl, by decide +kernel, by decide +kernel⟩

theorem ok_far_of (CC : CT K c) (D : Def K mg "far_of" s_far_of p_far_of) : Has P w K mg base 1 "far_of" p_far_of (sp_far_of c) := by
  refine D.has sc_far_of (fun vs H Q E h => ?_) (fun f cdv A outer sh H vs Q E hr h => ?_)
  · obtain ⟨a, r, rfl, _⟩ := h
    rfl
  · obtain ⟨a, r, rfl, ⟨dr, h1⟩, hb, k⟩ := h
    refine ⟨_, (pss_one (ps_ret (pe_op op_mul (pe_fld (pv 0) rfl) (pe_fld (pv 0) rfl)))), ?_⟩
    exact s_ret (ev_op (ev_R CC (ev_var rfl) h1 (rulesF_reach _)) (ev_R CC (ev_var rfl) h1 (rulesF_side _)) (rv_I (Or.inl (by obtain ⟨_, _, _, _, _⟩ := hb; omega)))) k
def exI (r : Rules) (xs ys : List Int) : Int := farI r + maxI (-farI r) (minI (farI r) (xs.sum - ys.sum))
def sp_expected (K : PySem.W.Frag) (c : Cs) : Sp := fun vs H Q _ => ∃ (a l1 l2 : Addr) (r : Rules) (xs ys : List Int), vs = [.ref a, .ref l1, .ref l2] ∧ RulesAt c H a r ∧ RB r ∧ SqL K H l1 (xs.map V.int) ∧ SqL K H l2 (ys.map V.int) ∧ RetV (.int (exI r xs ys)) H Q
def rMin2 : List V → Hp → VK → Prop := fun xs H Q => ∃ i j, xs = [.int i, .int j] ∧ Q (.int (if j < i then j else i)) H
theorem ev_min2 {σ : L2.St} {H : Hp} {ta tb : TE} {i j : Int} (ha : Ev ta σ H (.int i)) (hb : Ev tb σ H (.int j)) : Ev (tCB rMin2 (tCons ta (tCons tb tNil))) σ H (.int (minI i j)) := fun H1 e Q q =>
  ha H1 e _ fun H2 e2 => hb H2 (e.trans e2) _ fun H3 e3 => ⟨i, j, rfl, q H3 (e2.trans e3)⟩
theorem ev_min3 {σ : L2.St} {H : Hp} {ta tb td : TE} {i j m : Int} (ha : Ev ta σ H (.int i)) (hb : Ev tb σ H (.int j)) (hd : Ev td σ H (.int m)) : Ev (tCB (rNuC3 nuMin3) (tCons ta (tCons tb (tCons td tNil)))) σ H (.int (minI (minI i j) m)) := fun H1 e Q q =>
  ha H1 e _ fun H2 e2 => hb H2 (e.trans e2) _ fun H3 e3 => hd H3 ((e.trans e2).trans e3) _ fun H4 e4 => ⟨_, _, _, _, rfl, nu3 i j m, q H4 ((e2.trans e3).trans e4)⟩
abbrev s_expected : Stmt := top 48
abbrev n_expected : List Str := ["rules", "first", "second", "far", "apart"]
abbrev p_expected : List Str := ["rules", "first", "second"]
theorem sc_expected : FnScope n_expected p_expected (defScope s_expected) := ⟨rfl, rfl, rfl, by decide +kernel, rfl, by decide +kernel, by decide +kernel⟩

theorem ok_expected (T : TxtK mg) (CC : CT K c) (D : Def K mg "expected" s_expected p_expected) (G_far_of : Has P w K mg base 1 "far_of" p_far_of (sp_far_of c)) : Has P w K mg base 2 "expected" p_expected (sp_expected K c) := by
  refine D.has sc_expected (fun vs H Q E h => ?_) (fun f cdv A outer sh H vs Q E hr h => ?_)
  · obtain ⟨a, l1, l2, r, xs, ys, rfl, _⟩ := h
    rfl
  · obtain ⟨a, l1, l2, r, xs, ys, rfl, ru, hb, s1, s2, k⟩ := h
    refine ⟨_, (pss_cons (ps_set (i := 3) sc_expected.nd rfl (Or.inl rfl) (pe_has G_far_of (hr.mono (by decide)) rfl (pa_cons (pv 0) pa_nil)))
 (pss_cons (ps_set (i := 4) sc_expected.nd rfl (Or.inl rfl) (pe_op op_sub (pe_callB (cr_sum rfl) (by rfl) T.sum (by decide +kernel) (pa_cons (pv 1) pa_nil)) (pe_callB (cr_sum rfl) (by rfl) T.sum (by decide +kernel) (pa_cons (pv 2) pa_nil))))
 (pss_one (ps_ret (pe_op op_add (pv 3) (pe_callB (call_max2 rfl) (by rfl) T.max (by decide +kernel) (pa_cons (pe_un un_neg (pv 3)) (pa_cons (pe_callB (call_min2 rfl) (by rfl) T.min (by decide +kernel) (pa_cons (pv 3) (pa_cons (pv 4) pa_nil))) pa_nil)))))))), ?_⟩
    refine q_asg (v := .int (farI r)) (ev_callV (vs := [.ref a]) (ea_cons (ev_var rfl) ea_nil) fun H1 e1 Q' q' => ⟨a, r, rfl, ru.mono e1, hb, q'⟩) fun H1 e1 => ?_
    refine q_asg (ev_op (ev_sumA (ev_var rfl) (ex_l e1 s1)) (ev_sumA (ev_var rfl) (ex_l e1 s2)) rv_I0) fun H2 e2 => ?_
    exact s_ret (ev_op (ev_var rfl) (ev_max2 (ev_un (ev_var rfl) ru_neg) (ev_min2 (ev_var rfl) (ev_var rfl))) rv_I0) fun H3 e3 => k H3 ((e1.trans e2).trans e3)
def frI (r : Rules) (xs ys : List Int) (came : Int) : Int := (((r.factor : Nat) : Int) * (came * farI r - exI r xs ys) + farI r).fdiv (2 * farI r)
def sp_free_move (K : PySem.W.Frag) (c : Cs) : Sp := fun vs H Q _ => ∃ (a l1 l2 : Addr) (r : Rules) (xs ys : List Int) (came : Int), vs = [.ref a, .ref l1, .ref l2, .int came] ∧ RulesAt c H a r ∧ RB r ∧ SqL K H l1 (xs.map V.int) ∧ SqL K H l2 (ys.map V.int) ∧ 0 ≤ came ∧ came ≤ 2 ∧ RetV (.int (frI r xs ys came)) H Q
abbrev s_free_move : Stmt := top 49
abbrev n_free_move : List Str := ["rules", "first", "second", "came", "far", "share"]
abbrev p_free_move : List Str := ["rules", "first", "second", "came"]
theorem sc_free_move : FnScope n_free_move p_free_move (defScope s_free_move) := ⟨rfl, rfl, rfl, by decide +kernel, rfl, by decide +kernel, by decide +kernel⟩

theorem ok_free_move (T : TxtK mg) (CC : CT K c) (D : Def K mg "free_move" s_free_move p_free_move) (G_far_of : Has P w K mg base 1 "far_of" p_far_of (sp_far_of c)) (G_expected : Has P w K mg base 2 "expected" p_expected (sp_expected K c)) : Has P w K mg base 3 "free_move" p_free_move (sp_free_move K c) := by
  refine D.has sc_free_move (fun vs H Q E h => ?_) (fun f cdv A outer sh H vs Q E hr h => ?_)
  · obtain ⟨a, l1, l2, r, xs, ys, came, rfl, _⟩ := h
    rfl
  · obtain ⟨a, l1, l2, r, xs, ys, came, rfl, ru, hb, s1, s2, c1, c2, k⟩ := h
    refine ⟨_, (pss_cons (ps_set (i := 4) sc_free_move.nd rfl (Or.inl rfl) (pe_has G_far_of (hr.mono (by decide)) rfl (pa_cons (pv 0) pa_nil)))
 (pss_cons (ps_set (i := 5) sc_free_move.nd rfl (Or.inl rfl) (pe_op op_mul (pe_fld (pv 0) rfl) (pe_op op_sub (pe_op op_mul (pv 3) (pv 4)) (pe_has G_expected (hr.mono (by decide)) rfl (pa_cons (pv 0) (pa_cons (pv 1) (pa_cons (pv 2) pa_nil)))))))
 (pss_one (ps_ret (pe_op op_fdivN (pe_op op_add (pv 5) (pv 4)) (pe_op op_mul pe_int (pv 4))))))), ?_⟩
    have hfar := farI_b hb
    refine q_asg (v := .int (farI r)) (ev_callV (vs := [.ref a]) (ea_cons (ev_var rfl) ea_nil) fun H1 e1 Q' q' => ⟨a, r, rfl, ru.mono e1, hb, q'⟩) fun H1 e1 => ?_
    obtain ⟨dr, h1⟩ := ru.mono e1
    refine q_asg (ev_op (ev_R CC (ev_var rfl) h1 (rulesF_factor _)) (ev_op (ev_op (ev_var rfl) (ev_var rfl) (rv_I (Or.inl (by omega)))) (ev_callV (z := .int (exI r xs ys)) (vs := [.ref a, .ref l1, .ref l2]) (ea_cons (ev_var rfl) (ea_cons (ev_var rfl) (ea_cons (ev_var rfl) ea_nil))) fun H2 e2 Q' q' => ⟨a, l1, l2, r, xs, ys, rfl, ru.mono (e1.trans e2), hb, ex_l (e1.trans e2) s1, ex_l (e1.trans e2) s2, q'⟩) rv_I0) (rv_I (Or.inl (by obtain ⟨_, _, _, _, _⟩ := hb; omega)))) fun H2 e2 => ?_
    exact s_ret (ev_op (ev_op (ev_var rfl) (ev_var rfl) rv_I0) (ev_op ev_c (ev_var rfl) (rv_I (Or.inl (by decide)))) (rv_I ⟨by omega, by omega⟩)) fun H3 e3 => k H3 ((e1.trans e2).trans e3)
def hmI (m mn1 mx1 mn2 mx2 : Int) : Int := if 0 < m then minI (minI m mn2) (10000000 - mx1) else -minI (minI (-m) mn1) (10000000 - mx2)
def sp_held_move (K : PySem.W.Frag) (c : Cs) : Sp := fun vs H Q _ => ∃ (a l1 l2 : Addr) (r : Rules) (xs ys : List Int) (came mn1 mx1 mn2 mx2 : Int), vs = [.ref a, .ref l1, .ref l2, .int came] ∧ RulesAt c H a r ∧ RB r ∧ SqL K H l1 (xs.map V.int) ∧ SqL K H l2 (ys.map V.int) ∧ 0 ≤ came ∧ came ≤ 2 ∧
  IsMin mn1 xs ∧ IsMax mx1 xs ∧ IsMin mn2 ys ∧ IsMax mx2 ys ∧ RetV (.int (hmI (frI r xs ys came) mn1 mx1 mn2 mx2)) H Q
abbrev s_held_move : Stmt := top 53
abbrev n_held_move : List Str := ["rules", "first", "second", "came", "moved"]
abbrev p_held_move : List Str := ["rules", "first", "second", "came"]
theorem sc_held_move : FnScope n_held_move p_held_move (defScope s_held_move) := ⟨rfl, rfl, rfl, by decide +kernel, rfl, by decide +kernel, by decide +kernel⟩

theorem ok_held_move (T : TxtK mg) (CC : CT K c) (D : Def K mg "held_move" s_held_move p_held_move) (G_free_move : Has P w K mg base 3 "free_move" p_free_move (sp_free_move K c)) : Has P w K mg base 4 "held_move" p_held_move (sp_held_move K c) := by
  refine D.has sc_held_move (fun vs H Q E h => ?_) (fun f cdv A outer sh H vs Q E hr h => ?_)
  · obtain ⟨a, l1, l2, r, xs, ys, came, mn1, mx1, mn2, mx2, rfl, _⟩ := h
    rfl
  · obtain ⟨a, l1, l2, r, xs, ys, came, mn1, mx1, mn2, mx2, rfl, ru, hb, s1, s2, c1, c2, m1, m2, m3, m4, k⟩ := h
    refine ⟨_, (pss_cons (ps_set (i := 4) sc_held_move.nd rfl (Or.inl rfl) (pe_has G_free_move (hr.mono (by decide)) rfl (pa_cons (pv 0) (pa_cons (pv 1) (pa_cons (pv 2) (pa_cons (pv 3) pa_nil))))))
 (pss_cons (ps_if (pt_cmpR op_gt (pv 4) pe_int (nomark _))
  (pss_one (ps_ret (pe_callB (call_min3Nu rfl) (by rfl) T.min (by decide +kernel) (pa_cons (pv 4) (pa_cons (pe_callB (cr_min rfl) (by rfl) T.min (by decide +kernel) (pa_cons (pv 2) pa_nil)) (pa_cons (pe_op op_sub (pe_const T.TOP rfl) (pe_callB (cr_max rfl) (by rfl) T.max (by decide +kernel) (pa_cons (pv 1) pa_nil))) pa_nil)))))) pss_nil)
 (pss_one (ps_ret (pe_un un_neg (pe_callB (call_min3Nu rfl) (by rfl) T.min (by decide +kernel) (pa_cons (pe_un un_neg (pv 4)) (pa_cons (pe_callB (cr_min rfl) (by rfl) T.min (by decide +kernel) (pa_cons (pv 1) pa_nil)) (pa_cons (pe_op op_sub (pe_const T.TOP rfl) (pe_callB (cr_max rfl) (by rfl) T.max (by decide +kernel) (pa_cons (pv 2) pa_nil))) pa_nil))))))))), ?_⟩
    refine q_asg (v := .int (frI r xs ys came)) (ev_callV (vs := [.ref a, .ref l1, .ref l2, .int came]) (ea_cons (ev_var rfl) (ea_cons (ev_var rfl) (ea_cons (ev_var rfl) (ea_cons (ev_var rfl) ea_nil)))) fun H1 e1 Q' q' => ⟨a, l1, l2, r, xs, ys, came, rfl, ru.mono e1, hb, ex_l e1 s1, ex_l e1 s2, c1, c2, q'⟩) fun H1 e1 => ?_
    refine q_when (b := decide (0 < frI r xs ys came)) (et_test (ev_op (ev_var rfl) ev_c rv_I0)) (fun hb2 H2 e2 => ?_) (fun hb2 H2 e2 => ?_)
    · refine s_ret (ev_min3 (ev_var rfl) (ev_minA (ev_var rfl) (ex_l (e1.trans e2) s2) m3) (ev_op ev_c (ev_maxA (ev_var rfl) (ex_l (e1.trans e2) s1) m2) rv_I0)) fun H3 e3 => ?_
      have z := k H3 ((e1.trans e2).trans e3)
      unfold hmI at z
      rw [if_pos (of_decide_eq_true hb2)] at z
      exact z
    · refine s_ret (ev_un (ev_min3 (ev_un (ev_var rfl) ru_neg) (ev_minA (ev_var rfl) (ex_l (e1.trans e2) s1) m1) (ev_op ev_c (ev_maxA (ev_var rfl) (ex_l (e1.trans e2) s2) m4) rv_I0)) ru_neg) fun H3 e3 => ?_
      have z := k H3 ((e1.trans e2).trans e3)
      unfold hmI at z
      rw [if_neg (of_decide_eq_false hb2)] at z
      exact z
/-! ### play_out -/
def upP (d : Int) (won : Bool) (p : Player) : Player := { p with rating := (((p.rating : Nat) : Int) + d).toNat, games := p.games + 1, wins := if won = true then p.wins + 1 else p.wins }
def sp_play_out (K : PySem.W.Frag) (c : Cs) : Sp := fun vs H Q _ => ∃ (l : Addr) (pa : Nat → Addr) (pl : Nat → Player) (who : List Nat) (d : Int) (won : Bool), vs = [.ref l, .int d, .bl won] ∧ H l = some (.lst (pRefs pa who)) ∧ Pls c H pa pl who ∧ who.Nodup ∧ (∀ n ∈ who, (pl n).num = n ∧ 0 ≤ ((pl n).rating : Int) + d) ∧
  ∀ H', ExB (fun b => ∃ n ∈ who, b = pa n) H H' → Pls c H' pa (fun n => upP d won (pl n)) who → Q .non H'
abbrev s_play_out : Stmt := top 54
abbrev n_play_out : List Str := ["players", "moved", "won", "player"]
abbrev p_play_out : List Str := ["players", "moved", "won"]
theorem sc_play_out : FnScope n_play_out p_play_out (defScope s_play_out) := ⟨rfl, rfl, rfl, by decide +kernel, rfl, by decide +kernel, by decide +kernel⟩

theorem ok_play_out (T : TxtK mg) (CC : CT K c) (D : Def K mg "play_out" s_play_out p_play_out) : Has P w K mg base 1 "play_out" p_play_out (sp_play_out K c) := by
  refine D.has sc_play_out (fun vs H Q E h => ?_) (fun f cdv A outer sh H vs Q E hr h => ?_)
  · obtain ⟨l, pa, pl, who, d, won, rfl, _⟩ := h
    rfl
  · obtain ⟨l, pa, pl, who, d, won, rfl, hl, hp, nd, hn, k⟩ := h
    refine ⟨_, (pss_one (ps_for PassesOwn.never rfl (pi_list (pv 0)) (pg_name (i := 3) sc_play_out.nd rfl (Or.inl rfl))
  (pss_cons (ps_fldaug (pv 3) (pv 1) in_add)
 (pss_cons (ps_fldaug (pv 3) pe_int in_add)
 (pss_one (ps_if (pt_val (pv 2))
  (pss_one (ps_fldaug (pv 3) pe_int in_add)) pss_nil)))))), ?_⟩
    have inj : ∀ n ∈ who, ∀ m ∈ who, pa n = pa m → n = m := fun n hn' m hm' e => by
      obtain ⟨d1, q1⟩ := hp n hn'
      obtain ⟨d2, q2⟩ := hp m hm'
      rw [e, q2] at q1
      have := Option.some.inj q1
      injection this with _ _ h3
      have h4 : (V.int ((pl m).num : Nat)) = V.int ((pl n).num : Nat) := by
        unfold playerF at h3
        injection h3 with h5 _
        injection h5
      injection h4 with h6
      rw [(hn m hm').1, (hn n hn').1] at h6
      omega
    have nl : ∀ n ∈ who, l ≠ pa n := fun n hn' z => by
      obtain ⟨d1, q1⟩ := hp n hn'
      rw [← z, hl] at q1
      cases q1
    refine s_forLn (xs := pRefs pa who) (ev_var rfl) (sq_of hl) (fun i σ' H' => ExB (fun b => ∃ n ∈ who.take i, b = pa n) H H' ∧ (∀ n ∈ who.take i, PlayerAt c H' (pa n) (upP d won (pl n))) ∧ ∃ x, σ' = [some (.ref l), some (.int d), some (.bl won), x]) (fun H1 e1 => ⟨.of e1, fun n hn' => by simp at hn', none, rfl⟩) (fun i σ' H' _ pv => sq_of (pv.1 _ _ hl fun ⟨n, h1, h2⟩ => nl n (List.mem_of_mem_take h1) h2)) ?_ ?_
    · rintro i x σ' H1 hi ⟨e1, h1, y, rfl⟩
      unfold pRefs at hi
      rw [List.getElem?_map] at hi
      cases hq : who[i]? with
      | none => rw [hq] at hi; cases hi
      | some n =>
        rw [hq] at hi
        cases hi
        have hnw : n ∈ who := List.mem_of_getElem? hq
        have hnt : n ∉ who.take i := fun z => by
          have := nd
          rw [← List.take_append_drop (i + 1) who, take_more hq, List.append_assoc, List.nodup_append] at this
          exact this.2.2 n z n (List.mem_append_left _ (by simp)) rfl
        obtain ⟨dx, q⟩ := hp n hnw
        have q1 := e1 _ _ q fun ⟨m, hm, e⟩ => hnt (by rw [inj n hnw m (List.mem_of_mem_take hm) e]; exact hm)
        have hr0 := (hn n hnw).2
        have fin : ∀ {G : Hp}, ExB (· = pa n) H1 G → G (pa n) = some (.ins c.P dx (playerF (upP d won (pl n)))) → ExB (fun b => ∃ n ∈ who.take (i + 1), b = pa n) H G ∧ (∀ m ∈ who.take (i + 1), PlayerAt c G (pa m) (upP d won (pl m))) := fun {G} eG hG => by
          rw [take_more hq]
          refine ⟨(e1.mono fun b ⟨m, h5, h6⟩ => ⟨m, List.mem_append_left _ h5, h6⟩).trans (eG.mono fun b hb => ⟨n, List.mem_append_right _ (by simp), hb⟩), fun m hm' => ?_⟩
          rcases List.mem_append.mp hm' with z | z
          · obtain ⟨dm, hm⟩ := h1 m z
            exact ⟨dm, eG _ _ hm fun e => hnt (by rw [inj n hnw m (List.mem_of_mem_take z) e.symm]; exact z)⟩
          · rw [List.mem_singleton.mp z]
            exact ⟨dx, hG⟩
        refine q_fldaug (g := fun i j => i + j) (ev_var rfl) q1 CC.P.cl (CC.P.na _ (by decide +kernel)) (playerF_rating _) (ev_var rfl) (by show 5 < 1000; decide) fun H2 e2 => ?_
        rw [playerF_putR hr0]
        refine q_fldaug (g := fun i j => i + j) (ev_var rfl) upd_same CC.P.cl (CC.P.na _ (by decide +kernel)) (playerF_games _) ev_c (by show 5 < 1000; decide) fun H3 e3 => ?_
        rw [playerF_putG]
        refine s_when (b := won) (et_B (ev_var rfl)) (fun hb H4 e4 => ?_) (fun hb H4 e4 => ?_)
        · refine s_fldaug (g := fun i j => i + j) (ev_var rfl) (e4 _ _ upd_same) CC.P.cl (CC.P.na _ (by decide +kernel)) (playerF_wins _) ev_c (by show 5 < 1000; decide) fun H5 e5 => ?_
          rw [playerF_putW]
          have z := fin (G := upd H5 (pa n) (.ins c.P dx (playerF (upP d won (pl n))))) (exB_one (((exB_one ((exB_one (ExB.of e2)).ex e3)).ex e4).ex e5)) upd_same
          have e9 : upP d won (pl n) = { pl n with rating := (((pl n).rating : Int) + d).toNat, games := (pl n).games + 1, wins := (pl n).wins + 1 } := by
            unfold upP
            rw [if_pos hb]
          rw [e9] at z
          exact ⟨z.1, z.2, _, rfl⟩
        · have e9 : upP d won (pl n) = { pl n with rating := (((pl n).rating : Int) + d).toNat, games := (pl n).games + 1, wins := (pl n).wins } := by
            unfold upP
            rw [if_neg (by rw [hb]; exact Bool.false_ne_true)]
          have z := fin (G := H4) ((exB_one ((exB_one (ExB.of e2)).ex e3)).ex e4) (by rw [e9]; exact e4 _ _ upd_same)
          exact ⟨z.1, z.2, _, rfl⟩
    · rintro σ' H1 ⟨e1, h1, y, rfl⟩
      unfold pRefs at e1 h1
      rw [List.length_map, List.take_length] at e1 h1
      exact k H1 e1 h1
end
end EM

namespace EM
open PySem PySem.Spec PyProof.Rows L2 Evl
open Vbwsap (Rules Player Match sumOf membersOf gap State)
theorem exI_spec {r : Rules} {a b : Nat} {xs ys : List Int} (hx : xs.sum = (a : Nat)) (hy : ys.sum = (b : Nat)) : exI r xs ys = ((Vbwsap.expected r r.side a b : Nat) : Int) := by
  unfold exI farI maxI minI
  rw [hx, hy]
  show _ = (((((r.range * r.side : Nat) : Int) + max (-((r.range * r.side : Nat) : Int)) (min ((r.range * r.side : Nat) : Int) ((a : Int) - (b : Int)))).toNat : Nat) : Int)
  have hf : (0 : Int) ≤ ((r.range * r.side : Nat) : Int) := Int.natCast_nonneg _
  rw [Int.natCast_mul] at *
  generalize ((r.range : Nat) : Int) * ((r.side : Nat) : Int) = F at *
  rw [Int.toNat_of_nonneg (by omega)]
  split <;> split <;> omega
theorem frI_spec {r : Rules} (hb : RB r) {a b came : Nat} {xs ys : List Int} (hx : xs.sum = (a : Nat)) (hy : ys.sum = (b : Nat)) : frI r xs ys (came : Nat) = Vbwsap.moved r r.side a b came := by
  have hfar := farI_b hb
  unfold frI
  rw [exI_spec hx hy]
  show _ = if ((r.range * r.side : Nat) : Int) = 0 then 0 else (2 * ((r.factor : Nat) : Int) * (((came : Nat) : Int) * ((r.range * r.side : Nat) : Int) - ((Vbwsap.expected r r.side a b : Nat) : Int)) + 2 * ((r.range * r.side : Nat) : Int)) / (4 * ((r.range * r.side : Nat) : Int))
  rw [Int.natCast_mul, show ((r.range : Nat) : Int) * ((r.side : Nat) : Int) = farI r from rfl]
  generalize farI r = F at *
  rw [if_neg (by omega), Int.fdiv_eq_ediv_of_nonneg _ (by omega : (0 : Int) ≤ 2 * F)]
  generalize ((Vbwsap.expected r r.side a b : Nat) : Int) = E
  have e1 : 2 * ((r.factor : Nat) : Int) * (((came : Nat) : Int) * F - E) + 2 * F = 2 * (((r.factor : Nat) : Int) * (((came : Nat) : Int) * F - E) + F) := by
    rw [Int.mul_add, Int.mul_assoc]
  have e2 : 4 * F = 2 * (2 * F) := by omega
  rw [e1, e2, Int.mul_ediv_mul_of_pos _ _ (by decide)]
theorem least_isMin {T : Nat} : ∀ {l : List Nat}, l ≠ [] → (∀ x ∈ l, x ≤ T) → IsMin ((l.foldr min T : Nat) : Int) (l.map fun (n : Nat) => (n : Int))
  | [], h, _ => absurd rfl h
  | [x], _, hb => by
    have := hb x (by simp)
    rw [List.foldr_cons, List.foldr_nil, Nat.min_eq_left this]
    exact ⟨by simp, fun y hy => by
      have : y = (x : Int) := by simpa using hy
      omega⟩
  | x :: y :: r, _, hb => by
    obtain ⟨i1, i2⟩ := least_isMin (T := T) (l := y :: r) (by simp) (fun z hz => hb z (List.mem_cons_of_mem _ hz))
    rw [List.foldr_cons]
    generalize (y :: r).foldr min T = m at *
    refine ⟨?_, fun z hz => ?_⟩
    · rw [List.map_cons]
      rcases Nat.le_total x m with h | h
      · rw [Nat.min_eq_left h]
        exact List.mem_cons_self ..
      · rw [Nat.min_eq_right h]
        exact List.mem_cons_of_mem _ i1
    · rw [List.map_cons] at hz
      rcases List.mem_cons.mp hz with q | q
      · rw [q]
        omega
      · have := i2 z q
        omega
theorem most_isMax : ∀ {l : List Nat}, l ≠ [] → IsMax ((l.foldr max 0 : Nat) : Int) (l.map fun (n : Nat) => (n : Int))
  | [], h => absurd rfl h
  | [x], _ => by
    rw [List.foldr_cons, List.foldr_nil, Nat.max_eq_left (Nat.zero_le x)]
    exact ⟨by simp, fun y hy => by
      have : y = (x : Int) := by simpa using hy
      omega⟩
  | x :: y :: r, _ => by
    obtain ⟨i1, i2⟩ := most_isMax (l := y :: r) (by simp)
    rw [List.foldr_cons]
    generalize (y :: r).foldr max 0 = m at *
    refine ⟨?_, fun z hz => ?_⟩
    · rw [List.map_cons]
      rcases Nat.le_total x m with h | h
      · rw [Nat.max_eq_right h]
        exact List.mem_cons_of_mem _ i1
      · rw [Nat.max_eq_left h]
        exact List.mem_cons_self ..
    · rw [List.map_cons] at hz
      rcases List.mem_cons.mp hz with q | q
      · rw [q]
        omega
      · have := i2 z q
        omega
theorem most_le {l : List Nat} {T : Nat} (h : ∀ x ∈ l, x ≤ T) : l.foldr max 0 ≤ T := by
  induction l with
  | nil => exact Nat.zero_le _
  | cons x r ih =>
    rw [List.foldr_cons]
    have := h x (by simp)
    have := ih (fun y hy => h y (List.mem_cons_of_mem _ hy))
    omega
def leastOf (s : State) (l : List Nat) : Nat := (l.map (Vbwsap.ratingOf s)).foldr min Vbwsap.TOP
def mostOf (s : State) (l : List Nat) : Nat := (l.map (Vbwsap.ratingOf s)).foldr max 0
theorem hmI_spec {s : State} {a b : List Nat} {d : Int} (ha : ∀ n ∈ a, Vbwsap.ratingOf s n ≤ Vbwsap.TOP) (hb : ∀ n ∈ b, Vbwsap.ratingOf s n ≤ Vbwsap.TOP) : hmI d (leastOf s a : Nat) (mostOf s a : Nat) (leastOf s b : Nat) (mostOf s b : Nat) = Vbwsap.limited s a b d := by
  have h1 : mostOf s a ≤ Vbwsap.TOP := most_le fun x hx => by obtain ⟨n, hn, rfl⟩ := List.mem_map.mp hx; exact ha n hn
  have h2 : mostOf s b ≤ Vbwsap.TOP := most_le fun x hx => by obtain ⟨n, hn, rfl⟩ := List.mem_map.mp hx; exact hb n hn
  show _ = if 0 ≤ d then min d (min ((leastOf s b : Nat) : Int) ((Vbwsap.TOP - mostOf s a : Nat) : Int)) else max d (max (-((leastOf s a : Nat) : Int)) (-((Vbwsap.TOP - mostOf s b : Nat) : Int)))
  unfold hmI minI
  unfold Vbwsap.TOP at *
  split <;> split <;> split <;> split <;> omega
theorem limited_a {s : State} {a b : List Nat} {d : Int} (ha : ∀ n ∈ a, Vbwsap.ratingOf s n ≤ Vbwsap.TOP) (ne : a ≠ []) {n : Nat} (hn : n ∈ a) : 0 ≤ (Vbwsap.ratingOf s n : Int) + Vbwsap.limited s a b d ∧ (Vbwsap.ratingOf s n : Int) + Vbwsap.limited s a b d ≤ (Vbwsap.TOP : Nat) := by
  have nm : a.map (Vbwsap.ratingOf s) ≠ [] := by simpa using ne
  have i1 := (least_isMin (T := Vbwsap.TOP) nm fun x hx => by obtain ⟨n, hn, rfl⟩ := List.mem_map.mp hx; exact ha n hn).2 (Vbwsap.ratingOf s n : Int) (List.mem_map.mpr ⟨_, List.mem_map.mpr ⟨n, hn, rfl⟩, rfl⟩)
  have i2 := (most_isMax nm).2 (Vbwsap.ratingOf s n : Int) (List.mem_map.mpr ⟨_, List.mem_map.mpr ⟨n, hn, rfl⟩, rfl⟩)
  have hm : mostOf s a ≤ Vbwsap.TOP := most_le fun x hx => by obtain ⟨n, hn, rfl⟩ := List.mem_map.mp hx; exact ha n hn
  have hr := ha n hn
  have el : Vbwsap.limited s a b d = if 0 ≤ d then min d (min ((leastOf s b : Nat) : Int) ((Vbwsap.TOP - mostOf s a : Nat) : Int)) else max d (max (-((leastOf s a : Nat) : Int)) (-((Vbwsap.TOP - mostOf s b : Nat) : Int))) := rfl
  rw [el]
  change ((leastOf s a : Nat) : Int) ≤ _ at i1
  change _ ≤ ((mostOf s a : Nat) : Int) at i2
  split <;> omega
theorem limited_b {s : State} {a b : List Nat} {d : Int} (hb : ∀ n ∈ b, Vbwsap.ratingOf s n ≤ Vbwsap.TOP) (ne : b ≠ []) {n : Nat} (hn : n ∈ b) : 0 ≤ (Vbwsap.ratingOf s n : Int) + -Vbwsap.limited s a b d ∧ (Vbwsap.ratingOf s n : Int) + -Vbwsap.limited s a b d ≤ (Vbwsap.TOP : Nat) := by
  have nm : b.map (Vbwsap.ratingOf s) ≠ [] := by simpa using ne
  have i1 := (least_isMin (T := Vbwsap.TOP) nm fun x hx => by obtain ⟨n, hn, rfl⟩ := List.mem_map.mp hx; exact hb n hn).2 (Vbwsap.ratingOf s n : Int) (List.mem_map.mpr ⟨_, List.mem_map.mpr ⟨n, hn, rfl⟩, rfl⟩)
  have i2 := (most_isMax nm).2 (Vbwsap.ratingOf s n : Int) (List.mem_map.mpr ⟨_, List.mem_map.mpr ⟨n, hn, rfl⟩, rfl⟩)
  have hm : mostOf s b ≤ Vbwsap.TOP := most_le fun x hx => by obtain ⟨n, hn, rfl⟩ := List.mem_map.mp hx; exact hb n hn
  have hr := hb n hn
  have el : Vbwsap.limited s a b d = if 0 ≤ d then min d (min ((leastOf s b : Nat) : Int) ((Vbwsap.TOP - mostOf s a : Nat) : Int)) else max d (max (-((leastOf s a : Nat) : Int)) (-((Vbwsap.TOP - mostOf s b : Nat) : Int))) := rfl
  rw [el]
  change ((leastOf s b : Nat) : Int) ≤ _ at i1
  change _ ≤ ((mostOf s b : Nat) : Int) at i2
  split <;> omega
/-! ### a match's end -/
def newP (m : Match) (d : Int) (came : Nat) (p : Player) : Player := if m.a.contains p.num = true then upP d (decide (came = 2)) p else if m.b.contains p.num = true then upP (-d) (decide (came = 0)) p else p
theorem newP_num (m : Match) (d : Int) (came : Nat) (p : Player) : (newP m d came p).num = p.num := by
  unfold newP
  split
  · rfl
  · split <;> rfl
theorem ended_is {s : State} {m : Match} {came : Nat} (hdis : ∀ n ∈ m.a, n ∉ m.b) : (Vbwsap.ended s m came).1 = { s with players := s.players.map (newP m (Vbwsap.ended s m came).2 came), matches_ := s.matches_.filter fun x => x.num != m.num } := by
  have e2 : (Vbwsap.ended s m came).2 = Vbwsap.limited s m.a m.b (Vbwsap.moved s.rules s.rules.side (Vbwsap.sumRating s m.a) (Vbwsap.sumRating s m.b) came) := rfl
  rw [e2]
  unfold Vbwsap.ended Vbwsap.changeIn
  simp only [List.map_map]
  congr 1
  apply List.map_congr_left
  intro p _
  generalize Vbwsap.limited s m.a m.b (Vbwsap.moved s.rules s.rules.side (Vbwsap.sumRating s m.a) (Vbwsap.sumRating s m.b) came) = d
  unfold newP upP
  by_cases ha : p.num ∈ m.a
  · have hb := hdis _ ha
    by_cases h2 : came = 2
    · simp [ha, hb, h2, Vbwsap.shifted]
    · by_cases h0 : came = 0
      · simp [ha, hb, h2, h0, Vbwsap.shifted]
      · simp [ha, hb, h2, h0, Vbwsap.shifted]
  · by_cases hb : p.num ∈ m.b
    · by_cases h2 : came = 2
      · simp [ha, hb, h2, Vbwsap.shifted]
      · by_cases h0 : came = 0
        · simp [ha, hb, h2, h0, Vbwsap.shifted]
        · simp [ha, hb, h2, h0, Vbwsap.shifted]
    · by_cases h2 : came = 2
      · simp [ha, hb, h2, Vbwsap.shifted]
      · by_cases h0 : came = 0
        · simp [ha, hb, h2, h0, Vbwsap.shifted]
        · simp [ha, hb, h2, h0, Vbwsap.shifted]
theorem sub_flat {α β : Type} {f : α → List β} {p : α → Bool} : ∀ (l : List α), ((l.filter p).flatMap f).Sublist (l.flatMap f)
  | [] => List.Sublist.refl _
  | x :: r => by
    rw [List.flatMap_cons]
    cases h : p x with
    | true =>
      rw [List.filter_cons_of_pos h, List.flatMap_cons]
      exact List.Sublist.append (List.Sublist.refl _) (sub_flat r)
    | false =>
      rw [List.filter_cons_of_neg (by rw [h]; exact Bool.false_ne_true)]
      exact (sub_flat r).trans (List.sublist_append_right _ _)
theorem Wf.dis {s : State} (W : Wf s) {m : Match} (hm : m ∈ s.matches_) : m.a.Nodup ∧ m.b.Nodup ∧ ∀ n ∈ m.a, n ∉ m.b := by
  have h1 := (List.nodup_append.mp W.mem).2.1
  have h2 : (m.a ++ m.b).Nodup := by
    obtain ⟨x, y, e⟩ := List.append_of_mem hm
    rw [e, List.flatMap_append, List.nodup_append] at h1
    have h3 := h1.2.1
    rw [List.flatMap_cons, List.nodup_append] at h3
    exact h3.1
  rw [List.nodup_append] at h2
  exact ⟨h2.1, h2.2.1, fun n ha hb => h2.2.2 n ha n hb rfl⟩
/-- players changed, number by number; some matches gone -/
theorem Wf.change {s : State} (W : Wf s) {f : Player → Player} {q : Match → Bool} {pool season : Nat} (hf : ∀ p ∈ s.players, (f p).num = p.num ∧ (f p).rating ≤ Vbwsap.TOP) : Wf { s with players := s.players.map f, matches_ := s.matches_.filter q, pool := pool, season := season } := by
  have hn : ((s.players.map f).map fun p => p.num) = s.players.map fun p => p.num := by
    rw [List.map_map]
    apply List.map_congr_left
    intro p hp
    exact (hf p hp).1
  have hsub : (s.entries.flatMap (fun e => e.who) ++ (s.matches_.filter q).flatMap (fun m => m.a ++ m.b)).Sublist (s.entries.flatMap (fun e => e.who) ++ s.matches_.flatMap (fun m => m.a ++ m.b)) := List.Sublist.append (List.Sublist.refl _) (sub_flat _)
  refine ⟨W.side, W.base, W.step, W.factor, W.range, W.fine, ?_, ?_, fun p hp => ?_, W.en, W.el, W.ew, W.mn.sublist (List.filter_sublist.map _), fun m hm => W.ml m (List.mem_filter.mp hm).1, W.mem.sublist hsub, fun n hn' => ?_, W.now⟩
  · show ((s.players.map f).map fun (p : Player) => p.num).Nodup
    rw [hn]
    exact W.pn
  · show (s.players.map f).length ≤ 24
    rw [List.length_map]
    exact W.pl
  · obtain ⟨p0, h0, rfl⟩ := List.mem_map.mp hp
    have h1 := W.pr p0 h0
    have h2 := hf p0 h0
    rw [h2.1]
    exact ⟨h2.2, h1.2⟩
  · obtain ⟨p, hp, e⟩ := W.inp n (hsub.subset hn')
    exact ⟨f p, List.mem_map.mpr ⟨p, hp, rfl⟩, by rw [(hf p hp).1, e]⟩
theorem ratingOf_num {s : State} (W : Wf s) {p : Player} (hp : p ∈ s.players) : Vbwsap.ratingOf s p.num = p.rating := by
  rw [← plOf_rating, W.player hp]
theorem newP_ok {s : State} (W : Wf s) {m : Match} {came : Nat} (hm : m ∈ s.matches_) : ∀ p ∈ s.players, (newP m (Vbwsap.ended s m came).2 came p).num = p.num ∧ (newP m (Vbwsap.ended s m came).2 came p).rating ≤ Vbwsap.TOP := fun p hp => by
  refine ⟨newP_num .., ?_⟩
  have hr : ∀ n ∈ m.a ++ m.b, Vbwsap.ratingOf s n ≤ Vbwsap.TOP := fun n hn => by
    obtain ⟨q, hq, rfl⟩ := W.mat hm hn
    rw [ratingOf_num W hq]
    exact (W.pr q hq).1
  have hl := W.ml m hm
  have hs := W.side
  have e2 : (Vbwsap.ended s m came).2 = Vbwsap.limited s m.a m.b (Vbwsap.moved s.rules s.rules.side (Vbwsap.sumRating s m.a) (Vbwsap.sumRating s m.b) came) := rfl
  unfold newP
  split
  · rename_i h
    have hin : p.num ∈ m.a := by simpa using h
    have z := limited_a (b := m.b) (d := Vbwsap.moved s.rules s.rules.side (Vbwsap.sumRating s m.a) (Vbwsap.sumRating s m.b) came) (fun n hn => hr n (List.mem_append_left _ hn)) (List.ne_nil_of_mem hin) hin
    rw [ratingOf_num W hp, ← e2] at z
    show ((p.rating : Int) + _).toNat ≤ _
    omega
  · split
    · rename_i h
      have hin : p.num ∈ m.b := by simpa using h
      have z := limited_b (a := m.a) (d := Vbwsap.moved s.rules s.rules.side (Vbwsap.sumRating s m.a) (Vbwsap.sumRating s m.b) came) (fun n hn => hr n (List.mem_append_right _ hn)) (List.ne_nil_of_mem hin) hin
      rw [ratingOf_num W hp, ← e2] at z
      show ((p.rating : Int) + _).toNat ≤ _
      omega
    · exact (W.pr p hp).1
theorem Wf.ended {s : State} (W : Wf s) {m : Match} {came : Nat} (hm : m ∈ s.matches_) : Wf (Vbwsap.ended s m came).1 := by
  rw [ended_is (W.dis hm).2.2]
  exact W.change (pool := s.pool) (season := s.season) (newP_ok W hm)
end EM

namespace EM
open PySem PySem.Spec PyProof.Rows L2 Evl
open Vbwsap (Rules Player Match sumOf membersOf gap State)
section
variable {K : PySem.W.Frag} {σ : L2.St} {H : Hp} {D : Ends} {tu tz : TS} {ta tb tc td te : TE}
theorem ev_callVNNV {sp : Sp} {a d : V} {xs ys : List V} {z : V} (h1 : Ev ta σ H a) (h2 : EvL tb σ H xs) (h3 : EvL tc σ H ys) (h4 : Ev td σ H d) (k : ∀ p q H1, Ex H H1 → H1 p = some (.lst xs) → H1 q = some (.lst ys) → ∀ Q, RetV z H1 Q → sp [a, .ref p, .ref q, d] H1 Q E0) :
    Ev (tCall sp [] E0 (tCons ta (tCons tb (tCons tc (tCons td tNil))))) σ H z := fun H1 e Q q =>
  h1 H1 e _ fun H2 e2 => h2 H2 (e.trans e2) _ fun p H3 _ e3 i1 => h3 H3 ((e.trans e2).trans e3) _ fun p' H4 _ e4 i2 => h4 H4 (((e.trans e2).trans e3).trans e4) _ fun H5 e5 =>
    k p p' H5 ((((e.trans e2).trans e3).trans e4).trans e5) ((e4.trans e5) _ _ i1) (e5 _ _ i2) Q fun H6 e6 => q H6 ((((e2.trans e3).trans e4).trans e5).trans e6)
theorem q_dropC {sp : Sp} {vs : List V} {ta : TA} (ha : EvA ta σ H vs) (k : ∀ H1, Ex H H1 → sp vs H1 (fun _ H2 => tz D σ H2) E0) : tSeq (tDrop (tCall sp [] E0 ta)) tz D σ H := by
  refine ha H (Ex.refl H) _ fun H2 e2 => ?_
  show sp (vs ++ []) H2 _ _
  rw [List.append_nil]
  exact k H2 e2
end
/-! ### the world when its players change -/
def S4 (γ : Gh) (s : State) (b : Addr) : Prop := S3 γ b ∨ ∃ p ∈ s.players, b = γ.pa p.num
def SP (γ : Gh) (s : State) (b : Addr) : Prop := ∃ p ∈ s.players, b = γ.pa p.num
theorem off4 {c : Cs} {H : Hp} {γ : Gh} {s : State} (ws : WS c H γ s) {b : Addr} {o : HO} (h : H b = some o) (ho : ∀ p dx, o ≠ .ins c.P dx (playerF p)) : ¬ SP γ s b := by
  rintro ⟨p, hp, z⟩
  obtain ⟨dx, q⟩ := ws.ps p hp
  rw [z, q] at h
  exact ho p dx (Option.some.inj h).symm
theorem noP {C D : Addr} {d : Addr} {fs : List (Str × V)} (h : fs.length ≠ 5) : ∀ p dx, (HO.ins C d fs) ≠ .ins D dx (playerF p) := fun p dx z => by
  injection z with _ _ h3
  exact h (by rw [h3]; rfl)
section
variable {P : Program} {w : World} {K : PySem.W.Frag} {mg : Str → Option Value} {base : Heap} {c : Cs} {H H' : Hp} {γ : Gh} {s : State}
theorem WS.inj (ws : WS c H γ s) {p q : Player} (hp : p ∈ s.players) (hq : q ∈ s.players) (e : γ.pa p.num = γ.pa q.num) : p.num = q.num := by
  obtain ⟨d1, q1⟩ := ws.ps p hp
  obtain ⟨d2, q2⟩ := ws.ps q hq
  rw [e, q2] at q1
  have := Option.some.inj q1
  injection this with _ _ h3
  unfold playerF at h3
  injection h3 with h5 _
  injection h5 with _ h6
  injection h6 with h7
  omega
theorem pKv_map {f : Player → Player} {l : List Player} (hf : ∀ p ∈ l, (f p).num = p.num) : pKv γ.pa (l.map f) = pKv γ.pa l := by
  unfold pKv
  rw [List.map_map]
  apply List.map_congr_left
  intro p hp
  simp only [Function.comp]
  rw [hf p hp]
theorem WS.remap {f : Player → Player} (ws : WS c H γ s) (un : Un3 H γ s) (e : ExB (SP γ s) H H') (hf : ∀ p ∈ s.players, (f p).num = p.num) (hp : ∀ p ∈ s.players, PlayerAt c H' (γ.pa p.num) (f p)) : WS c H' γ { s with players := s.players.map f } ∧ Un3 H' γ { s with players := s.players.map f } := by
  have un' : Un3 H' γ { s with players := s.players.map f } := by
    refine ⟨?_, e _ _ un.ed (off4 ws un.ed (by intro p dx z; cases z)), e _ _ un.md (off4 ws un.md (by intro p dx z; cases z))⟩
    show _ = some (HO.dK (pKv γ.pa (s.players.map f)))
    rw [pKv_map hf]
    exact e _ _ un.pd (off4 ws un.pd (by intro p dx z; cases z))
  refine ⟨⟨?_, ?_, .inl un'.pd, .inl un'.ed, .inl un'.md, fun p hp' => ?_, fun x hx => ?_, fun x hx => ?_⟩, un'⟩
  · obtain ⟨dx, q⟩ := ws.wo
    exact ⟨dx, e _ _ q (off4 ws q (noP (by show 8 ≠ 5; decide)))⟩
  · obtain ⟨dx, q⟩ := ws.ru
    exact ⟨dx, e _ _ q (off4 ws q (noP (by show 6 ≠ 5; decide)))⟩
  · obtain ⟨p0, h0, rfl⟩ := List.mem_map.mp hp'
    rw [hf p0 h0]
    exact hp p0 h0
  · obtain ⟨dx, l, q, q2⟩ := ws.en x hx
    exact ⟨dx, l, e _ _ q (off4 ws q (noP (by show 3 ≠ 5; decide))), e _ _ q2 (off4 ws q2 (by intro p dx z; cases z))⟩
  · obtain ⟨dx, l, l2, q, q2, q3⟩ := ws.ms x hx
    exact ⟨dx, l, l2, e _ _ q (off4 ws q (noP (by show 3 ≠ 5; decide))), e _ _ q2 (off4 ws q2 (by intro p dx z; cases z)), e _ _ q3 (off4 ws q3 (by intro p dx z; cases z))⟩
/-- one match gone -/
theorem ws_popM {q : Match → Bool} (ws : WS c H γ s) (un : Un3 H γ s) (ap : Apart γ) : WS c (upd H γ.md (.dK (mKv γ.ma (s.matches_.filter q)))) γ { s with matches_ := s.matches_.filter q } ∧ Un3 (upd H γ.md (.dK (mKv γ.ma (s.matches_.filter q)))) γ { s with matches_ := s.matches_.filter q } := by
  have eB : ExB (· = γ.md) H (upd H γ.md (.dK (mKv γ.ma (s.matches_.filter q)))) := ExB.upd rfl
  obtain ⟨lr, lp, le, lm⟩ := lists_of ws un (eB.mono (S' := S3 γ) fun b hb => .inr (.inr (.inr hb)))
  obtain ⟨dw, hw⟩ := ws.wo
  have un' : Un3 (upd H γ.md (.dK (mKv γ.ma (s.matches_.filter q)))) γ { s with matches_ := s.matches_.filter q } := ⟨eB _ _ un.pd ap.pm, eB _ _ un.ed ap.em, upd_same⟩
  exact ⟨⟨⟨dw, eB _ _ hw (ne_of hw un.md (by intro z; cases z))⟩, lr, .inl un'.pd, .inl un'.ed, .inl un'.md, lp, le, fun e he => lm e (List.mem_filter.mp he).1⟩, un'⟩
/-- the world's own numbers changed -/
theorem ws_own {dx : Addr} {now pool season next : Nat} (ws : WS c H γ s) (un : Un3 H γ s) : WS c (upd H γ.w (.ins c.W dx (worldF γ.r (now : Nat) (pool : Nat) (season : Nat) (next : Nat) γ.pd γ.ed γ.md))) γ { s with now := now, pool := pool, season := season, next := next } ∧ Un3 (upd H γ.w (.ins c.W dx (worldF γ.r (now : Nat) (pool : Nat) (season : Nat) (next : Nat) γ.pd γ.ed γ.md))) γ { s with now := now, pool := pool, season := season, next := next } := by
  have eB : ExB (· = γ.w) H (upd H γ.w (.ins c.W dx (worldF γ.r (now : Nat) (pool : Nat) (season : Nat) (next : Nat) γ.pd γ.ed γ.md))) := ExB.upd rfl
  obtain ⟨lr, lp, le, lm⟩ := lists_of ws un (eB.mono (S' := S3 γ) fun b hb => .inl hb)
  obtain ⟨dw, hw⟩ := ws.wo
  have un' : Un3 (upd H γ.w (.ins c.W dx (worldF γ.r (now : Nat) (pool : Nat) (season : Nat) (next : Nat) γ.pd γ.ed γ.md))) γ { s with now := now, pool := pool, season := season, next := next } := ⟨eB _ _ un.pd (ne_of un.pd hw (by intro z; cases z)), eB _ _ un.ed (ne_of un.ed hw (by intro z; cases z)), eB _ _ un.md (ne_of un.md hw (by intro z; cases z))⟩
  exact ⟨⟨⟨dx, upd_same⟩, lr, .inl un'.pd, .inl un'.ed, .inl un'.md, lp, le, lm⟩, un'⟩
theorem Fr.four {s' : State} (ws : WS c H γ s) (un : Un3 H γ s) (e : ExB (S4 γ s) H H') (ws' : WS c H' γ s') (un' : Un3 H' γ s') (hn : ∀ p ∈ s.players, ∃ p' ∈ s'.players, p'.num = p.num) : Fr H H' := by
  refine ⟨Frm.exB e fun b hb o ho i => ?_, dm_exB e fun b hb z => ?_⟩
  · rcases hb with hb | ⟨p, hp, q⟩
    · rcases hb with z | z | z | z
      · obtain ⟨dx, q⟩ := ws.wo
        rw [z, q] at ho
        cases ho
        exact i
      · rw [z, un.pd] at ho
        cases ho
        exact i
      · rw [z, un.ed] at ho
        cases ho
        exact i
      · rw [z, un.md] at ho
        cases ho
        exact i
    · obtain ⟨dx, r⟩ := ws.ps p hp
      rw [q, r] at ho
      cases ho
      exact i
  · rcases hb with hb | ⟨p, hp, q⟩
    · rcases hb with q | q | q | q
      · obtain ⟨dx, r⟩ := ws'.wo
        rw [← q, z] at r
        cases r
      · have r := un'.pd
        rw [← q, z] at r
        cases r
      · have r := un'.ed
        rw [← q, z] at r
        cases r
      · have r := un'.md
        rw [← q, z] at r
        cases r
    · obtain ⟨p', hp', e'⟩ := hn p hp
      obtain ⟨dx, r⟩ := ws'.ps p' hp'
      rw [e', ← q, z] at r
      cases r
theorem At.four {s' : State} {rd l : Addr} {i : Nat} {ns : List Int} (a : At K c H γ s rd l i ns) (e : ExB (S4 γ s) H H') (ws' : WS c H' γ s') (un' : Un3 H' γ s') (W' : Wf s') (hn : ∀ p ∈ s.players, ∃ p' ∈ s'.players, p'.num = p.num) : At K c H' γ s' rd l i ns ∧ Fr H H' := by
  have f := Fr.four a.ws a.un e ws' un' hn
  obtain ⟨dr, hrd⟩ := a.rd
  refine ⟨⟨ws', W', un', a.ap, ⟨dr, e _ _ hrd ?_⟩, f.frm.seq a.sq⟩, f⟩
  rintro (z | z)
  · exact off3 a.ws a.un hrd (by show 2 ≠ 8; decide) z
  · exact off4 a.ws hrd (noP (by show 2 ≠ 5; decide)) z
theorem plOf_mem {n : Nat} (W : Wf s) (h : ∃ p ∈ s.players, p.num = n) : plOf s n ∈ s.players ∧ (plOf s n).num = n := by
  obtain ⟨p, hp, rfl⟩ := h
  rw [W.player hp]
  exact ⟨hp, rfl⟩
theorem sum_nats (pl : Nat → Player) : ∀ l : List Nat, (l.map fun n => (((pl n).rating : Nat) : Int)).sum = ((sumOf (l.map fun n => (pl n).rating) : Nat) : Int)
  | [] => rfl
  | x :: r => by
    have e : sumOf ((x :: r).map fun n => (pl n).rating) = (pl x).rating + sumOf (r.map fun n => (pl n).rating) := rfl
    rw [List.map_cons, List.sum_cons, sum_nats pl r, e, Int.natCast_add]
theorem sum_spec (s : State) (l : List Nat) : (l.map fun n => (((plOf s n).rating : Nat) : Int)).sum = ((Vbwsap.sumRating s l : Nat) : Int) := by
  rw [sum_nats]
  unfold Vbwsap.sumRating
  congr 2
  apply List.map_congr_left
  intro n _
  exact plOf_rating s n
theorem rat_map (s : State) (l : List Nat) : (l.map fun n => (((plOf s n).rating : Nat) : Int)) = (l.map (Vbwsap.ratingOf s)).map fun (n : Nat) => (n : Int) := by
  rw [List.map_map]
  apply List.map_congr_left
  intro n _
  simp only [Function.comp]
  rw [plOf_rating]
def sp_end_match (c : Cs) : Sp := fun vs H Q _ => ∃ (γ : Gh) (s : State) (m : Match) (came : Nat), vs = [.ref γ.w, .ref (γ.ma m.num), .int (came : Nat)] ∧ WS c H γ s ∧ Wf s ∧ Un3 H γ s ∧ Apart γ ∧ m ∈ s.matches_ ∧ came ≤ 2 ∧
  ∀ H', WS c H' γ (Vbwsap.ended s m came).1 → Un3 H' γ (Vbwsap.ended s m came).1 → ExB (S4 γ s) H H' → Q (.int (Vbwsap.ended s m came).2) H'
abbrev s_end_match : Stmt := top 55
abbrev n_end_match : List Str := ["world", "game", "came", "moved"]
abbrev p_end_match : List Str := ["world", "game", "came"]
theorem sc_end_match : FnScope n_end_match p_end_match (defScope s_end_match) := ⟨rfl, rfl, rfl, by decide +kernel, rfl, by decide +kernel, by decide +kernel⟩

theorem ok_end_match (T : TxtK mg) (CC : CT K c) (D : Def K mg "end_match" s_end_match p_end_match) (G_ratings_of : Has P w K mg base 1 "ratings_of" p_ratings_of (sp_ratings_of K c)) (G_held_move : Has P w K mg base 4 "held_move" p_held_move (sp_held_move K c)) (G_play_out : Has P w K mg base 1 "play_out" p_play_out (sp_play_out K c)) :
    Has P w K mg base 5 "end_match" p_end_match (sp_end_match c) := by
  refine D.has sc_end_match (fun vs H Q E h => ?_) (fun f cdv A outer sh H vs Q E hr h => ?_)
  · obtain ⟨γ, s, m, came, rfl, _⟩ := h
    rfl
  · obtain ⟨γ, s, m, came, rfl, ws, W, un, ap, hm, hc, k⟩ := h
    refine ⟨_, (pss_cons (ps_set (i := 3) sc_end_match.nd rfl (Or.inl rfl) (pe_has G_held_move (hr.mono (by decide)) rfl (pa_cons (pe_fld (pv 0) rfl) (pa_cons (pe_has G_ratings_of (hr.mono (by decide)) rfl (pa_cons (pe_fld (pv 1) rfl) pa_nil)) (pa_cons (pe_has G_ratings_of (hr.mono (by decide)) rfl (pa_cons (pe_fld (pv 1) rfl) pa_nil)) (pa_cons (pv 2) pa_nil))))))
 (pss_cons (ps_expr (pe_has G_play_out (hr.mono (by decide)) rfl (pa_cons (pe_fld (pv 1) rfl) (pa_cons (pv 3) (pa_cons (pe_cmpR op_eq (pv 2) (pe_const T.FIRST_WON rfl) (nomark _)) pa_nil)))))
 (pss_cons (ps_expr (pe_has G_play_out (hr.mono (by decide)) rfl (pa_cons (pe_fld (pv 1) rfl) (pa_cons (pe_un un_neg (pv 3)) (pa_cons (pe_cmpR op_eq (pv 2) (pe_const T.SECOND_WON rfl) (nomark _)) pa_nil)))))
 (pss_cons (ps_expr (pe_dpop1 (pe_fld (pv 0) rfl) (pe_fld (pv 1) rfl) ⟨rfl, rfl, rfl, rfl⟩))
 (pss_one (ps_ret (pv 3))))))), ?_⟩
    obtain ⟨dw, hw⟩ := ws.wo
    obtain ⟨dm, l1, l2, g1, g2, g3⟩ := ws.ms m hm
    have hml := W.ml m hm
    have hsd := W.side
    obtain ⟨nda, ndb, hdis⟩ := W.dis hm
    have ina : ∀ n ∈ m.a, ∃ p ∈ s.players, p.num = n := fun n hn => W.mat hm (List.mem_append_left _ hn)
    have inb : ∀ n ∈ m.b, ∃ p ∈ s.players, p.num = n := fun n hn => W.mat hm (List.mem_append_right _ hn)
    have nea : m.a ≠ [] := fun z => by rw [z] at hml; have := hml.1; simp at this; omega
    have neb : m.b ≠ [] := fun z => by rw [z] at hml; have := hml.2.1; simp at this; omega
    have hra : ∀ n ∈ m.a, Vbwsap.ratingOf s n ≤ Vbwsap.TOP := fun n hn => by
      obtain ⟨q, hq, rfl⟩ := ina n hn
      rw [ratingOf_num W hq]
      exact (W.pr q hq).1
    have hrb : ∀ n ∈ m.b, Vbwsap.ratingOf s n ≤ Vbwsap.TOP := fun n hn => by
      obtain ⟨q, hq, rfl⟩ := inb n hn
      rw [ratingOf_num W hq]
      exact (W.pr q hq).1
    have e2 : (Vbwsap.ended s m came).2 = Vbwsap.limited s m.a m.b (Vbwsap.moved s.rules s.rules.side (Vbwsap.sumRating s m.a) (Vbwsap.sumRating s m.b) came) := rfl
    have rl : ∀ {l : Addr} {who : List Nat} {t : TE} (hl : H l = some (.lst (pRefs γ.pa who))) (hi : ∀ n ∈ who, ∃ p ∈ s.players, p.num = n) (hz : who.length ≤ 3) (ht : Ev t (start n_end_match [.ref γ.w, .ref (γ.ma m.num), .int (came : Nat)]) H (.ref l)), EvL (tCall (sp_ratings_of K c) [] E0 (tCons t tNil)) (start n_end_match [.ref γ.w, .ref (γ.ma m.num), .int (came : Nat)]) H ((who.map fun n => (((plOf s n).rating : Nat) : Int)).map V.int) := fun {l who t} hl hi hz ht =>
      el_callL (vs := [.ref l]) (ea_cons ht ea_nil) fun H1 e1 Q' q' => ⟨l, γ.pa, plOf s, who, rfl, sq_of (e1 _ _ hl), (ws.pls W hi).mono e1, by omega, by rw [List.map_map] at q'; exact q'⟩
    refine q_asg (v := .int (Vbwsap.ended s m came).2) (ev_callVNNV (ev_W CC (ev_var rfl) hw (worldF_rules ..)) (rl g2 ina (by omega) (ev_M CC (ev_var rfl) g1 (matchF_first ..))) (rl g3 inb (by omega) (ev_M CC (ev_var rfl) g1 (matchF_second ..))) (ev_var rfl) fun p q H1 e1 i1 i2 Q' q' => ?_) fun H1 e1 => ?_
    · refine ⟨γ.r, p, q, s.rules, _, _, (came : Nat), (leastOf s m.a : Nat), (mostOf s m.a : Nat), (leastOf s m.b : Nat), (mostOf s m.b : Nat), rfl, ws.ru.mono e1, W.rb, sq_of i1, sq_of i2, by omega, by omega, ?_, ?_, ?_, ?_, ?_⟩
      · rw [rat_map]
        exact least_isMin (by simpa using nea) fun x hx => by obtain ⟨n, hn, rfl⟩ := List.mem_map.mp hx; exact hra n hn
      · rw [rat_map]
        exact most_isMax (by simpa using nea)
      · rw [rat_map]
        exact least_isMin (by simpa using neb) fun x hx => by obtain ⟨n, hn, rfl⟩ := List.mem_map.mp hx; exact hrb n hn
      · rw [rat_map]
        exact most_isMax (by simpa using neb)
      · rw [frI_spec W.rb (sum_spec s m.a) (sum_spec s m.b), hmI_spec hra hrb, ← e2]
        exact q'
    · generalize hd : (Vbwsap.ended s m came).2 = d at *
      have ws1 := ws.mono e1
      have un1 := un.mono e1
      refine q_dropC (vs := [.ref l1, .int d, .bl (decide (came = 2))]) (ea_cons (ev_M CC (ev_var rfl) (e1 _ _ g1) (matchF_first ..)) (ea_cons (ev_var rfl) (ea_cons (ev_is (ev_op (ev_var rfl) ev_c (rv_eq rfl)) (by congr 1; rw [Bool.eq_iff_iff]; simp; try omega)) ea_nil))) fun H2 e2' => ?_
      have e12 := e1.trans e2'
      have ws2 := ws.mono e12
      refine ⟨l1, γ.pa, plOf s, m.a, d, decide (came = 2), rfl, e12 _ _ g2, ws2.pls W ina, nda, fun n hn => ⟨(plOf_mem W (ina n hn)).2, by rw [plOf_rating, e2]; exact (limited_a hra nea hn).1⟩, fun H3 e3 p3 => ?_⟩
      have e3S : ExB (SP γ s) H2 H3 := e3.mono fun b ⟨n, hn, hb⟩ => by
        obtain ⟨q, hq, e⟩ := ina n hn
        exact ⟨q, hq, by rw [e]; exact hb⟩
      have g1' := e3S _ _ (e12 _ _ g1) (off4 ws2 (e12 _ _ g1) (noP (by show 3 ≠ 5; decide)))
      have g3' := e3S _ _ (e12 _ _ g3) (off4 ws2 (e12 _ _ g3) (by intro p dx z; cases z))
      refine q_dropC (vs := [.ref l2, .int (-d), .bl (decide (came = 0))]) (ea_cons (ev_M CC (ev_var rfl) g1' (matchF_second ..)) (ea_cons (ev_un (ev_var rfl) ru_neg) (ea_cons (ev_is (ev_op (ev_var rfl) ev_c (rv_eq rfl)) (by congr 1; rw [Bool.eq_iff_iff]; simp; try omega)) ea_nil))) fun H4 e4 => ?_
      have pb : Pls c H4 γ.pa (plOf s) m.b := fun n hn => by
        obtain ⟨dx, q⟩ := ws2.pls W inb n hn
        refine ⟨dx, e4 _ _ (e3 _ _ q fun ⟨n', hn', z⟩ => ?_)⟩
        obtain ⟨p1, h1, r1⟩ := inb n hn
        obtain ⟨p2, h2, r2⟩ := ina n' hn'
        have := ws2.inj h1 h2 (by rw [r1, r2]; exact z)
        exact hdis n' hn' (by rw [← r2, ← this, r1]; exact hn)
      refine ⟨l2, γ.pa, plOf s, m.b, -d, decide (came = 0), rfl, e4 _ _ g3', pb, ndb, fun n hn => ⟨(plOf_mem W (inb n hn)).2, by rw [plOf_rating, e2]; exact (limited_b hrb neb hn).1⟩, fun H5 e5 p5 => ?_⟩
      have e5S : ExB (SP γ s) H4 H5 := e5.mono fun b ⟨n, hn, hb⟩ => by
        obtain ⟨q, hq, e⟩ := inb n hn
        exact ⟨q, hq, by rw [e]; exact hb⟩
      have eS : ExB (SP γ s) H H5 := (ExB.of e12).trans (e3S.trans ((ExB.of e4).trans e5S))
      have hps : ∀ p ∈ s.players, PlayerAt c H5 (γ.pa p.num) (newP m d came p) := fun p hp => by
        unfold newP
        split
        · rename_i h
          have hin : p.num ∈ m.a := by simpa using h
          have z : PlayerAt c H3 (γ.pa p.num) (upP d (decide (came = 2)) (plOf s p.num)) := p3 p.num hin
          rw [W.player hp] at z
          obtain ⟨dx, z⟩ := z
          refine ⟨dx, e5 _ _ (e4 _ _ z) fun ⟨n', hn', q⟩ => ?_⟩
          obtain ⟨p2, h2, r2⟩ := inb n' hn'
          have := ws2.inj hp h2 (by rw [r2]; exact q)
          exact hdis p.num hin (by rw [this, r2]; exact hn')
        · rename_i h
          have hna : p.num ∉ m.a := by simpa using h
          split
          · rename_i h2
            have hin : p.num ∈ m.b := by simpa using h2
            have z : PlayerAt c H5 (γ.pa p.num) (upP (-d) (decide (came = 0)) (plOf s p.num)) := p5 p.num hin
            rw [W.player hp] at z
            exact z
          · rename_i h2
            have hnb : p.num ∉ m.b := by simpa using h2
            obtain ⟨dx, z⟩ := ws2.ps p hp
            refine ⟨dx, e5 _ _ (e4 _ _ (e3 _ _ z fun ⟨n', hn', q⟩ => ?_)) fun ⟨n', hn', q⟩ => ?_⟩
            · obtain ⟨p2, h2, r2⟩ := ina n' hn'
              have := ws2.inj hp h2 (by rw [r2]; exact q)
              exact hna (by rw [this, r2]; exact hn')
            · obtain ⟨p2, h2, r2⟩ := inb n' hn'
              have := ws2.inj hp h2 (by rw [r2]; exact q)
              exact hnb (by rw [this, r2]; exact hn')
      obtain ⟨ws5, un5⟩ := WS.remap (f := newP m d came) ws un eS (fun p _ => newP_num ..) hps
      obtain ⟨dw5, hw5⟩ := ws5.wo
      have g5 := eS _ _ g1 (off4 ws g1 (noP (by show 3 ≠ 5; decide)))
      have hval : valV (mKv γ.ma s.matches_) (Sum.inl ((m.num : Nat) : Int)) = some (.ref (γ.ma m.num)) := by
        rw [mKv_is, valV_kv]
        cases hf : s.matches_.find? fun x => ((x.num : Nat) : Int) == ((m.num : Nat) : Int) with
        | none =>
          have := List.find?_eq_none.mp hf m hm
          simp at this
        | some m' =>
          have h0 := List.find?_some (p := fun (x : Match) => ((x.num : Nat) : Int) == ((m.num : Nat) : Int)) hf
          have := beq_iff_eq.mp h0
          have e0 : m'.num = m.num := by omega
          show some (V.ref (γ.ma m'.num)) = _
          rw [e0]
      refine q_pop (k := Sum.inl ((m.num : Nat) : Int)) (ev_W CC (ev_var rfl) hw5 (worldF_matches ..)) (ev_M CC (ev_var rfl) g5 (matchF_number ..)) un5.md hval fun H6 e6 => ?_
      have hdrop : dropK (mKv γ.ma s.matches_) (Sum.inl ((m.num : Nat) : Int) : Key) = mKv γ.ma (s.matches_.filter fun x => x.num != m.num) := by
        rw [mKv_is, dropK_kv]
        unfold mKv kvOf
        congr 1
        apply List.filter_congr
        intro x _
        rw [Bool.eq_iff_iff]
        simp only [bne_iff_ne, ne_eq]
        constructor
        · intro h z
          exact h (by rw [z])
        · intro h z
          exact h (by omega)
      show tRet (tVar 3) _ _ (upd H6 γ.md (.dK (dropK (mKv γ.ma s.matches_) (Sum.inl ((m.num : Nat) : Int)))))
      rw [hdrop]
      obtain ⟨ws7, un7⟩ := ws_popM (q := fun x => x.num != m.num) (ws5.mono e6) (un5.mono e6) ap
      refine s_ret (ev_var rfl) fun H8 e8 => ?_
      have hst : (Vbwsap.ended s m came).1 = { s with players := s.players.map (newP m d came), matches_ := s.matches_.filter fun x => x.num != m.num } := by
        rw [ended_is hdis, hd]
      rw [hst] at k
      refine k H8 (ws7.mono e8) (un7.mono e8) ?_
      have eB : ExB (S4 γ s) H6 (upd H6 γ.md (.dK (mKv γ.ma (s.matches_.filter fun x => x.num != m.num)))) := ExB.upd (.inl (.inr (.inr (.inr rfl))))
      exact ((eS.mono fun b hb => .inr hb).trans (.of e6)).trans (eB.trans (.of e8))
end
end EM

namespace EM
open PySem PySem.Spec PyProof.Rows L2 Evl
open Vbwsap (Rules Player Match sumOf membersOf gap State)
theorem inV_int (z : Int) (l : List Nat) : inV (.int z) (l.map fun m => V.int ((m : Nat) : Int)) = (decide (0 ≤ z) && l.contains z.toNat) := by
  rw [Bool.eq_iff_iff, inV_iff]
  constructor
  · rintro ⟨m, hm, e⟩
    have e' : z.toNat = m := by omega
    have e2 : 0 ≤ z := by omega
    simp [e', e2, hm]
  · intro h
    have h' := Bool.and_eq_true_iff.mp h
    have h1 : 0 ≤ z := of_decide_eq_true h'.1
    exact ⟨z.toNat, by simpa using h'.2, by omega⟩
section
variable {P : Program} {w : World} {K : PySem.W.Frag} {mg : Str → Option Value} {base : Heap} {c : Cs}
/-- numbers_of(game.first + game.second) -/
theorem el_nums2 {σ : L2.St} {H : Hp} {t : TE} {m : Match} {a : Addr} {pa : Nat → Addr} {pl : Nat → Player} (CC : CT K c) (ht : Ev t σ H (.ref a)) (hm : MatchAt c H pa a m) (hp : Pls c H pa pl (m.a ++ m.b)) (hn : ∀ n ∈ m.a ++ m.b, (pl n).num = n) (hz : m.a.length + m.b.length ≤ 100) :
    EvL (tCall (sp_numbers_of K c) [] E0 (tCons (tOp rCat (tFld K t "first") (tFld K t "second")) tNil)) σ H ((m.a ++ m.b).map fun n => V.int ((n : Nat) : Int)) := by
  obtain ⟨dm, l1, l2, q1, q2, q3⟩ := hm
  have hcat := el_cat (ev_M CC ht q1 (matchF_first ..)) (ev_M CC ht q1 (matchF_second ..)) q2 q3 (by rw [List.length_map, List.length_map]; omega)
  rw [← List.map_append] at hcat
  intro H1 e1 Q' q'
  refine hcat H1 e1 _ fun lc H2 hlc e2 h2 => ?_
  refine ⟨lc, pa, pl, m.a ++ m.b, rfl, sq_of h2, hp.mono (e1.trans e2), by rw [List.length_append]; omega, ?_⟩
  have e0 : ((m.a ++ m.b).map fun n => V.int (((pl n).num : Nat) : Int)) = (m.a ++ m.b).map fun n => V.int ((n : Nat) : Int) := by
    apply List.map_congr_left
    intro n hn'
    rw [hn n hn']
  rw [e0]
  exact fun r H3 hr e3 h3 => q' r H3 (fresh_back e2 hr) (e2.trans e3) h3
def sp_loss_of (c : Cs) : Sp := fun vs H Q _ => ∃ (a : Addr) (pa : Nat → Addr) (pl : Nat → Player) (m : Match) (n : Nat), vs = [.ref a, .int (n : Nat)] ∧ MatchAt c H pa a m ∧ Pls c H pa pl m.a ∧ (∀ n ∈ m.a, (pl n).num = n) ∧ m.a.length ≤ 100 ∧ RetV (.int ((if m.a.contains n = true then 0 else 2 : Nat) : Nat)) H Q
abbrev s_loss_of : Stmt := top 56
abbrev n_loss_of : List Str := ["game", "number"]
abbrev p_loss_of : List Str := ["game", "number"]
theorem sc_loss_of : FnScope n_loss_of p_loss_of (defScope s_loss_of) := ⟨rfl, rfl, rfl, by decide +kernel, rfl, by decide +kernel, by decide +kernel⟩

theorem ok_loss_of (T : TxtK mg) (CC : CT K c) (D : Def K mg "loss_of" s_loss_of p_loss_of) (G_numbers_of : Has P w K mg base 1 "numbers_of" p_numbers_of (sp_numbers_of K c)) : Has P w K mg base 2 "loss_of" p_loss_of (sp_loss_of c) := by
  refine D.has sc_loss_of (fun vs H Q E h => ?_) (fun f cdv A outer sh H vs Q E hr h => ?_)
  · obtain ⟨a, pa, pl, m, n, rfl, _⟩ := h
    rfl
  · obtain ⟨a, pa, pl, m, n, rfl, ⟨dm, l1, l2, q1, q2, q3⟩, hp, hn, hz, k⟩ := h
    refine ⟨_, (pss_cons (ps_if (pt_cmpR op_in_seq (pv 1) (pe_has G_numbers_of (hr.mono (by decide)) rfl (pa_cons (pe_fld (pv 0) rfl) pa_nil)) rfl)
  (pss_one (ps_ret (pe_const T.SECOND_WON rfl))) pss_nil)
 (pss_one (ps_ret (pe_const T.FIRST_WON rfl)))), ?_⟩
    refine q_when (b := m.a.contains n) (et_is (et_test (ev_opL (xs := m.a.map fun n => V.int ((n : Nat) : Int)) (ev_var rfl) (el_callL (vs := [.ref l1]) (ea_cons (ev_M CC (ev_var rfl) q1 (matchF_first ..)) ea_nil) fun H1 e1 Q' q' => ?_) fun p H1 hp _ => rv_isL (sq_of hp) rfl (flat_nats _))) (inV_nat n m.a)) (fun hb H1 e1 => ?_) (fun hb H1 e1 => ?_)
    · refine ⟨l1, pa, pl, m.a, rfl, sq_of (e1 _ _ q2), hp.mono e1, by omega, ?_⟩
      have e0 : (m.a.map fun n => V.int (((pl n).num : Nat) : Int)) = m.a.map fun n => V.int ((n : Nat) : Int) := by
        apply List.map_congr_left
        intro n hn'
        rw [hn n hn']
      rw [e0]
      exact q'
    · rw [if_pos hb] at k
      exact s_ret ev_c fun H2 e2 => k H2 (e1.trans e2)
    · rw [if_neg (by rw [hb]; exact Bool.false_ne_true)] at k
      exact s_ret ev_c fun H2 e2 => k H2 (e1.trans e2)
/-! ### the fine -/
def fineP (paid : Nat) (q : Player) : Player := { q with rating := q.rating - paid, left := q.left + 1 }
def fined (s : State) (n paid : Nat) : State := { Vbwsap.changeIn s [n] (fineP paid) with pool := s.pool + paid }
def sp_pay_fine (c : Cs) : Sp := fun vs H Q _ => ∃ (γ : Gh) (s : State) (p : Player), vs = [.ref γ.w, .ref (γ.pa p.num)] ∧ WS c H γ s ∧ Wf s ∧ Un3 H γ s ∧ p ∈ s.players ∧
  ∀ H', WS c H' γ (fined s p.num (min s.rules.fine p.rating)) → Un3 H' γ (fined s p.num (min s.rules.fine p.rating)) → ExB (S4 γ s) H H' → Q (.int ((min s.rules.fine p.rating : Nat) : Int)) H'
theorem worldF_putPool {r pd ed md : Addr} {a b d e i : Int} : putF "pool" (.int i) (worldF r a b d e pd ed md) = worldF r a i d e pd ed md := by
  unfold worldF
  rw [pf_past (by decide +kernel), pf_past (by decide +kernel), pf_here]
abbrev s_pay_fine : Stmt := top 57
abbrev n_pay_fine : List Str := ["world", "player", "paid"]
abbrev p_pay_fine : List Str := ["world", "player"]
theorem sc_pay_fine : FnScope n_pay_fine p_pay_fine (defScope s_pay_fine) := ⟨rfl, rfl, rfl, by decide +kernel, rfl, by decide +kernel, by decide +kernel⟩

theorem ok_pay_fine (T : TxtK mg) (CC : CT K c) (D : Def K mg "pay_fine" s_pay_fine p_pay_fine) : Has P w K mg base 1 "pay_fine" p_pay_fine (sp_pay_fine c) := by
  refine D.has sc_pay_fine (fun vs H Q E h => ?_) (fun f cdv A outer sh H vs Q E hr h => ?_)
  · obtain ⟨γ, s, p, rfl, _⟩ := h
    rfl
  · obtain ⟨γ, s, p, rfl, ws, W, un, hp, k⟩ := h
    refine ⟨_, (pss_cons (ps_set (i := 2) sc_pay_fine.nd rfl (Or.inl rfl) (pe_callB (call_min2 rfl) (by rfl) T.min (by decide +kernel) (pa_cons (pe_fld (pe_fld (pv 0) rfl) rfl) (pa_cons (pe_fld (pv 1) rfl) pa_nil))))
 (pss_cons (ps_fldaug (pv 1) (pv 2) in_sub)
 (pss_cons (ps_fldaug (pv 1) pe_int in_add)
 (pss_cons (ps_fldaug (pv 0) (pv 2) in_add)
 (pss_one (ps_ret (pv 2))))))), ?_⟩
    obtain ⟨dw, hw⟩ := ws.wo
    obtain ⟨dr, hr'⟩ := ws.ru
    obtain ⟨dx, q0⟩ := ws.ps p hp
    refine q_asg (v := .int ((min s.rules.fine p.rating : Nat) : Int)) (ev_is (ev_min2 (ev_R CC (ev_W CC (ev_var rfl) hw (worldF_rules ..)) hr' (rulesF_fine _)) (ev_P CC (ev_var rfl) q0 (playerF_rating _))) (by
      unfold minI
      congr 1
      split <;> omega)) fun H1 e1 => ?_
    generalize hpd : min s.rules.fine p.rating = paid at *
    have hle : paid ≤ p.rating := by omega
    have q1 := e1 _ _ q0
    refine q_fldaug (g := fun i j => i - j) (ev_var rfl) q1 CC.P.cl (CC.P.na _ (by decide +kernel)) (playerF_rating _) (ev_var rfl) (by show 5 < 1000; decide) fun H2 e2 => ?_
    rw [playerF_putR (by omega)]
    refine q_fldaug (g := fun i j => i + j) (ev_var rfl) upd_same CC.P.cl (CC.P.na _ (by decide +kernel)) (playerF_leaves _) ev_c (by show 5 < 1000; decide) fun H3 e3 => ?_
    rw [playerF_putL]
    have eP : (({ p with rating := ((p.rating : Nat) - (paid : Nat) : Int).toNat, left := p.left + 1 } : Player)) = fineP paid p := by
      unfold fineP
      have : (((p.rating : Nat) : Int) - ((paid : Nat) : Int)).toNat = p.rating - paid := by omega
      rw [this]
    have e03 : ExB (· = γ.pa p.num) H (upd H3 (γ.pa p.num) (.ins c.P dx (playerF (fineP paid p)))) := exB_one ((exB_one (ExB.of (e1.trans e2))).ex e3)
    have hG : upd H3 (γ.pa p.num) (.ins c.P dx (playerF (fineP paid p))) (γ.pa p.num) = some (.ins c.P dx (playerF (fineP paid p))) := upd_same
    show tSeq _ _ _ _ (upd H3 (γ.pa p.num) (.ins c.P dx (playerF ({ p with rating := ((p.rating : Nat) - (paid : Nat) : Int).toNat, left := p.left + 1 } : Player))))
    rw [eP]
    generalize upd H3 (γ.pa p.num) (.ins c.P dx (playerF (fineP paid p))) = G at *
    have eS : ExB (SP γ s) H G := e03.mono fun b hb => ⟨p, hp, hb⟩
    obtain ⟨ws4, un4⟩ := WS.remap (f := fun q => if ([p.num].contains q.num) = true then fineP paid q else q) ws un eS (fun q _ => by show (if _ then fineP paid q else q).num = q.num; split <;> rfl) (fun q hq => by
      show PlayerAt c G (γ.pa q.num) (if _ then fineP paid q else q)
      split
      · rename_i h
        have hqn : q.num = p.num := by simpa using h
        have hqp : q = p := by
          rw [← W.player hq, ← W.player hp, hqn]
        rw [hqp]
        exact ⟨dx, hG⟩
      · rename_i h
        have hqn : q.num ≠ p.num := by simpa using h
        obtain ⟨dq, z⟩ := ws.ps q hq
        exact ⟨dq, e03 _ _ z fun e => hqn (ws.inj hq hp e)⟩)
    obtain ⟨dw4, hw4⟩ := ws4.wo
    refine q_fldaug (g := fun i j => i + j) (ev_var rfl) hw4 CC.W.cl (CC.W.na _ (by decide +kernel)) (worldF_pool ..) (ev_var rfl) (by show 8 < 1000; decide) fun H5 e5 => ?_
    rw [worldF_putPool]
    obtain ⟨ws6, un6⟩ := ws_own (dx := dw4) (now := s.now) (pool := s.pool + paid) (season := s.season) (next := s.next) (ws4.mono e5) (un4.mono e5)
    refine s_ret (ev_var rfl) fun H6 e6 => ?_
    refine k H6 (ws6.mono e6) (un6.mono e6) ?_
    refine ((eS.mono fun b hb => Or.inr hb).ex e5).trans (ExB.trans (H1 := upd H5 γ.w (.ins c.W dw4 (worldF γ.r (s.now : Nat) ((s.pool : Nat) + (paid : Nat)) (s.season : Nat) (s.next : Nat) γ.pd γ.ed γ.md))) (ExB.upd (.inl (.inl rfl))) (.of e6))
theorem Wf.fined {s : State} (W : Wf s) (n paid : Nat) : Wf (fined s n paid) := by
  have z := W.change (f := fun q => if ([n].contains q.num) = true then fineP paid q else q) (q := fun _ => true) (pool := s.pool + paid) (season := s.season) (fun p hp => by
    have := (W.pr p hp).1
    show (if _ then fineP paid p else p).num = p.num ∧ (if _ then fineP paid p else p).rating ≤ _
    split
    · refine ⟨rfl, ?_⟩
      show p.rating - paid ≤ _
      omega
    · exact ⟨rfl, this⟩)
  have e0 : s.matches_.filter (fun _ => true) = s.matches_ := List.filter_eq_self.mpr fun _ _ => rfl
  rw [e0] at z
  exact z
/-! ### call 5 -/
theorem s_ret2C {σ : L2.St} {H : Hp} {D : Ends} {sp : Sp} {vs : List V} {ta : TA} {v : V} (ha : EvA ta σ H vs) (k : ∀ H1, Ex H H1 → sp vs H1 (fun x H2 => ∀ p H3, H2 p = none → Ex H2 H3 → H3 p = some (.lst [v, x]) → D.rt (.ref p) H3) E0)
    (mono : ∀ vs H (Q Q' : VK) E, sp vs H Q E → (∀ v H, Q v H → Q' v H) → sp vs H Q' E) : tRet (tLst (tCons (tC v) (tCons (tCall sp [] E0 ta) tNil))) D σ H := by
  refine ha H (Ex.refl H) _ fun H2 e2 => ?_
  show sp (vs ++ []) H2 _ _
  rw [List.append_nil]
  refine mono _ _ _ _ _ (k H2 e2) fun x H3 q => ⟨sz_of (by show 2 ≤ 100000; decide), fun p hp => q p _ hp (Ex.new hp) upd_same⟩
def tk_result : List Int → Option (Vbwsap.Call × Nat)
  | m :: w :: _ => some (.result m w, 2)
  | _ => none
theorem val_match {γ : Gh} {s : State} {z : Int} : valV (mKv γ.ma s.matches_) (Sum.inl z) = (Vbwsap.matchOf s z).map fun x => V.ref (γ.ma x.num) := by
  rw [mKv_is, valV_kv]
  rfl
theorem ended_nums {s : State} {m : Match} {came : Nat} (W : Wf s) (hm : m ∈ s.matches_) : ∀ p ∈ s.players, ∃ p' ∈ (Vbwsap.ended s m came).1.players, p'.num = p.num := fun p hp => by
  rw [ended_is (W.dis hm).2.2]
  exact ⟨_, List.mem_map.mpr ⟨p, hp, rfl⟩, newP_num ..⟩
abbrev s_call_result : Stmt := top 82
abbrev n_call_result : List Str := ["world", "reader", "number", "came"]
abbrev p_call_result : List Str := ["world", "reader"]
theorem sc_call_result : FnScope n_call_result p_call_result (defScope s_call_result) := ⟨rfl, rfl, rfl, by decide +kernel, rfl, by decide +kernel, by decide +kernel⟩

theorem ok_call_result (T : TxtK mg) (CC : CT K c) (D : Def K mg "call_result" s_call_result p_call_result) (M_take_whole : HasM P w K mg base 1 c.D "take_whole" p_Reader_take_whole (sp_take_whole K c)) (G_within : Has P w K mg base 1 "within" p_within sp_within)
    (G_out_of_range : Has P w K mg base 1 "out_of_range" p_out_of_range (sp_no (-1))) (G_none_of_that_number : Has P w K mg base 1 "none_of_that_number" p_none_of_that_number (sp_no (-2))) (G_end_match : Has P w K mg base 5 "end_match" p_end_match (sp_end_match c)) :
    Has P w K mg base 6 "call_result" p_call_result (sp_call K c tk_result) := by
  refine D.has sc_call_result (fun vs H Q E h => ?_) (fun f cdv A outer sh H vs Q E hr h => ?_)
  · obtain ⟨γ, s, rd, l, i, n, ns, x, rfl, _⟩ := h
    rfl
  · obtain ⟨γ, s, rd, l, i, n, ns, x, rfl, a, ht, k⟩ := h
    refine ⟨_, (pss_cons (ps_set (i := 2) sc_call_result.nd rfl (Or.inl rfl) (pe_hasM0 (pv 1) M_take_whole (hr.mono (by decide))))
 (pss_cons (ps_set (i := 3) sc_call_result.nd rfl (Or.inl rfl) (pe_hasM0 (pv 1) M_take_whole (hr.mono (by decide))))
 (pss_cons (ps_if (pt_not (pt_val (pe_has G_within (hr.mono (by decide)) rfl (pa_cons (pv 3) (pa_cons pe_int (pa_cons pe_int pa_nil))))))
  (pss_one (ps_ret (pe_has0 G_out_of_range (hr.mono (by decide)) rfl))) pss_nil)
 (pss_cons (ps_if (pt_cmp (pc_dnotin (hu_of hr) (pv 2) (pe_fld (pv 0) rfl)))
  (pss_one (ps_ret (pe_has0 G_none_of_that_number (hr.mono (by decide)) rfl))) pss_nil)
 (pss_one (ps_ret (pe_lst (pa_cons pe_int (pa_cons (pe_has G_end_match (hr.mono (by decide)) rfl (pa_cons (pv 0) (pa_cons (pe_dget (hu_of hr) (pe_fld (pv 0) rfl) (pv 2) (fun _ _ => rfl)) (pa_cons (pv 3) pa_nil)))) pa_nil))))))))), ?_⟩
    obtain ⟨i1, i2, rest, hd⟩ : ∃ i1 i2 rest, ns.drop i = i1 :: i2 :: rest := by
      unfold tk_result at ht
      split at ht
      · rename_i q
        exact ⟨_, _, _, q⟩
      · cases ht
    rw [hd] at ht
    cases ht
    refine q_take a rfl (drop_at hd 0) fun H1 a1 f1 => ?_
    refine q_take a1 rfl (drop_at hd 1) fun H2 a2 f2 => ?_
    have k2 := k.mono (f1.trans f2)
    refine q_when (b := !wIn 0 2 i2) (et_not (et_B (ev_within (ev_var rfl) ev_c ev_c))) (fun hb H3 e3 => ?_) (fun hb H3 e3 => ?_)
    · have hf : Vbwsap.from_ i2 0 2 = false := by rw [wIn_from] at hb; simpa using hb
      have e0 : Vbwsap.step s (.result i1 i2) = (s, [-((1 : Nat) : Int)]) := if_pos hf
      rw [e0] at k2
      exact s_no (k := 1) (a2.mono e3) (k2.mono (.of e3)) rfl
    · have hf : Vbwsap.from_ i2 0 2 = true := by rw [wIn_from] at hb; simpa using hb
      have e0 : Vbwsap.step s (.result i1 i2) = (match Vbwsap.matchOf s i1 with | none => Vbwsap.no s 2 | some x => let y := Vbwsap.ended s x i2.toNat; Vbwsap.yes y.1 [y.2]) := if_neg (by rw [hf]; exact Bool.noConfusion)
      rw [e0] at k2
      have a3 := a2.mono e3
      have k3 := k2.mono (.of e3)
      obtain ⟨dw, hw⟩ := a3.ws.wo
      refine q_when (b := !(Vbwsap.matchOf s i1).isSome) (et_is (et_B (ev_dnotin (k := Sum.inl i1) (ev_var rfl) (ev_W CC (ev_var rfl) hw (worldF_matches ..)) a3.ws.md)) (by rw [val_match, Option.isSome_map])) (fun hb4 H4 e4 => ?_) (fun hb4 H4 e4 => ?_)
      · have hn : Vbwsap.matchOf s i1 = none := by
          cases hq : Vbwsap.matchOf s i1 with
          | none => rfl
          | some y => rw [hq] at hb4; cases hb4
        rw [hn] at k3
        exact s_no (k := 2) (a3.mono e4) (k3.mono (.of e4)) rfl
      · cases hq : Vbwsap.matchOf s i1 with
        | none => rw [hq] at hb4; cases hb4
        | some y =>
          rw [hq] at k3
          have a4 := a3.mono e4
          have k4 := k3.mono (.of e4)
          have hy : y ∈ s.matches_ := List.mem_of_find?_eq_some hq
          rw [from_iff] at hf
          obtain ⟨n2, hn2⟩ : ∃ n2 : Nat, i2 = (n2 : Nat) := ⟨i2.toNat, by omega⟩
          subst hn2
          have ht : (((n2 : Nat) : Int)).toNat = n2 := Int.toNat_natCast n2
          rw [ht] at k4
          refine s_ret2C (vs := [.ref γ.w, .ref (γ.ma y.num), .int (n2 : Nat)]) (ea_cons (ev_var rfl) (ea_cons (ev_dget (k := Sum.inl i1) (ev_W CC (ev_var rfl) (e4 _ _ hw) (worldF_matches ..)) (ev_var rfl) a4.ws.md (by rw [val_match, hq]; rfl)) (ea_cons (ev_var rfl) ea_nil))) (fun H5 e5 => ?_) (fun vs H Q Q' E h hm => ?_)
          · have a5 := a4.mono e5
            have k5 := k4.mono (.of e5)
            refine ⟨γ, s, y, n2, rfl, a5.ws, a5.W, a5.un, a5.ap, hy, by omega, fun H6 ws6 un6 e6 p H7 hp e7 h7 => ?_⟩
            obtain ⟨a6, f6⟩ := a5.four e6 ws6 un6 (a5.W.ended hy) (ended_nums a5.W hy)
            exact k5 γ p H7 rfl (a6.mono e7) (f6.trans (.of e7)) (f6.dm p hp) h7
          · obtain ⟨γ, s, m, came, r1, r2, r3, r4, r5, r6, r7, r8⟩ := h
            exact ⟨γ, s, m, came, r1, r2, r3, r4, r5, r6, r7, fun H' q1 q2 q3 => hm _ _ (r8 H' q1 q2 q3)⟩
/-! ### call 6 -/
def tk_leave : List Int → Option (Vbwsap.Call × Nat)
  | m :: p :: _ => some (.leave m p, 2)
  | _ => none
theorem s_ret3C {σ : L2.St} {H : Hp} {D : Ends} {sp : Sp} {vs : List V} {ta : TA} {t : TE} {u v : V} (hu : Ev t σ H u) (ha : EvA ta σ H vs) (k : ∀ H1, Ex H H1 → sp vs H1 (fun x H2 => ∀ p H3, H2 p = none → Ex H2 H3 → H3 p = some (.lst [v, u, x]) → D.rt (.ref p) H3) E0)
    (mono : ∀ vs H (Q Q' : VK) E, sp vs H Q E → (∀ v H, Q v H → Q' v H) → sp vs H Q' E) : tRet (tLst (tCons (tC v) (tCons t (tCons (tCall sp [] E0 ta) tNil)))) D σ H := by
  refine hu H (Ex.refl H) _ fun H1 e1 => ha H1 e1 _ fun H2 e2 => ?_
  show sp (vs ++ []) H2 _ _
  rw [List.append_nil]
  refine mono _ _ _ _ _ (k H2 (e1.trans e2)) fun x H3 q => ⟨sz_of (by show 3 ≤ 100000; decide), fun p hp => q p _ hp (Ex.new hp) upd_same⟩
abbrev s_call_leave : Stmt := top 83
abbrev n_call_leave : List Str := ["world", "reader", "number", "leaver", "game", "moved"]
abbrev p_call_leave : List Str := ["world", "reader"]
theorem sc_call_leave : FnScope n_call_leave p_call_leave (defScope s_call_leave) := ⟨rfl, rfl, rfl, by decide +kernel, rfl, by decide +kernel, by decide +kernel⟩

theorem ok_call_leave (T : TxtK mg) (CC : CT K c) (D : Def K mg "call_leave" s_call_leave p_call_leave) (M_take_whole : HasM P w K mg base 1 c.D "take_whole" p_Reader_take_whole (sp_take_whole K c)) (G_numbers_of : Has P w K mg base 1 "numbers_of" p_numbers_of (sp_numbers_of K c))
    (G_not_so : Has P w K mg base 1 "not_so" p_not_so (sp_no (-4))) (G_none_of_that_number : Has P w K mg base 1 "none_of_that_number" p_none_of_that_number (sp_no (-2))) (G_end_match : Has P w K mg base 5 "end_match" p_end_match (sp_end_match c))
    (G_loss_of : Has P w K mg base 2 "loss_of" p_loss_of (sp_loss_of c)) (G_pay_fine : Has P w K mg base 1 "pay_fine" p_pay_fine (sp_pay_fine c)) :
    Has P w K mg base 6 "call_leave" p_call_leave (sp_call K c tk_leave) := by
  refine D.has sc_call_leave (fun vs H Q E h => ?_) (fun f cdv A outer sh H vs Q E hr h => ?_)
  · obtain ⟨γ, s, rd, l, i, n, ns, x, rfl, _⟩ := h
    rfl
  · obtain ⟨γ, s, rd, l, i, n, ns, x, rfl, a, ht, k⟩ := h
    refine ⟨_, (pss_cons (ps_set (i := 2) sc_call_leave.nd rfl (Or.inl rfl) (pe_hasM0 (pv 1) M_take_whole (hr.mono (by decide))))
 (pss_cons (ps_set (i := 3) sc_call_leave.nd rfl (Or.inl rfl) (pe_hasM0 (pv 1) M_take_whole (hr.mono (by decide))))
 (pss_cons (ps_if (pt_cmp (pc_dnotin (hu_of hr) (pv 2) (pe_fld (pv 0) rfl)))
  (pss_one (ps_ret (pe_has0 G_none_of_that_number (hr.mono (by decide)) rfl))) pss_nil)
 (pss_cons (ps_set (i := 4) sc_call_leave.nd rfl (Or.inl rfl) (pe_dget (hu_of hr) (pe_fld (pv 0) rfl) (pv 2) (fun _ _ => rfl)))
 (pss_cons (ps_if (pt_cmpR op_notIn_seq (pv 3) (pe_has G_numbers_of (hr.mono (by decide)) rfl (pa_cons (pe_op op_cat (pe_fld (pv 4) rfl) (pe_fld (pv 4) rfl)) pa_nil)) rfl)
  (pss_one (ps_ret (pe_has0 G_not_so (hr.mono (by decide)) rfl))) pss_nil)
 (pss_cons (ps_set (i := 5) sc_call_leave.nd rfl (Or.inl rfl) (pe_has G_end_match (hr.mono (by decide)) rfl (pa_cons (pv 0) (pa_cons (pv 4) (pa_cons (pe_has G_loss_of (hr.mono (by decide)) rfl (pa_cons (pv 4) (pa_cons (pv 3) pa_nil))) pa_nil)))))
 (pss_one (ps_ret (pe_lst (pa_cons pe_int (pa_cons (pv 5) (pa_cons (pe_has G_pay_fine (hr.mono (by decide)) rfl (pa_cons (pv 0) (pa_cons (pe_dget (hu_of hr) (pe_fld (pv 0) rfl) (pv 3) (fun _ _ => rfl)) pa_nil))) pa_nil)))))))))))), ?_⟩
    obtain ⟨i1, i2, rest, hd⟩ : ∃ i1 i2 rest, ns.drop i = i1 :: i2 :: rest := by
      unfold tk_leave at ht
      split at ht
      · rename_i q
        exact ⟨_, _, _, q⟩
      · cases ht
    rw [hd] at ht
    cases ht
    refine q_take a rfl (drop_at hd 0) fun H1 a1 f1 => ?_
    refine q_take a1 rfl (drop_at hd 1) fun H2 a2 f2 => ?_
    have k2 := k.mono (f1.trans f2)
    have e0 : Vbwsap.step s (.leave i1 i2) = (match Vbwsap.matchOf s i1 with | none => Vbwsap.no s 2 | some x => if i2 < 0 ∨ ((x.a ++ x.b).contains i2.toNat) = false then Vbwsap.no s 4 else let y := Vbwsap.deserted s x i2.toNat; Vbwsap.yes y.1 [y.2.1, (y.2.2 : Int)]) := rfl
    rw [e0] at k2
    obtain ⟨dw, hw⟩ := a2.ws.wo
    refine q_when (b := !(Vbwsap.matchOf s i1).isSome) (et_is (et_B (ev_dnotin (k := Sum.inl i1) (ev_var rfl) (ev_W CC (ev_var rfl) hw (worldF_matches ..)) a2.ws.md)) (by rw [val_match, Option.isSome_map])) (fun hb4 H4 e4 => ?_) (fun hb4 H4 e4 => ?_)
    · have hn : Vbwsap.matchOf s i1 = none := by
        cases hq : Vbwsap.matchOf s i1 with
        | none => rfl
        | some y => rw [hq] at hb4; cases hb4
      rw [hn] at k2
      exact s_no (k := 2) (a2.mono e4) (k2.mono (.of e4)) rfl
    · cases hq : Vbwsap.matchOf s i1 with
      | none => rw [hq] at hb4; cases hb4
      | some y =>
        rw [hq] at k2
        have hy : y ∈ s.matches_ := List.mem_of_find?_eq_some hq
        refine q_asg (v := .ref (γ.ma y.num)) (ev_dget (k := Sum.inl i1) (ev_W CC (ev_var rfl) (e4 _ _ hw) (worldF_matches ..)) (ev_var rfl) (a2.mono e4).ws.md (by rw [val_match, hq]; rfl)) fun H5 e5 => ?_
        have a5 := a2.mono (e4.trans e5)
        have k5 := k2.mono (.of (e4.trans e5))
        have W := a5.W
        have hml := W.ml y hy
        have hsd := W.side.2
        have iny : ∀ n ∈ y.a ++ y.b, ∃ p ∈ s.players, p.num = n := fun n hn => W.mat hy hn
        refine q_when (b := !(decide (0 ≤ i2) && (y.a ++ y.b).contains i2.toNat)) (et_is (et_test (ev_opL (ev_var rfl) (el_nums2 CC (ev_var rfl) (a5.ws.ms y hy) (a5.ws.pls W iny) (fun n hn => plOf_num W (iny n hn)) (by omega)) fun p H1 hp _ => rv_niL (sq_of hp) rfl (flat_nats _))) (by rw [inV_int])) (fun hb6 H6 e6 => ?_) (fun hb6 H6 e6 => ?_)
        · have hc : i2 < 0 ∨ ((y.a ++ y.b).contains i2.toNat) = false := by
            by_cases h0 : 0 ≤ i2
            · right
              simpa [h0] using hb6
            · left
              omega
          have e9 : (if i2 < 0 ∨ ((y.a ++ y.b).contains i2.toNat) = false then Vbwsap.no s 4 else let z := Vbwsap.deserted s y i2.toNat; Vbwsap.yes z.1 [z.2.1, (z.2.2 : Int)]) = (s, [-((4 : Nat) : Int)]) := if_pos hc
          have k6 := k5.mono (Fr.of e6)
          exact s_no (k := 4) (a5.mono e6) (by rw [← e9]; exact k6) rfl
        · have h0 : 0 ≤ i2 := by
            by_cases h : 0 ≤ i2
            · exact h
            · simp [h] at hb6
          obtain ⟨n2, hn2⟩ : ∃ n2 : Nat, i2 = (n2 : Nat) := ⟨i2.toNat, by omega⟩
          subst hn2
          have ht : (((n2 : Nat) : Int)).toNat = n2 := Int.toNat_natCast n2
          rw [ht] at hb6
          have hcn : (y.a ++ y.b).contains n2 = true := by
            cases hx : (y.a ++ y.b).contains n2 with
            | true => rfl
            | false => rw [hx] at hb6; simp at hb6
          have hin : n2 ∈ y.a ++ y.b := by simpa using hcn
          have hnc : ¬ (((n2 : Nat) : Int) < 0 ∨ ((y.a ++ y.b).contains (((n2 : Nat) : Int)).toNat) = false) := by
            rw [ht]
            rintro (z | z)
            · omega
            · have : (y.a ++ y.b).contains n2 = true := by simpa using hin
              rw [this] at z
              cases z
          have e9 : (if ((n2 : Nat) : Int) < 0 ∨ ((y.a ++ y.b).contains (((n2 : Nat) : Int)).toNat) = false then Vbwsap.no s 4 else let z := Vbwsap.deserted s y (((n2 : Nat) : Int)).toNat; Vbwsap.yes z.1 [z.2.1, (z.2.2 : Int)]) = ((Vbwsap.deserted s y n2).1, [0, (Vbwsap.deserted s y n2).2.1, ((Vbwsap.deserted s y n2).2.2 : Int)]) := by
            rw [if_neg hnc, ht]
            rfl
          have k6 : Done K c γ rd l (i + 2) ns H6 Q ((Vbwsap.deserted s y n2).1, [0, (Vbwsap.deserted s y n2).2.1, ((Vbwsap.deserted s y n2).2.2 : Int)]) := by
            rw [← e9]
            exact k5.mono (Fr.of e6)
          have a6 := a5.mono e6
          have hloss : ∀ {t1 t2 : TE} {σ' : L2.St} {H' : Hp}, Ex H6 H' → Ev t1 σ' H' (.ref (γ.ma y.num)) → Ev t2 σ' H' (.int (n2 : Nat)) → Ev (tCall (sp_loss_of c) [] E0 (tCons t1 (tCons t2 tNil))) σ' H' (.int ((if y.a.contains n2 = true then 0 else 2 : Nat) : Nat)) := fun {t1 t2 σ' H'} e' h1 h2 =>
            ev_callV (vs := [.ref (γ.ma y.num), .int (n2 : Nat)]) (ea_cons h1 (ea_cons h2 ea_nil)) fun H7 e7 Q' q' => ⟨γ.ma y.num, γ.pa, plOf s, y, n2, rfl, (a6.ws.ms y hy).mono (e'.trans e7), (a6.ws.pls W fun n hn => iny n (List.mem_append_left _ hn)).mono (e'.trans e7), fun n hn => plOf_num W (iny n (List.mem_append_left _ hn)), by omega, q'⟩
          refine q_asgC (vs := [.ref γ.w, .ref (γ.ma y.num), .int ((if y.a.contains n2 = true then 0 else 2 : Nat) : Nat)]) (ea_cons (ev_var rfl) (ea_cons (ev_var rfl) (ea_cons (hloss (Ex.refl _) (ev_var rfl) (ev_var rfl)) ea_nil))) fun H7 e7 => ?_
          have a7 := a6.mono e7
          have k7 := k6.mono (.of e7)
          refine ⟨γ, s, y, (if y.a.contains n2 = true then 0 else 2 : Nat), rfl, a7.ws, W, a7.un, a7.ap, hy, by split <;> omega, fun H8 ws8 un8 e8 => ?_⟩
          have hes : Vbwsap.deserted s y n2 = (fined (Vbwsap.ended s y (if y.a.contains n2 = true then 0 else 2)).1 n2 (min s.rules.fine (Vbwsap.ratingOf (Vbwsap.ended s y (if y.a.contains n2 = true then 0 else 2)).1 n2)), (Vbwsap.ended s y (if y.a.contains n2 = true then 0 else 2)).2, min s.rules.fine (Vbwsap.ratingOf (Vbwsap.ended s y (if y.a.contains n2 = true then 0 else 2)).1 n2)) := rfl
          have hru : (Vbwsap.ended s y (if y.a.contains n2 = true then 0 else 2)).1.rules = s.rules := rfl
          have W8 := W.ended (came := if y.a.contains n2 = true then 0 else 2) hy
          obtain ⟨a8, f8⟩ := a7.four e8 ws8 un8 W8 (ended_nums W hy)
          have k8 := k7.mono f8
          rw [hes] at k8
          have hpl : ∃ p ∈ (Vbwsap.ended s y (if y.a.contains n2 = true then 0 else 2)).1.players, p.num = n2 := by
            obtain ⟨p, hp, e⟩ := iny n2 hin
            obtain ⟨p', hp', e'⟩ := ended_nums (came := if y.a.contains n2 = true then 0 else 2) W hy p hp
            exact ⟨p', hp', by rw [e', e]⟩
          generalize Vbwsap.ended s y (if y.a.contains n2 = true then 0 else 2) = X at *
          obtain ⟨p, hp, hpn⟩ := hpl
          subst hpn
          rw [ratingOf_num W8 hp, ← hru] at k8
          obtain ⟨dw8, hw8⟩ := a8.ws.wo
          refine s_ret3C (u := .int X.2) (vs := [.ref γ.w, .ref (γ.pa p.num)]) (ev_var rfl) (ea_cons (ev_var rfl) (ea_cons (ev_dget (k := Sum.inl ((p.num : Nat) : Int)) (ev_W CC (ev_var rfl) hw8 (worldF_players ..)) (ev_var rfl) a8.ws.pd ?_) ea_nil)) (fun H9 e9 => ?_) (fun vs H Q Q' E h hm => ?_)
          · rw [pKv_is, valV_kv]
            have := find_num W8.pn hp
            cases hf : X.1.players.find? fun x => ((x.num : Nat) : Int) == ((p.num : Nat) : Int) with
            | none =>
              have := List.find?_eq_none.mp hf p hp
              simp at this
            | some p' =>
              have h0 := List.find?_some (p := fun (x : Player) => ((x.num : Nat) : Int) == ((p.num : Nat) : Int)) hf
              have := beq_iff_eq.mp h0
              have e0 : p'.num = p.num := by omega
              show some (V.ref (γ.pa p'.num)) = _
              rw [e0]
          · have a9 := a8.mono e9
            have k9 := k8.mono (.of e9)
            refine ⟨γ, X.1, p, rfl, a9.ws, a9.W, a9.un, hp, fun H10 ws10 un10 e10 q H11 hq e11 h11 => ?_⟩
            obtain ⟨a10, f10⟩ := a9.four e10 ws10 un10 (a9.W.fined _ _) (fun p' hp' => by
              refine ⟨_, List.mem_map.mpr ⟨p', hp', rfl⟩, ?_⟩
              show (if _ then fineP _ p' else p').num = p'.num
              split <;> rfl)
            exact k9 γ q H11 rfl (a10.mono e11) (f10.trans (.of e11)) (f10.dm q hq) h11
          · obtain ⟨γ, s, p, r1, r2, r3, r4, r5, r6⟩ := h
            exact ⟨γ, s, p, r1, r2, r3, r4, r5, fun H' q1 q2 q3 => hm _ _ (r6 H' q1 q2 q3)⟩
end
end EM

namespace EM
open PySem PySem.Spec PyProof.Rows L2 Evl
open Vbwsap (Rules Player Match sumOf membersOf gap State above sortBy putBy)
/-! ### the ladder's order -/
def keyP (p : Player) : List Int := [-((p.rating : Nat) : Int), ((p.games : Nat) : Int), ((p.num : Nat) : Int)]
theorem above_iff {p q : Player} : above p q = true ↔ q.rating < p.rating ∨ (p.rating = q.rating ∧ (p.games < q.games ∨ (p.games = q.games ∧ p.num ≤ q.num))) := by
  unfold Vbwsap.above
  simp
theorem le3 {α : Type} {key : α → List Int} {a b : α} {p q : Player} (ha : key a = keyP p) (hb : key b = keyP q) : PySem.W.dataLe false (fun x => kDat (key x)) a b = above p q := by
  show (!PySem.W.dataLt (.tuple ((key b).map .int)) (.tuple ((key a).map .int))) = _
  rw [PySem.W.dataLt_tuple]
  show (!PySem.W.rowLt ((key b).map .int) ((key a).map .int)) = _
  rw [PySem.W.dataLt_ints, ha, hb, Bool.eq_iff_iff, above_iff]
  unfold keyP
  simp only [Bool.not_eq_true', decide_eq_false_iff_not, List.cons_lt_cons_iff]
  have : ¬ (([] : List Int) < []) := by simp
  simp only [this, and_false, or_false]
  omega
theorem above_total (a b : Player) : (above a b || above b a) = true := by
  rw [Bool.or_eq_true, above_iff, above_iff]
  omega
theorem above_trans (a b c : Player) (h1 : above a b = true) (h2 : above b c = true) : above a c = true := by
  rw [above_iff] at *
  omega
theorem putBy_perm {α : Type} {f : α → α → Bool} {x : α} : ∀ l : List α, (putBy f x l).Perm (x :: l)
  | [] => List.Perm.refl _
  | y :: r => by
    unfold putBy
    split
    · exact List.Perm.refl _
    · exact ((putBy_perm r).cons y).trans (List.Perm.swap x y r)
theorem sortBy_perm {α : Type} {f : α → α → Bool} : ∀ l : List α, (sortBy f l).Perm l
  | [] => List.Perm.refl _
  | x :: r => by
    show (putBy f x (sortBy f r)).Perm (x :: r)
    exact (putBy_perm _).trans ((sortBy_perm r).cons x)
theorem putBy_sorted {x : Player} : ∀ {l : List Player}, l.Pairwise (fun a b => above a b = true) → (putBy above x l).Pairwise (fun a b => above a b = true)
  | [], _ => by
    show [x].Pairwise _
    simp
  | y :: r, h => by
    have h' := List.pairwise_cons.mp h
    unfold putBy
    split
    · rename_i hxy
      refine List.pairwise_cons.mpr ⟨fun z hz => ?_, h⟩
      rcases List.mem_cons.mp hz with e | e
      · rw [e]; exact hxy
      · exact above_trans _ _ _ hxy (h'.1 z e)
    · rename_i hxy
      refine List.pairwise_cons.mpr ⟨fun z hz => ?_, putBy_sorted h'.2⟩
      rcases List.mem_cons.mp ((putBy_perm r).mem_iff.mp hz) with e | e
      · have := above_total x y
        rw [e]
        simpa [hxy] using this
      · exact h'.1 z e
theorem sortBy_sorted : ∀ l : List Player, (sortBy above l).Pairwise (fun a b => above a b = true)
  | [] => List.Pairwise.nil
  | x :: r => putBy_sorted (sortBy_sorted r)
theorem num_inj {l : List Player} (h : (l.map fun p => p.num).Nodup) {a b : Player} (ha : a ∈ l) (hb : b ∈ l) (e : a.num = b.num) : a = b := by
  have h1 := find_num h ha
  have h2 := find_num h hb
  rw [e, h2] at h1
  exact (Option.some.inj h1).symm
theorem ladder_sort {l : List Player} (h : (l.map fun p => p.num).Nodup) : l.mergeSort above = sortBy above l := by
  refine List.Perm.eq_of_pairwise (le := fun a b => above a b = true) (fun a b ha hb h1 h2 => ?_) (List.pairwise_mergeSort above_trans above_total l) (sortBy_sorted l) ((List.mergeSort_perm l above).trans (sortBy_perm l).symm)
  refine num_inj h ((List.mergeSort_perm l above).mem_iff.mp ha) ((sortBy_perm l).mem_iff.mp hb) ?_
  rw [above_iff] at h1 h2
  omega
theorem Wf.ladder_mem {s : State} {p : Player} : p ∈ Vbwsap.ladder s ↔ p ∈ s.players := (sortBy_perm _).mem_iff
theorem Wf.apart {s : State} (W : Wf s) {n : Nat} (h : Vbwsap.queued s n = true) : Vbwsap.playing s n = false := by
  obtain ⟨e, he, hn⟩ := List.any_eq_true.mp h
  have hn' : n ∈ e.who := by simpa using hn
  cases hp : Vbwsap.playing s n with
  | false => rfl
  | true =>
    obtain ⟨m, hm, hc⟩ := List.any_eq_true.mp hp
    have hc' : n ∈ m.a ++ m.b := by
      rcases Bool.or_eq_true_iff.mp hc with z | z
      · exact List.mem_append_left _ (by simpa using z)
      · exact List.mem_append_right _ (by simpa using z)
    exact absurd rfl ((List.nodup_append.mp W.mem).2.2 n (List.mem_flatMap.mpr ⟨e, he, hn'⟩) n (List.mem_flatMap.mpr ⟨m, hm, hc'⟩))
end EM

namespace EM
open PySem PySem.Spec PyProof.Rows L2 Evl
open Vbwsap (Rules Player Match sumOf membersOf gap State)
section
variable {σ : L2.St} {H : Hp} {D : Ends}
theorem q_extL {K : PySem.W.Frag} {tz : TS} {ta te : TE} {l : Addr} {xs zs : List V} (hl : H l = some (.lst xs)) (ha : Ev ta σ H (.ref l)) (h : EvL te σ H zs) (hz : xs.length + zs.length ≤ 100000) (k : ∀ H1, Ex H H1 → tz D σ (upd H1 l (.lst (xs ++ zs)))) :
    tSeq (tDrop (tBM K "list" rExtend ta (tCons te tNil))) tz D σ H := s_extL (D := { D with nx := tz D }) hl ha h hz k
theorem s_retTup {ta : TA} {vs : List V} (h : EvA ta σ H vs) (hz : vs.length ≤ 100000) (k : ∀ p H1, Ex H H1 → H1 p = some (.tup vs) → D.rt (.ref p) H1) : tRet (tTup ta) D σ H := h H (Ex.refl H) _ fun H1 e1 => ⟨sz_of hz, fun p hp => k p _ (e1.trans (Ex.new hp)) upd_same⟩
theorem s_retSorted {sp : Sp} {td : TE} {d : Addr} {kvs : List (Key × V)} {key : V → List Int} (h : Ev td σ H (.ref d)) (hd : Rd H d (.dK kvs)) (h1 : ∀ x ∈ kvs.map (·.2), ∀ H1, Ex H H1 → KeyBy sp H1 x (key x)) (h2 : ∀ x ∈ kvs.map (·.2), ∃ i j l, key x = [i, j, l])
    (k : RetL ((kvs.map (·.2)).mergeSort (PySem.W.dataLe false fun x => kDat (key x))) H D.rt) : tRet (tSortedBy sp (tValsK td)) D σ H :=
  h H (Ex.refl H) _ fun H1 e1 => ⟨d, kvs, rfl, ex_rd e1 hd, fun p hp => ⟨p, d, kvs, key, rfl, upd_same, ex_rd (e1.trans (Ex.new hp)) hd, fun x hx => h1 x hx _ (e1.trans (Ex.new hp)), h2, fun H' q sm hq => by
    have e3 : Ex H H' := (e1.trans (Ex.new hp)).trans fun b o h => sm b o h
    exact k q _ (fresh_back e3 hq) (e3.trans (Ex.new hq)) upd_same⟩⟩
end
section
variable {P : Program} {w : World} {K : PySem.W.Frag} {mg : Str → Option Value} {base : Heap} {c : Cs}
def sp_plays (c : Cs) : Sp := fun vs H Q _ => ∃ (γ : Gh) (s : State) (n : Nat), vs = [.ref γ.w, .int (n : Nat)] ∧ WS c H γ s ∧ Wf s ∧ Un3 H γ s ∧ RetV (.bl (Vbwsap.playing s n)) H Q
theorem contains_app (a b : List Nat) (n : Nat) : (a ++ b).contains n = (a.contains n || b.contains n) := by
  rw [Bool.eq_iff_iff]
  simp
abbrev s_plays : Stmt := top 16
abbrev n_plays : List Str := ["world", "number", "game"]
abbrev p_plays : List Str := ["world", "number"]
theorem sc_plays : FnScope n_plays p_plays (defScope s_plays) := ⟨rfl, rfl, rfl, by decide +kernel, rfl, by decide +kernel, by decide +kernel⟩

theorem ok_plays (T : TxtK mg) (CC : CT K c) (D : Def K mg "plays" s_plays p_plays) (G_numbers_of : Has P w K mg base 1 "numbers_of" p_numbers_of (sp_numbers_of K c)) : Has P w K mg base 2 "plays" p_plays (sp_plays c) := by
  refine D.has sc_plays (fun vs H Q E h => ?_) (fun f cdv A outer sh H vs Q E hr h => ?_)
  · obtain ⟨γ, s, n, rfl, _⟩ := h
    rfl
  · obtain ⟨γ, s, n, rfl, ws, W, un, k⟩ := h
    refine ⟨_, (pss_cons (ps_lock (ps_for PassesOwn.never rfl (pi_values (pe_fld (pv 0) rfl)) (pg_name (i := 2) sc_plays.nd rfl (Or.inl rfl))
  (pss_one (ps_if (pt_cmpR op_in_seq (pv 1) (pe_has G_numbers_of (hr.mono (by decide)) rfl (pa_cons (pe_op op_cat (pe_fld (pv 2) rfl) (pe_fld (pv 2) rfl)) pa_nil)) rfl)
  (pss_one (ps_ret pe_bl)) pss_nil))))
 (pss_one (ps_ret pe_bl))), ?_⟩
    obtain ⟨dw, h1⟩ := ws.wo
    refine q_forD (l := s.matches_) (fun e => Sum.inl ((e.num : Nat) : Int)) (fun e => V.ref (γ.ma e.num)) un.md (fun od => ev_W CC (ev_var rfl) (lock_ex un.md h1 (by intro z; cases z)) (worldF_matches ..))
      (fun i σ' => (∃ x, σ' = [some (.ref γ.w), some (.int (n : Nat)), x]) ∧ (s.matches_.take i).any (fun m => m.a.contains n || m.b.contains n) = false) ⟨⟨none, rfl⟩, rfl⟩ ?_ ?_
    · rintro od i m σ' H' hi ⟨⟨x, rfl⟩, hno⟩ ex D' knx krt
      have hm : m ∈ s.matches_ := List.mem_of_getElem? hi
      obtain ⟨dm, l1, l2, h3, h4, h5⟩ := ws.ms m hm
      have hml := W.ml m hm
      have hsd := W.side.2
      have mat : MatchAt c H' γ.pa (γ.ma m.num) m := ⟨dm, l1, l2, ex _ _ (lock_ex (od := od) un.md h3 (by intro z; cases z)), ex _ _ (lock_ex (od := od) un.md h4 (by intro z; cases z)), ex _ _ (lock_ex (od := od) un.md h5 (by intro z; cases z))⟩
      have pls : Pls c H' γ.pa (plOf s) (m.a ++ m.b) := fun n' hn' => by
        obtain ⟨dx, z⟩ := (ws.pls W (fun n hn => W.mat hm hn)) n' hn'
        exact ⟨dx, ex _ _ (lock_ex (od := od) un.md z (by intro z; cases z))⟩
      refine s_when (b := m.a.contains n || m.b.contains n) (et_is (et_test (ev_opL (xs := (m.a ++ m.b).map fun n => V.int ((n : Nat) : Int)) (ev_var rfl) (el_nums2 CC (ev_var rfl) mat pls (fun n hn => plOf_num W (W.mat hm hn)) (by omega)) fun p H1 hp _ => rv_isL (sq_of hp) rfl (flat_nats _))) (by rw [inV_nat, contains_app])) (fun hb H1 e1 => ?_) (fun hb H1 e1 => ?_)
      · refine s_ret ev_c fun H2 e2 => krt _ _ (e1.trans e2) fun H3 e3 => ?_
        have e0 : Vbwsap.playing s n = true := List.any_eq_true.mpr ⟨m, hm, hb⟩
        have z := k H3 e3
        rw [e0] at z
        exact z
      · refine knx _ _ ⟨⟨_, rfl⟩, ?_⟩ e1
        rw [take_more hi, List.any_append, hno]
        simp only [List.any_cons, List.any_nil, Bool.or_false, Bool.false_or]
        exact hb
    · rintro σ' H2 ⟨⟨x, rfl⟩, hno⟩ e2
      rw [List.take_length] at hno
      have e0 : Vbwsap.playing s n = false := hno
      refine s_ret ev_c fun H3 e3 => ?_
      have z := k H3 (e2.trans e3)
      rw [e0] at z
      exact z
def whereI (s : State) (n : Nat) : Int := if Vbwsap.playing s n = true then 2 else if Vbwsap.queued s n = true then 1 else 0
def sp_whereabouts (c : Cs) : Sp := fun vs H Q _ => ∃ (γ : Gh) (s : State) (n : Nat), vs = [.ref γ.w, .int (n : Nat)] ∧ WS c H γ s ∧ Wf s ∧ Un3 H γ s ∧ RetV (.int (whereI s n)) H Q
theorem ev_waits {σ : L2.St} {H : Hp} {t1 t2 : TE} {γ : Gh} {s : State} {n : Nat} (ws : WS c H γ s) (W : Wf s) (un : Un3 H γ s) (h1 : Ev t1 σ H (.ref γ.w)) (h2 : Ev t2 σ H (.int (n : Nat))) : Ev (tCall (sp_waits c) [] E0 (tCons t1 (tCons t2 tNil))) σ H (.bl (Vbwsap.queued s n)) :=
  ev_callV (vs := [.ref γ.w, .int (n : Nat)]) (ea_cons h1 (ea_cons h2 ea_nil)) fun H1 e1 Q' q' => ⟨γ, s, n, rfl, ws.mono e1, W, un.mono e1, q'⟩
theorem ev_plays {σ : L2.St} {H : Hp} {t1 t2 : TE} {γ : Gh} {s : State} {n : Nat} (ws : WS c H γ s) (W : Wf s) (un : Un3 H γ s) (h1 : Ev t1 σ H (.ref γ.w)) (h2 : Ev t2 σ H (.int (n : Nat))) : Ev (tCall (sp_plays c) [] E0 (tCons t1 (tCons t2 tNil))) σ H (.bl (Vbwsap.playing s n)) :=
  ev_callV (vs := [.ref γ.w, .int (n : Nat)]) (ea_cons h1 (ea_cons h2 ea_nil)) fun H1 e1 Q' q' => ⟨γ, s, n, rfl, ws.mono e1, W, un.mono e1, q'⟩
abbrev s_whereabouts : Stmt := top 84
abbrev n_whereabouts : List Str := ["world", "number"]
abbrev p_whereabouts : List Str := ["world", "number"]
theorem sc_whereabouts : FnScope n_whereabouts p_whereabouts (defScope s_whereabouts) := ⟨rfl, rfl, rfl, by decide +kernel, rfl, by decide +kernel, by decide +kernel⟩

theorem ok_whereabouts (D : Def K mg "whereabouts" s_whereabouts p_whereabouts) (G_waits : Has P w K mg base 2 "waits" p_waits (sp_waits c)) (G_plays : Has P w K mg base 2 "plays" p_plays (sp_plays c)) : Has P w K mg base 3 "whereabouts" p_whereabouts (sp_whereabouts c) := by
  refine D.has sc_whereabouts (fun vs H Q E h => ?_) (fun f cdv A outer sh H vs Q E hr h => ?_)
  · obtain ⟨γ, s, n, rfl, _⟩ := h
    rfl
  · obtain ⟨γ, s, n, rfl, ws, W, un, k⟩ := h
    refine ⟨_, (pss_cons (ps_if (pt_val (pe_has G_waits (hr.mono (by decide)) rfl (pa_cons (pv 0) (pa_cons (pv 1) pa_nil))))
  (pss_one (ps_ret pe_int)) pss_nil)
 (pss_cons (ps_if (pt_val (pe_has G_plays (hr.mono (by decide)) rfl (pa_cons (pv 0) (pa_cons (pv 1) pa_nil))))
  (pss_one (ps_ret pe_int)) pss_nil)
 (pss_one (ps_ret pe_int)))), ?_⟩
    unfold whereI at k
    refine q_when (b := Vbwsap.queued s n) (et_B (ev_waits ws W un (ev_var rfl) (ev_var rfl))) (fun hb H1 e1 => ?_) (fun hb H1 e1 => ?_)
    · rw [if_neg (by rw [W.apart hb]; exact Bool.false_ne_true), if_pos hb] at k
      exact s_ret ev_c fun H2 e2 => k H2 (e1.trans e2)
    · refine q_when (b := Vbwsap.playing s n) (et_B (ev_plays (ws.mono e1) W (un.mono e1) (ev_var rfl) (ev_var rfl))) (fun hb2 H2 e2 => ?_) (fun hb2 H2 e2 => ?_)
      · rw [if_pos hb2] at k
        exact s_ret ev_c fun H3 e3 => k H3 ((e1.trans e2).trans e3)
      · rw [if_neg (by rw [hb2]; exact Bool.false_ne_true), if_neg (by rw [hb]; exact Bool.false_ne_true)] at k
        exact s_ret ev_c fun H3 e3 => k H3 ((e1.trans e2).trans e3)
/-! ### call 7 -/
def plAt (s : State) (z : Int) : Option Player := if z < 0 then none else Vbwsap.playerOf s z.toNat
theorem plAt_is {s : State} {z : Int} : plAt s z = s.players.find? fun p => ((p.num : Nat) : Int) == z := by
  unfold plAt Vbwsap.playerOf
  split
  · rename_i h
    rw [eq_comm, List.find?_eq_none]
    intro p _ q
    have := beq_iff_eq.mp q
    omega
  · rename_i h
    congr 1
    funext p
    rw [Bool.eq_iff_iff, beq_iff_eq, beq_iff_eq]
    omega
theorem val_player {γ : Gh} {s : State} {z : Int} : valV (pKv γ.pa s.players) (Sum.inl z) = (plAt s z).map fun x => V.ref (γ.pa x.num) := by
  rw [pKv_is, valV_kv, plAt_is]
theorem plAt_num {s : State} {z : Int} {p : Player} (h : plAt s z = some p) : p ∈ s.players ∧ ((p.num : Nat) : Int) = z := by
  rw [plAt_is] at h
  exact ⟨List.mem_of_find?_eq_some h, beq_iff_eq.mp (List.find?_some (p := fun (p : Player) => ((p.num : Nat) : Int) == z) h)⟩
def tk_rating : List Int → Option (Vbwsap.Call × Nat)
  | n :: _ => some (.rating n, 1)
  | _ => none
abbrev s_call_rating : Stmt := top 85
abbrev n_call_rating : List Str := ["world", "reader", "number", "player"]
abbrev p_call_rating : List Str := ["world", "reader"]
theorem sc_call_rating : FnScope n_call_rating p_call_rating (defScope s_call_rating) := ⟨rfl, rfl, rfl, by decide +kernel, rfl, by decide +kernel, by decide +kernel⟩

theorem ok_call_rating (T : TxtK mg) (CC : CT K c) (D : Def K mg "call_rating" s_call_rating p_call_rating) (M_take_whole : HasM P w K mg base 1 c.D "take_whole" p_Reader_take_whole (sp_take_whole K c)) (G_none_of_that_number : Has P w K mg base 1 "none_of_that_number" p_none_of_that_number (sp_no (-2)))
    (G_whereabouts : Has P w K mg base 3 "whereabouts" p_whereabouts (sp_whereabouts c)) : Has P w K mg base 4 "call_rating" p_call_rating (sp_call K c tk_rating) := by
  refine D.has sc_call_rating (fun vs H Q E h => ?_) (fun f cdv A outer sh H vs Q E hr h => ?_)
  · obtain ⟨γ, s, rd, l, i, n, ns, x, rfl, _⟩ := h
    rfl
  · obtain ⟨γ, s, rd, l, i, n, ns, x, rfl, a, ht, k⟩ := h
    refine ⟨_, (pss_cons (ps_set (i := 2) sc_call_rating.nd rfl (Or.inl rfl) (pe_hasM0 (pv 1) M_take_whole (hr.mono (by decide))))
 (pss_cons (ps_if (pt_cmp (pc_dnotin (hu_of hr) (pv 2) (pe_fld (pv 0) rfl)))
  (pss_one (ps_ret (pe_has0 G_none_of_that_number (hr.mono (by decide)) rfl))) pss_nil)
 (pss_cons (ps_set (i := 3) sc_call_rating.nd rfl (Or.inl rfl) (pe_dget (hu_of hr) (pe_fld (pv 0) rfl) (pv 2) (fun _ _ => rfl)))
 (pss_one (ps_ret (pe_lst (pa_cons pe_int (pa_cons (pe_fld (pv 3) rfl) (pa_cons (pe_fld (pv 3) rfl) (pa_cons (pe_fld (pv 3) rfl) (pa_cons (pe_fld (pv 3) rfl) (pa_cons (pe_has G_whereabouts (hr.mono (by decide)) rfl (pa_cons (pv 0) (pa_cons (pv 2) pa_nil))) pa_nil)))))))))))), ?_⟩
    obtain ⟨i1, rest, hd⟩ : ∃ i1 rest, ns.drop i = i1 :: rest := by
      unfold tk_rating at ht
      split at ht
      · rename_i q
        exact ⟨_, _, q⟩
      · cases ht
    rw [hd] at ht
    cases ht
    refine q_take a rfl (drop_at hd 0) fun H1 a1 f1 => ?_
    have k1 := k.mono f1
    have e0 : Vbwsap.step s (.rating i1) = (match plAt s i1 with | none => Vbwsap.no s 2 | some p => Vbwsap.yes s [(p.rating : Int), (p.games : Int), (p.wins : Int), (p.left : Int), whereI s p.num]) := rfl
    rw [e0] at k1
    obtain ⟨dw, hw⟩ := a1.ws.wo
    refine q_when (b := !(plAt s i1).isSome) (et_is (et_B (ev_dnotin (k := Sum.inl i1) (ev_var rfl) (ev_W CC (ev_var rfl) hw (worldF_players ..)) a1.ws.pd)) (by rw [val_player, Option.isSome_map])) (fun hb H2 e2 => ?_) (fun hb H2 e2 => ?_)
    · have hn : plAt s i1 = none := by
        cases hq : plAt s i1 with
        | none => rfl
        | some y => rw [hq] at hb; cases hb
      rw [hn] at k1
      exact s_no (k := 2) (a1.mono e2) (k1.mono (.of e2)) rfl
    · cases hq : plAt s i1 with
      | none => rw [hq] at hb; cases hb
      | some y =>
        rw [hq] at k1
        obtain ⟨hy, hyn⟩ := plAt_num hq
        subst hyn
        refine q_asg (v := .ref (γ.pa y.num)) (ev_dget (k := Sum.inl ((y.num : Nat) : Int)) (ev_W CC (ev_var rfl) (e2 _ _ hw) (worldF_players ..)) (ev_var rfl) (a1.mono e2).ws.pd (by rw [val_player, hq]; rfl)) fun H3 e3 => ?_
        have a3 := a1.mono (e2.trans e3)
        have k3 := k1.mono (.of (e2.trans e3))
        obtain ⟨dx, hx⟩ := a3.ws.ps y hy
        refine s_retL (xs := [0, (y.rating : Int), (y.games : Int), (y.wins : Int), (y.left : Int), whereI s y.num].map V.int) (el_lst (ea_cons ev_c (ea_cons (ev_P CC (ev_var rfl) hx (playerF_rating _)) (ea_cons (ev_P CC (ev_var rfl) hx (playerF_games _)) (ea_cons (ev_P CC (ev_var rfl) hx (playerF_wins _)) (ea_cons (ev_P CC (ev_var rfl) hx (playerF_leaves _)) (ea_cons (ev_callV (vs := [.ref γ.w, .int (y.num : Nat)]) (ea_cons (ev_var rfl) (ea_cons (ev_var rfl) ea_nil)) fun H4 e4 Q' q' => ⟨γ, s, y.num, rfl, a3.ws.mono e4, a3.W, a3.un.mono e4, q'⟩) ea_nil)))))) (by show 6 ≤ 100000; decide)) fun p H4 hp e4 h4 => ?_
        exact k3.same a3 hp e4 h4
/-! ### the ladder -/
def sp_ladder_place (c : Cs) : Sp := fun vs H Q _ => ∃ (a : Addr) (p : Player), vs = [.ref a] ∧ PlayerAt c H a p ∧ ∀ t H', Ex H H' → H' t = some (.tup ((keyP p).map V.int)) → Q (.ref t) H'
abbrev s_ladder_place : Stmt := top 17
abbrev n_ladder_place : List Str := ["player"]
abbrev p_ladder_place : List Str := ["player"]
theorem sc_ladder_place : FnScope n_ladder_place p_ladder_place (defScope s_ladder_place) := ⟨rfl, rfl, rfl, by decide +kernel, rfl, by decide +kernel, by decide +kernel⟩

theorem ok_ladder_place (CC : CT K c) (D : Def K mg "ladder_place" s_ladder_place p_ladder_place) : Has P w K mg base 1 "ladder_place" p_ladder_place (sp_ladder_place c) := by
  refine D.has sc_ladder_place (fun vs H Q E h => ?_) (fun f cdv A outer sh H vs Q E hr h => ?_)
  · obtain ⟨a, p, rfl, _⟩ := h
    rfl
  · obtain ⟨a, p, rfl, ⟨dx, hx⟩, k⟩ := h
    refine ⟨_, (pss_one (ps_ret (pe_tup (pa_cons (pe_un un_neg (pe_fld (pv 0) rfl)) (pa_cons (pe_fld (pv 0) rfl) (pa_cons (pe_fld (pv 0) rfl) pa_nil)))))), ?_⟩
    exact s_retTup (ea_cons (ev_un (ev_P CC (ev_var rfl) hx (playerF_rating _)) ru_neg) (ea_cons (ev_P CC (ev_var rfl) hx (playerF_games _)) (ea_cons (ev_P CC (ev_var rfl) hx (playerF_number _)) ea_nil))) (by show 3 ≤ 100000; decide) k
def sp_ladder_of (c : Cs) : Sp := fun vs H Q _ => ∃ (γ : Gh) (s : State), vs = [.ref γ.w] ∧ WS c H γ s ∧ Wf s ∧ RetL ((Vbwsap.ladder s).map fun p => V.ref (γ.pa p.num)) H Q
abbrev s_ladder_of : Stmt := top 18
abbrev n_ladder_of : List Str := ["world"]
abbrev p_ladder_of : List Str := ["world"]
theorem sc_ladder_of : FnScope n_ladder_of p_ladder_of (defScope s_ladder_of) := ⟨rfl, rfl, rfl, by decide +kernel, rfl, by decide +kernel, by decide +kernel⟩

theorem ok_ladder_of (T : TxtK mg) (CC : CT K c) (D : Def K mg "ladder_of" s_ladder_of p_ladder_of) (G_ladder_place : Has P w K mg base 1 "ladder_place" p_ladder_place (sp_ladder_place c)) : Has P w K mg base 4 "ladder_of" p_ladder_of (sp_ladder_of c) := by
  refine D.has sc_ladder_of (fun vs H Q E h => ?_) (fun f cdv A outer sh H vs Q E hr h => ?_)
  · obtain ⟨γ, s, rfl, _⟩ := h
    rfl
  · obtain ⟨γ, s, rfl, ws, W, k⟩ := h
    refine ⟨_, (pss_one (ps_ret (pe_sortedBy G_ladder_place (hr.mono (by decide)) rfl rfl T.sorted (pe_valsK (pe_fld (pv 0) rfl))))), ?_⟩
    obtain ⟨dw, hw⟩ := ws.wo
    have hvals : ((pKv γ.pa s.players).map fun kv => kv.2) = s.players.map fun p => V.ref (γ.pa p.num) := by
      unfold pKv
      rw [List.map_map]
      rfl
    let key : V → List Int := fun v => match s.players.find? (fun p => decide (V.ref (γ.pa p.num) = v)) with | some p => keyP p | none => [0, 0, 0]
    have hkey : ∀ p ∈ s.players, key (V.ref (γ.pa p.num)) = keyP p := fun p hp => by
      show (match s.players.find? (fun q => decide (V.ref (γ.pa q.num) = V.ref (γ.pa p.num))) with | some p => keyP p | none => [0, 0, 0]) = _
      cases hf : s.players.find? (fun q => decide (V.ref (γ.pa q.num) = V.ref (γ.pa p.num))) with
      | none =>
        have := List.find?_eq_none.mp hf p hp
        simp at this
      | some q =>
        have h0 := List.find?_some (p := fun (q : Player) => decide (V.ref (γ.pa q.num) = V.ref (γ.pa p.num))) hf
        have h1 := of_decide_eq_true h0
        injection h1 with h2
        have hq := List.mem_of_find?_eq_some hf
        have := num_inj W.pn hq hp (ws.inj hq hp h2)
        rw [this]
    refine s_retSorted (kvs := pKv γ.pa s.players) (key := key) (ev_W CC (ev_var rfl) hw (worldF_players ..)) ws.pd (fun x hx H1 e1 => ?_) (fun x hx => ?_) ?_
    · rw [hvals] at hx
      obtain ⟨y, hy, rfl⟩ := List.mem_map.mp hx
      rw [hkey y hy]
      intro H' sm Q' q'
      exact ⟨γ.pa y.num, y, rfl, (ws.ps y hy).mono (e1.trans fun b o h => sm b o h), fun t H'' e'' h'' => q' t H'' (fun b o h => e'' b o h) h''⟩
    · rw [hvals] at hx
      obtain ⟨y, hy, rfl⟩ := List.mem_map.mp hx
      rw [hkey y hy]
      exact ⟨_, _, _, rfl⟩
    · have hs : ((pKv γ.pa s.players).map fun kv => kv.2).mergeSort (PySem.W.dataLe false fun x => kDat (key x)) = (Vbwsap.ladder s).map fun p => V.ref (γ.pa p.num) := by
        rw [hvals, ← List.map_mergeSort (r := Vbwsap.above) (fun a ha b hb => (le3 (hkey a ha) (hkey b hb)).symm), ladder_sort W.pn]
        rfl
      rw [hs]
      exact k
def tk_ladder : List Int → Option (Vbwsap.Call × Nat) := fun _ => some (.ladder, 0)
theorem ladder_len {s : State} (W : Wf s) : (Vbwsap.ladder s).length ≤ 24 := by
  have := (sortBy_perm (f := Vbwsap.above) s.players).length_eq
  have := W.pl
  unfold Vbwsap.ladder
  omega
abbrev s_call_ladder : Stmt := top 86
abbrev n_call_ladder : List Str := ["world", "reader", "answer", "player"]
abbrev p_call_ladder : List Str := ["world", "reader"]
theorem sc_call_ladder : FnScope n_call_ladder p_call_ladder (defScope s_call_ladder) := ⟨rfl, rfl, rfl, by decide +kernel, rfl, by decide +kernel, by decide +kernel⟩

theorem ok_call_ladder (T : TxtK mg) (CC : CT K c) (D : Def K mg "call_ladder" s_call_ladder p_call_ladder) (G_ladder_of : Has P w K mg base 4 "ladder_of" p_ladder_of (sp_ladder_of c)) : Has P w K mg base 5 "call_ladder" p_call_ladder (sp_call K c tk_ladder) := by
  refine D.has sc_call_ladder (fun vs H Q E h => ?_) (fun f cdv A outer sh H vs Q E hr h => ?_)
  · obtain ⟨γ, s, rd, l, i, n, ns, x, rfl, _⟩ := h
    rfl
  · obtain ⟨γ, s, rd, l, i, n, ns, x, rfl, a, ht, k⟩ := h
    refine ⟨_, (pss_cons (ps_set (i := 2) sc_call_ladder.nd rfl (Or.inl rfl) (pe_lst (pa_cons pe_int pa_nil)))
 (pss_cons (ps_for PassesOwn.never rfl (pi_list (pe_has G_ladder_of (hr.mono (by decide)) rfl (pa_cons (pv 0) pa_nil))) (pg_name (i := 3) sc_call_ladder.nd rfl (Or.inl rfl))
  (pss_one (ps_expr (pe_bm PySem.F.plainAttrs_list PySem.F.slot_list_extend PySem.F.type_list_extend mt_extend (pv 2) (pa_cons (pe_lst (pa_cons (pe_fld (pv 3) rfl) (pa_cons (pe_fld (pv 3) rfl) pa_nil))) pa_nil)))))
 (pss_one (ps_ret (pv 2))))), ?_⟩
    cases ht
    have e0 : Vbwsap.step s .ladder = (s, 0 :: (Vbwsap.ladder s).flatMap fun p => [(p.num : Int), (p.rating : Int)]) := rfl
    rw [e0] at k
    have few : ∀ i, (((Vbwsap.ladder s).take i).flatMap fun p => [(p.num : Int), (p.rating : Int)]).length ≤ 24 * 2 := fun i => by
      have h1 := flatMap_len (f := fun (p : Player) => [(p.num : Int), (p.rating : Int)]) (n := 2) (l := (Vbwsap.ladder s).take i) (fun m hm => by show 2 ≤ 2; omega)
      have h2 := ladder_len a.W
      rw [List.length_take] at h1
      omega
    refine q_asgL (xs := ([0] : List Int).map V.int) (el_lst (ea_cons ev_c ea_nil) (by show 1 ≤ 100000; decide)) fun q H1 hq e1 h1 => ?_
    refine q_forNLn (xs := (Vbwsap.ladder s).map fun p => V.ref (γ.pa p.num)) (el_callL (vs := [.ref γ.w]) (ea_cons (ev_var rfl) ea_nil) fun H2 e2 Q' q' => ⟨γ, s, rfl, a.ws.mono (e1.trans e2), a.W, q'⟩)
      (fun r j σ' H' => Ex H H' ∧ r ≠ q ∧ H' r = some (.lst ((Vbwsap.ladder s).map fun p => V.ref (γ.pa p.num))) ∧ H' q = some (.lst (((0 : Int) :: ((Vbwsap.ladder s).take j).flatMap fun p => [(p.num : Int), (p.rating : Int)]).map V.int)) ∧ ∃ x, σ' = [some (.ref γ.w), some (.ref rd), some (.ref q), x]) (fun r H2 hr e2 h2 => ⟨e1.trans e2, (fun z => by rw [z, h1] at hr; cases hr), h2, e2 _ _ h1, none, rfl⟩) (fun r j σ' H' _ pv => sq_of pv.2.2.1) ?_ ?_
    · rintro r j v σ' H2 hj ⟨e2, nr, hr2, h2, x, rfl⟩
      rw [List.getElem?_map] at hj
      cases hjq : (Vbwsap.ladder s)[j]? with
      | none => rw [hjq] at hj; cases hj
      | some p =>
        rw [hjq] at hj
        cases hj
        have hp : p ∈ s.players := Wf.ladder_mem.mp (List.mem_of_getElem? hjq)
        obtain ⟨dx, hx⟩ := (a.ws.ps p hp).mono e2
        have hf := few j
        refine s_extL (zs := [(p.num : Int), (p.rating : Int)].map V.int) h2 (ev_var rfl) (el_lst (ea_cons (ev_P CC (ev_var rfl) hx (playerF_number _)) (ea_cons (ev_P CC (ev_var rfl) hx (playerF_rating _)) ea_nil)) (by show 2 ≤ 100000; decide)) (by rw [List.length_map, List.length_cons]; show _ + 2 ≤ _; omega) fun H3 e3 => ⟨Ex.mut (e2.trans e3) hq, nr, ?_, ?_, _, rfl⟩
        · rw [upd_ne nr]
          exact e3 _ _ hr2
        · rw [upd_same, take_more hjq, List.flatMap_append, List.flatMap_cons, List.flatMap_nil, List.append_nil, ← List.map_append]
          rfl
    · rintro r σ' H2 ⟨e2, nr, hr2, h2, x, rfl⟩
      rw [List.length_map, List.take_length] at h2
      exact s_ret (ev_var rfl) fun H3 e3 => k.same a hq (e2.trans e3) (e3 _ _ h2)
/-! ### call 9 -/
def tk_entries : List Int → Option (Vbwsap.Call × Nat) := fun _ => some (.entries, 0)
theorem entryRow_len {s : State} (W : Wf s) {e : Ent} (he : e ∈ s.entries) : (Vbwsap.entryRow s e).length ≤ 7 := by
  have := (W.ew e he).2.1
  have := W.side.2
  unfold Vbwsap.entryRow Vbwsap.ints
  rw [List.length_append, List.length_map]
  show 4 + _ ≤ 7
  omega
abbrev s_call_entries : Stmt := top 87
abbrev n_call_entries : List Str := ["world", "reader", "answer", "party"]
abbrev p_call_entries : List Str := ["world", "reader"]
theorem sc_call_entries : FnScope n_call_entries p_call_entries (defScope s_call_entries) := ⟨rfl, rfl, rfl, by decide +kernel, rfl, by decide +kernel, by decide +kernel⟩

theorem ok_call_entries (T : TxtK mg) (CC : CT K c) (D : Def K mg "call_entries" s_call_entries p_call_entries) (G_window_of : Has P w K mg base 1 "window_of" p_window_of (sp_window_of c)) (G_numbers_of : Has P w K mg base 1 "numbers_of" p_numbers_of (sp_numbers_of K c)) : Has P w K mg base 2 "call_entries" p_call_entries (sp_call K c tk_entries) := by
  refine D.has sc_call_entries (fun vs H Q E h => ?_) (fun f cdv A outer sh H vs Q E hr h => ?_)
  · obtain ⟨γ, s, rd, l, i, n, ns, x, rfl, _⟩ := h
    rfl
  · obtain ⟨γ, s, rd, l, i, n, ns, x, rfl, a, ht, k⟩ := h
    refine ⟨_, (pss_cons (ps_set (i := 2) sc_call_entries.nd rfl (Or.inl rfl) (pe_lst (pa_cons pe_int pa_nil)))
 (pss_cons (ps_lock (ps_for PassesOwn.never rfl (pi_values (pe_fld (pv 0) rfl)) (pg_name (i := 3) sc_call_entries.nd rfl (Or.inl rfl))
  (pss_cons (ps_expr (pe_bm PySem.F.plainAttrs_list PySem.F.slot_list_extend PySem.F.type_list_extend mt_extend (pv 2) (pa_cons (pe_lst (pa_cons (pe_fld (pv 3) rfl) (pa_cons (pe_fld (pv 3) rfl) (pa_cons (pe_has G_window_of (hr.mono (by decide)) rfl (pa_cons (pv 0) (pa_cons (pv 3) pa_nil))) (pa_cons (pe_callB call_len_seq (by rfl) T.len PySem.boot_len (pa_cons (pe_fld (pv 3) rfl) pa_nil)) pa_nil))))) pa_nil)))
 (pss_one (ps_expr (pe_bm PySem.F.plainAttrs_list PySem.F.slot_list_extend PySem.F.type_list_extend mt_extend (pv 2) (pa_cons (pe_has G_numbers_of (hr.mono (by decide)) rfl (pa_cons (pe_fld (pv 3) rfl) pa_nil)) pa_nil)))))))
 (pss_one (ps_ret (pv 2))))), ?_⟩
    cases ht
    have e0 : Vbwsap.step s .entries = (s, 0 :: s.entries.flatMap (Vbwsap.entryRow s)) := rfl
    rw [e0] at k
    have W := a.W
    have few : ∀ i, ((s.entries.take i).flatMap (Vbwsap.entryRow s)).length ≤ 12 * 7 := fun i => by
      have h1 := flatMap_len (f := Vbwsap.entryRow s) (n := 7) (l := s.entries.take i) (fun m hm => entryRow_len W (List.mem_of_mem_take hm))
      have h2 := W.el
      rw [List.length_take] at h1
      omega
    refine q_asgL (xs := ([0] : List Int).map V.int) (el_lst (ea_cons ev_c ea_nil) (by show 1 ≤ 100000; decide)) fun q H1 hq e1 h1 => ?_
    have a1 := a.mono e1
    have ws := a1.ws
    have un := a1.un
    obtain ⟨dw, hw⟩ := ws.wo
    have nqe : q ≠ γ.ed := fun z => by rw [z, a.un.ed] at hq; cases hq
    have off : ∀ {od : Obj} {H' : Hp} {b : Addr} {o : HO}, (∀ b o, upd H1 γ.ed (.frz od (.dK (s.entries.map fun e => (Sum.inl ((e.num : Nat) : Int), V.ref (γ.ea e.num))))) b = some o → b ≠ q → H' b = some o) → H b = some o → (HO.dK (eKv γ.ea s.entries)) ≠ o → H' b = some o := fun {od H' b o} hk hb hn => hk b o (lock_ex un.ed (e1 _ _ hb) hn) fun z => by rw [z, hq] at hb; cases hb
    refine q_forDG (l := s.entries) (fun e => Sum.inl ((e.num : Nat) : Int)) (fun e => V.ref (γ.ea e.num)) un.ed (fun od => ev_W CC (ev_var rfl) (lock_ex un.ed hw (by intro z; cases z)) (worldF_parties ..))
      (fun od j σ' H' => (∀ b o, upd H1 γ.ed (.frz od (.dK (s.entries.map fun e => (Sum.inl ((e.num : Nat) : Int), V.ref (γ.ea e.num))))) b = some o → b ≠ q → H' b = some o) ∧ H' q = some (.lst (((0 : Int) :: (s.entries.take j).flatMap (Vbwsap.entryRow s)).map V.int)) ∧ ∃ x, σ' = [some (.ref γ.w), some (.ref rd), some (.ref q), x])
      (fun od H2 e2 => ⟨fun b o hb _ => e2 _ _ hb, e2 _ _ (by rw [upd_ne nqe]; exact h1), none, rfl⟩) (fun od j σ' H' pv => pv.1 _ _ upd_same (Ne.symm nqe)) ?_ ?_
    · rintro od j e σ' H2 hj ⟨hk, h2, x, rfl⟩
      have he : e ∈ s.entries := List.mem_of_getElem? hj
      obtain ⟨de, l', h3, h4⟩ := a.ws.en e he
      have h3' := off hk h3 (by intro z; cases z)
      have h4' := off hk h4 (by intro z; cases z)
      obtain ⟨dw0, hw0⟩ := a.ws.wo
      obtain ⟨dr0, hr0⟩ := a.ws.ru
      have hew := W.ew e he
      have hsd := W.side.2
      have hf := few j
      have ws2 : WS c H2 γ s := by
        have rdd : ∀ {d : Addr} {kvs : List (Key × V)}, H d = some (.dK kvs) → Rd H2 d (.dK kvs) := fun {d kvs} hd => by
          by_cases z : d = γ.ed
          · subst z
            have z2 := a.un.ed
            rw [hd] at z2
            cases z2
            exact .inr ⟨od, hk _ _ upd_same (Ne.symm nqe)⟩
          · exact .inl (hk _ _ (by rw [upd_ne z]; exact e1 _ _ hd) fun y => by rw [y, hq] at hd; cases hd)
        refine ⟨⟨dw0, off hk hw0 (by intro z; cases z)⟩, ⟨dr0, off hk hr0 (by intro z; cases z)⟩, rdd a.un.pd, rdd a.un.ed, rdd a.un.md, fun p hp => ?_, fun e' he' => ?_, fun m hm => ?_⟩
        · obtain ⟨dx, z⟩ := a.ws.ps p hp
          exact ⟨dx, off hk z (by intro z; cases z)⟩
        · obtain ⟨dx, l9, z1, z2⟩ := a.ws.en e' he'
          exact ⟨dx, l9, off hk z1 (by intro z; cases z), off hk z2 (by intro z; cases z)⟩
        · obtain ⟨dx, l8, l9, z1, z2, z3⟩ := a.ws.ms m hm
          exact ⟨dx, l8, l9, off hk z1 (by intro z; cases z), off hk z2 (by intro z; cases z), off hk z3 (by intro z; cases z)⟩
      refine q_extL (zs := [(e.num : Int), (e.since : Int), (Vbwsap.window s e : Int), (e.who.length : Int)].map V.int) h2 (ev_var rfl) (el_lst (ea_cons (ev_E CC (ev_var rfl) h3' (entryF_number _ _)) (ea_cons (ev_E CC (ev_var rfl) h3' (entryF_since _ _)) (ea_cons (ev_callV (vs := [.ref γ.w, .ref (γ.ea e.num)]) (ea_cons (ev_var rfl) (ea_cons (ev_var rfl) ea_nil)) fun H4 e4 Q' q' => ⟨γ, s, e, rfl, ws2.mono e4, W, (ws2.en e he).mono e4, hew.2.2.1, q'⟩)
        (ea_cons (ev_is (ev_len (ev_E CC (ev_var rfl) h3' (entryF_members _ _)) (sq_of h4')) (by rw [List.length_map])) ea_nil)))) (by show 4 ≤ 100000; decide)) (by rw [List.length_map, List.length_cons]; show _ + 4 ≤ _; omega) fun H4 e4 => ?_
      have off4' : ∀ {b : Addr} {o : HO}, H2 b = some o → b ≠ q → upd H4 q (.lst ((((0 : Int) :: (s.entries.take j).flatMap (Vbwsap.entryRow s)).map V.int) ++ [(e.num : Int), (e.since : Int), (Vbwsap.window s e : Int), (e.who.length : Int)].map V.int)) b = some o := fun {b o} hb hn => by
        rw [upd_ne hn]
        exact e4 _ _ hb
      have nq3 : ∀ {b : Addr} {o : HO}, H b = some o → b ≠ q := fun {b o} hb z => by rw [z, hq] at hb; cases hb
      refine s_extL (zs := e.who.map fun n => V.int ((n : Nat) : Int)) upd_same (ev_var rfl) (el_callL (vs := [.ref l']) (ea_cons (ev_E CC (ev_var rfl) (off4' h3' (nq3 h3)) (entryF_members _ _)) ea_nil) fun H5 e5 Q' q' => ?_) (by rw [List.length_append, List.length_map, List.length_map, List.length_cons]; show _ + 4 + _ ≤ _; rw [List.length_map]; omega) fun H5 e5 => ⟨fun b o hb hn => ?_, ?_, _, rfl⟩
      · refine ⟨l', γ.pa, plOf s, e.who, rfl, sq_of (e5 _ _ (off4' h4' (nq3 h4))), fun m hm => ?_, by omega, ?_⟩
        · obtain ⟨dx, z⟩ := (a.ws.pls W (fun n hn => W.who he hn)) m hm
          exact ⟨dx, e5 _ _ (off4' (off hk z (by intro z; cases z)) (nq3 z))⟩
        · have e0 : (e.who.map fun n => V.int (((plOf s n).num : Nat) : Int)) = e.who.map fun n => V.int ((n : Nat) : Int) := by
            apply List.map_congr_left
            intro m hm
            rw [plOf_num W (W.who he hm)]
          rw [e0]
          exact q'
      · rw [upd_ne hn]
        exact e5 _ _ (off4' (hk b o hb hn) hn)
      · rw [upd_same, take_more hj, List.flatMap_append, List.flatMap_cons, List.flatMap_nil, List.append_nil]
        show some (HO.lst ((((0 : Int) :: (s.entries.take j).flatMap (Vbwsap.entryRow s)).map V.int) ++ [(e.num : Int), (e.since : Int), (Vbwsap.window s e : Int), (e.who.length : Int)].map V.int ++ (e.who.map fun n => V.int ((n : Nat) : Int)))) = some (HO.lst (((0 : Int) :: ((s.entries.take j).flatMap (Vbwsap.entryRow s) ++ Vbwsap.entryRow s e)).map V.int))
        unfold Vbwsap.entryRow
        simp only [List.map_cons, List.map_append, ints_map, List.cons_append, List.append_assoc]
    · rintro od σ' H2 ⟨hk, h2, x, rfl⟩
      rw [List.take_length] at h2
      refine s_ret (ev_var rfl) fun H3 e3 => ?_
      have e9 : Ex H (upd H2 γ.ed (.dK (eKv γ.ea s.entries))) := fun b o hb => by
        by_cases z : b = γ.ed
        · subst z
          rw [a.un.ed] at hb
          cases hb
          exact upd_same
        · rw [upd_ne z]
          exact hk b o (by rw [upd_ne z]; exact e1 _ _ hb) fun y => by rw [y, hq] at hb; cases hb
      exact k.same a hq (e9.trans e3) (e3 _ _ (by rw [upd_ne nqe]; exact h2))
end
end EM

namespace EM
open PySem PySem.Spec PyProof.Rows L2 Evl
open Vbwsap (Rules Player Match sumOf membersOf gap State)
theorem distinct_iff : ∀ {l : List Nat}, Vbwsap.distinct l = true ↔ l.Nodup
  | [] => by simp [Vbwsap.distinct]
  | x :: r => by
    unfold Vbwsap.distinct
    rw [Bool.and_eq_true, distinct_iff, List.nodup_cons]
    simp
theorem nodup_toNat {l : List Int} (h : ∀ z ∈ l, 0 ≤ z) : (l.map Int.toNat).Nodup ↔ l.Nodup := by
  induction l with
  | nil => simp
  | cons x r ih =>
    have hr := ih fun z hz => h z (List.mem_cons_of_mem _ hz)
    rw [List.map_cons, List.nodup_cons, List.nodup_cons, hr]
    have hx := h x (by simp)
    refine and_congr_left fun _ => not_congr ⟨fun hm => ?_, fun hm => List.mem_map.mpr ⟨x, hm, rfl⟩⟩
    obtain ⟨y, hy, e⟩ := List.mem_map.mp hm
    have := h y (List.mem_cons_of_mem _ hy)
    have e' : y = x := by omega
    rw [← e']
    exact hy
section
variable {K : PySem.W.Frag} {σ : L2.St} {H : Hp} {ta tb te : TE}
/-- len(set(row)) < len(row) -/
theorem ev_lenSetLt {l : Addr} {ns : List Int} (ha : Ev ta σ H (.ref l)) (hb : Ev tb σ H (.int (ns.length : Nat))) (hs : SqL K H l (ns.map V.int)) (hz : ns.length ≤ 4000) : Ev (tOp (rI0 fun i j => .bl (decide (i < j))) (tLenSetA K ta) tb) σ H (.bl (!decide ns.Nodup)) := fun H1 e Q q =>
  ha H1 e _ fun H2 e2 => ⟨l, ns, rfl, ex_l (e.trans e2) hs, hz, fun n hn hiff => hb H2 (e.trans e2) _ fun H3 e3 => ⟨_, _, rfl, rfl, by
    have z := q H3 (e2.trans e3)
    have e0 : (!decide ns.Nodup) = decide (((n : Nat) : Int) < ((ns.length : Nat) : Int)) := by
      by_cases h : ns.Nodup
      · have := hiff.mpr h
        rw [decide_eq_true h, this]
        simp
      · have h2 : ¬ n = ns.length := fun z => h (hiff.mp z)
        rw [decide_eq_false h, decide_eq_true (by omega)]
        rfl
    rw [e0] at z
    exact z⟩⟩
end
section
variable {P : Program} {w : World} {K : PySem.W.Frag} {mg : Str → Option Value} {base : Heap} {c : Cs}
def rowOk (xs : List Int) (side : Int) : Bool := if (!wIn 1 side ((xs.length : Nat) : Int) || !decide xs.Nodup) = true then false else xs.all fun z => wIn 1 999 z
def sp_is_party_row (K : PySem.W.Frag) : Sp := fun vs H Q _ => ∃ (l : Addr) (xs : List Int) (side : Int), vs = [.ref l, .int side] ∧ SqL K H l (xs.map V.int) ∧ xs.length ≤ 20 ∧ RetV (.bl (rowOk xs side)) H Q
abbrev s_is_party_row : Stmt := top 77
abbrev n_is_party_row : List Str := ["row", "side", "number"]
abbrev p_is_party_row : List Str := ["row", "side"]
theorem sc_is_party_row : FnScope n_is_party_row p_is_party_row (defScope s_is_party_row) := ⟨rfl, rfl, rfl, by decide +kernel, rfl, by decide +kernel, by decide +kernel⟩

theorem ok_is_party_row (T : TxtK mg) (D : Def K mg "is_party_row" s_is_party_row p_is_party_row) (G_within : Has P w K mg base 1 "within" p_within sp_within) : Has P w K mg base 2 "is_party_row" p_is_party_row (sp_is_party_row K) := by
  refine D.has sc_is_party_row (fun vs H Q E h => ?_) (fun f cdv A outer sh H vs Q E hr h => ?_)
  · obtain ⟨l, xs, side, rfl, _⟩ := h
    rfl
  · obtain ⟨l, xs, side, rfl, hs, hz, k⟩ := h
    refine ⟨_, (pss_cons (ps_if (PW.pt (pw_or (pt_not (pt_val (pe_has G_within (hr.mono (by decide)) rfl (pa_cons (pe_callB call_len_seq (by rfl) T.len PySem.boot_len (pa_cons (pv 0) pa_nil)) (pa_cons pe_int (pa_cons (pv 1) pa_nil)))))) (pw_or1 (pt_cmpR op_lt (pe_lenSetA rfl T.len rfl T.set (pv 0)) (pe_callB call_len_seq (by rfl) T.len PySem.boot_len (pa_cons (pv 0) pa_nil)) (nomark _)))))
  (pss_one (ps_ret pe_bl)) pss_nil)
 (pss_one (ps_ret (pe_callB (cr_all rfl) (by rfl) T.all (by decide +kernel) (pa_cons (pe_lc (own := [("number", 2)]) (g := gName 2) (tt := tYes) (te := (tCall sp_within [] E0 (tCons (tVar 2) (tCons (tC (.int 1)) (tCons (tC (.int 999)) tNil))))) rfl sc_is_party_row.nd (pi_list (pv 0)) (blkOk_by (N := n_is_party_row) (sc := defScope s_is_party_row) (by decide +kernel)) (fun _ _ _ _ _ => pg_name (i := 2) sc_is_party_row.nd rfl (Or.inl rfl)) (fun _ _ _ _ _ => pts_nil) (fun _ _ _ _ _ => (pe_has G_within (hr.mono (by decide)) rfl (pa_cons (pv 2) (pa_cons pe_int (pa_cons (pe_const T.MOST_NUMBER rfl) pa_nil)))))) pa_nil))))), ?_⟩
    unfold rowOk at k
    have hlen : ∀ {σ' : L2.St} {t : TE} {H' : Hp}, Ex H H' → Ev t σ' H' (.ref l) → Ev (tCB (rLenS K) (tCons t tNil)) σ' H' (.int ((xs.length : Nat) : Int)) := fun {σ' t H'} e h => ev_is (ev_len h (ex_l e hs)) (by rw [List.length_map])
    refine q_when (b := !wIn 1 side ((xs.length : Nat) : Int) || !decide xs.Nodup) (et_or (et_not (et_B (ev_within (hlen (Ex.refl H) (ev_var rfl)) ev_c (ev_var rfl)))) fun _ => et_test (ev_lenSetLt (ev_var rfl) (hlen (Ex.refl H) (ev_var rfl)) hs (by omega))) (fun hb H1 e1 => ?_) (fun hb H1 e1 => ?_)
    · rw [if_pos hb] at k
      exact s_ret ev_c fun H2 e2 => k H2 (e1.trans e2)
    · rw [if_neg (by rw [hb]; exact Bool.false_ne_true)] at k
      have hbs : ((xs.map fun z => wIn 1 999 z).all id) = xs.all fun z => wIn 1 999 z := by
        rw [List.all_map]
        rfl
      have hl := el_mapT (K := K) (l := xs) (te := tCall sp_within [] E0 (tCons (tVar 2) (tCons (tC (.int 1)) (tCons (tC (.int 999)) tNil)))) (σ := [some (.ref l), some (.int side), none]) (j := 2) (vs := [2]) V.int (fun z => V.bl (wIn 1 999 z)) (ev_var (i := 0) rfl) (ex_l e1 hs) (by omega) (fun _ => rfl) fun y hy H2 e2 => ev_within (ev_var rfl) ev_c ev_c
      have hl2 : (xs.map fun z => V.bl (wIn 1 999 z)) = (xs.map fun z => wIn 1 999 z).map V.bl := by
        rw [List.map_map]
        rfl
      rw [hl2] at hl
      have hv := ev_allL (K := K) hl
      rw [hbs] at hv
      exact s_ret hv fun H2 e2 => k H2 (e1.trans e2)
/-! ### call 2 -/
def tk_queue : List Int → Option (Vbwsap.Call × Nat)
  | n :: r => if 0 ≤ n ∧ n.toNat ≤ r.length ∧ n.toNat ≤ 20 then some (.queue (r.take n.toNat), 1 + n.toNat) else none
  | _ => none
theorem rowOk_iff {xs : List Int} {side : Nat} : rowOk xs (side : Nat) = false ↔ (xs.isEmpty = true ∨ side < xs.length ∨ (xs.all fun n => Vbwsap.from_ n 1 999) = false ∨ Vbwsap.distinct (xs.map Int.toNat) = false) := by
  unfold rowOk
  have e1 : (xs.all fun z => wIn 1 999 z) = xs.all fun n => Vbwsap.from_ n 1 999 := by
    congr 1
    funext z
    rw [wIn_from]
  rw [e1, wIn_from]
  have hlen : Vbwsap.from_ ((xs.length : Nat) : Int) 1 ((side : Nat) : Int) = true ↔ ¬ (xs.isEmpty = true ∨ side < xs.length) := by
    rw [from_iff]
    cases xs with
    | nil => simp
    | cons x r => simp; omega
  cases hq : Vbwsap.from_ ((xs.length : Nat) : Int) 1 ((side : Nat) : Int) with
  | false =>
    have hn : xs.isEmpty = true ∨ side < xs.length := Classical.byContradiction fun z => by
      rw [hlen.mpr z] at hq
      cases hq
    simp only [Bool.not_false, Bool.true_or, if_true]
    refine ⟨fun _ => ?_, fun _ => trivial⟩
    rcases hn with z | z
    · exact .inl z
    · exact .inr (.inl z)
  | true =>
    have hn := hlen.mp hq
    cases ha : xs.all fun n => Vbwsap.from_ n 1 999 with
    | false =>
      refine ⟨fun _ => .inr (.inr (.inl rfl)), fun _ => ?_⟩
      split <;> rfl
    | true =>
      have hp : ∀ z ∈ xs, 0 ≤ z := fun z hz => by
        have := List.all_eq_true.mp ha z hz
        rw [from_iff] at this
        omega
      have hd : Vbwsap.distinct (xs.map Int.toNat) = decide xs.Nodup := by
        rw [Bool.eq_iff_iff, distinct_iff, nodup_toNat hp]
        simp
      rw [hd]
      by_cases h : xs.Nodup
      · rw [decide_eq_true h]
        simp only [Bool.not_true, Bool.or_self, Bool.false_eq_true, if_false]
        constructor
        · intro z; cases z
        · rintro (z | z | z | z)
          · exact absurd (.inl z) hn
          · exact absurd (.inr z) hn
          · cases z
          · cases z
      · rw [decide_eq_false h]
        simp
def gEa (γ : Gh) (n : Nat) (a : Addr) : Gh := { γ with ea := fun m => if m = n then a else γ.ea m }
theorem Wf.addEntry {s : State} (W : Wf s) {who : List Nat} (h1 : 1 ≤ who.length ∧ who.length ≤ s.rules.side) (h2 : who.Nodup) (h3 : ∀ n ∈ who, ∃ p ∈ s.players, p.num = n) (h4 : ∀ n ∈ who, Vbwsap.queued s n = false ∧ Vbwsap.playing s n = false) (h5 : s.entries.length < 12) :
    Wf { s with entries := s.entries ++ [⟨s.next, who, s.now⟩], next := s.next + 1 } := by
  have hq : ∀ n ∈ who, n ∉ s.entries.flatMap fun e => e.who := fun n hn hm => by
    obtain ⟨e, he, hne⟩ := List.mem_flatMap.mp hm
    have := (h4 n hn).1
    have z : Vbwsap.queued s n = true := List.any_eq_true.mpr ⟨e, he, by simpa using hne⟩
    rw [z] at this
    cases this
  have hp : ∀ n ∈ who, n ∉ s.matches_.flatMap fun m => m.a ++ m.b := fun n hn hm => by
    obtain ⟨m, hm', hne⟩ := List.mem_flatMap.mp hm
    have := (h4 n hn).2
    have z : Vbwsap.playing s n = true := List.any_eq_true.mpr ⟨m, hm', by
      rcases List.mem_append.mp hne with q | q
      · simp [q]
      · simp [q]⟩
    rw [z] at this
    cases this
  have hfl : ((s.entries ++ [(⟨s.next, who, s.now⟩ : Ent)]).flatMap fun e => e.who) = (s.entries.flatMap fun e => e.who) ++ who := by
    rw [List.flatMap_append]
    simp
  have hmem := List.nodup_append.mp W.mem
  refine ⟨W.side, W.base, W.step, W.factor, W.range, W.fine, W.pn, W.pl, W.pr, ?_, ?_, fun e he => ?_, W.mn, fun m hm => ?_, ?_, fun n hn => ?_, W.now⟩
  · show ((s.entries ++ [(⟨s.next, who, s.now⟩ : Ent)]).map fun (e : Ent) => e.num).Nodup
    rw [List.map_append, List.nodup_append]
    refine ⟨W.en, by simp, fun a ha b hb => ?_⟩
    obtain ⟨e, he, rfl⟩ := List.mem_map.mp ha
    have hb' : b = s.next := by simpa using hb
    have := (W.ew e he).2.2.2
    omega
  · show (s.entries ++ [_]).length ≤ 12
    rw [List.length_append]
    show _ + 1 ≤ 12
    omega
  · rcases List.mem_append.mp he with z | z
    · have := W.ew e z
      exact ⟨this.1, this.2.1, this.2.2.1, Nat.lt_succ_of_lt this.2.2.2⟩
    · have hz : e = ⟨s.next, who, s.now⟩ := by simpa using z
      subst hz
      exact ⟨h1.1, h1.2, Nat.le_refl _, Nat.lt_succ_self _⟩
  · have := W.ml m hm
    exact ⟨this.1, this.2.1, Nat.lt_succ_of_lt this.2.2⟩
  · show (((s.entries ++ [(⟨s.next, who, s.now⟩ : Ent)]).flatMap fun e => e.who) ++ s.matches_.flatMap fun m => m.a ++ m.b).Nodup
    rw [hfl, List.nodup_append, List.nodup_append]
    refine ⟨⟨hmem.1, h2, fun a ha b hb z => hq b hb (by rw [← z]; exact ha)⟩, hmem.2.1, fun a ha b hb z => ?_⟩
    rcases List.mem_append.mp ha with q | q
    · exact hmem.2.2 a q b hb z
    · exact hp a q (by rw [z]; exact hb)
  · change n ∈ ((s.entries ++ [(⟨s.next, who, s.now⟩ : Ent)]).flatMap fun e => e.who) ++ s.matches_.flatMap fun m => m.a ++ m.b at hn
    rw [hfl] at hn
    rcases List.mem_append.mp hn with q | q
    · rcases List.mem_append.mp q with q | q
      · exact W.inp n (List.mem_append_left _ q)
      · exact h3 n q
    · exact W.inp n (List.mem_append_right _ q)
abbrev s_call_queue : Stmt := top 78
abbrev n_call_queue : List Str := ["world", "reader", "row", "members", "party", "number"]
abbrev p_call_queue : List Str := ["world", "reader"]
theorem sc_call_queue : FnScope n_call_queue p_call_queue (defScope s_call_queue) := ⟨rfl, rfl, rfl, by decide +kernel, rfl, by decide +kernel, by decide +kernel⟩

theorem ok_call_queue (T : TxtK mg) (CC : CT K c) (D : Def K mg "call_queue" s_call_queue p_call_queue) (M_take_row : HasM P w K mg base 2 c.D "take_row" p_Reader_take_row (sp_take_row K c)) (M_take_number : HasM P w K mg base 1 c.W "take_number" p_World_take_number (sp_take_number c))
    (G_is_party_row : Has P w K mg base 2 "is_party_row" p_is_party_row (sp_is_party_row K)) (G_out_of_range : Has P w K mg base 1 "out_of_range" p_out_of_range (sp_no (-1))) (G_none_of_that_number : Has P w K mg base 1 "none_of_that_number" p_none_of_that_number (sp_no (-2)))
    (G_not_the_time : Has P w K mg base 1 "not_the_time" p_not_the_time (sp_no (-3))) (G_no_place : Has P w K mg base 1 "no_place" p_no_place (sp_no (-5))) (G_waits : Has P w K mg base 2 "waits" p_waits (sp_waits c)) (G_plays : Has P w K mg base 2 "plays" p_plays (sp_plays c))
    (C_Party : HasC P w K mg base 1 "Party" c.E p_Party___init__ (sp_Party c)) :
    Has P w K mg base 3 "call_queue" p_call_queue (sp_call K c tk_queue) := by
  refine D.has sc_call_queue (fun vs H Q E h => ?_) (fun f cdv A outer sh H vs Q E hr h => ?_)
  · obtain ⟨γ, s, rd, l, i, n, ns, x, rfl, _⟩ := h
    rfl
  · obtain ⟨γ, s, rd, l, i, n, ns, x, rfl, a, ht, k⟩ := h
    refine ⟨_, (pss_cons (ps_set (i := 2) sc_call_queue.nd rfl (Or.inl rfl) (pe_hasM0 (pv 1) M_take_row (hr.mono (by decide))))
 (pss_cons (ps_if (pt_not (pt_val (pe_has G_is_party_row (hr.mono (by decide)) rfl (pa_cons (pv 2) (pa_cons (pe_fld (pe_fld (pv 0) rfl) rfl) pa_nil)))))
  (pss_one (ps_ret (pe_has0 G_out_of_range (hr.mono (by decide)) rfl))) pss_nil)
 (pss_cons (ps_if (pt_val (pe_callB (cr_any rfl) (by rfl) T.any (by decide +kernel) (pa_cons (pe_lc (own := [("number", 5)]) (g := gName 5) (tt := tYes) (te := (tDNotIn (tVar 5) (tFld K (tVar 0) "players"))) rfl sc_call_queue.nd (pi_list (pv 2)) (blkOk_by (N := n_call_queue) (sc := defScope s_call_queue) (by decide +kernel)) (fun _ _ _ _ _ => pg_name (i := 5) sc_call_queue.nd rfl (Or.inl rfl)) (fun _ _ _ _ _ => pts_nil) (fun _ _ _ _ _ => (pe_cmp (pc_dnotin (hu_of hr) (pv 5) (pe_fld (pv 0) rfl))))) pa_nil)))
  (pss_one (ps_ret (pe_has0 G_none_of_that_number (hr.mono (by decide)) rfl))) pss_nil)
 (pss_cons (ps_if (pt_val (pe_callB (cr_any rfl) (by rfl) T.any (by decide +kernel) (pa_cons (pe_lc (own := [("number", 5)]) (g := gName 5) (tt := tYes) (te := (tOrV (tCall (sp_waits c) [] E0 (tCons (tVar 0) (tCons (tVar 5) tNil))) (tCall (sp_plays c) [] E0 (tCons (tVar 0) (tCons (tVar 5) tNil))))) rfl sc_call_queue.nd (pi_list (pv 2)) (blkOk_by (N := n_call_queue) (sc := defScope s_call_queue) (by decide +kernel)) (fun _ _ _ _ _ => pg_name (i := 5) sc_call_queue.nd rfl (Or.inl rfl)) (fun _ _ _ _ _ => pts_nil) (fun _ _ _ _ _ => (pe_or (pe_has G_waits (hr.mono (by decide)) rfl (pa_cons (pv 0) (pa_cons (pv 5) pa_nil))) (pe_one (pe_has G_plays (hr.mono (by decide)) rfl (pa_cons (pv 0) (pa_cons (pv 5) pa_nil))))))) pa_nil)))
  (pss_one (ps_ret (pe_has0 G_not_the_time (hr.mono (by decide)) rfl))) pss_nil)
 (pss_cons (ps_if (pt_cmpR op_ge (pe_callB call_lenD (by rfl) T.len PySem.boot_len (pa_cons (pe_fld (pv 0) rfl) pa_nil)) (pe_const T.MOST_PARTIES rfl) (nomark _))
  (pss_one (ps_ret (pe_has0 G_no_place (hr.mono (by decide)) rfl))) pss_nil)
 (pss_cons (ps_setLc (i := 3) (own := [("number", 5)]) (g := gName 5) (tt := tYes) (te := (tDGet (tFld K (tVar 0) "players") (tVar 5))) rfl sc_call_queue.nd rfl rfl (sw_true rfl rfl rfl (by decide +kernel)) (pi_list (pv 2)) (blkOk_by (N := n_call_queue) (sc := defScope s_call_queue) (by decide +kernel)) (fun _ _ _ _ _ => pg_name (i := 5) sc_call_queue.nd rfl (Or.inl rfl)) (fun _ _ _ _ _ => pts_nil) (fun _ _ _ _ _ => (pe_dget (hu_of hr) (pe_fld (pv 0) rfl) (pv 5) (fun _ _ => rfl))))
 (pss_cons (ps_set (i := 4) sc_call_queue.nd rfl (Or.inl rfl) (pe_hasC C_Party (hr.mono (by decide)) rfl (pa_cons (pe_hasM0 (pv 0) M_take_number (hr.mono (by decide))) (pa_cons (pv 3) (pa_cons (pe_fld (pv 0) rfl) pa_nil)))))
 (pss_cons (ps_dput (hu_of hr) (pe_fld (pv 0) rfl) (pe_fld (pv 4) rfl) (pv 4) rfl)
 (pss_one (ps_ret (pe_lst (pa_cons pe_int (pa_cons (pe_fld (pv 4) rfl) pa_nil))))))))))))), ?_⟩
    obtain ⟨nr, rest, hd⟩ : ∃ nr rest, ns.drop i = nr :: rest := by
      unfold tk_queue at ht
      split at ht
      · rename_i q
        exact ⟨_, _, q⟩
      · cases ht
    rw [hd] at ht
    have ht' : (if 0 ≤ nr ∧ nr.toNat ≤ rest.length ∧ nr.toNat ≤ 20 then some (Vbwsap.Call.queue (rest.take nr.toNat), 1 + nr.toNat) else none) = some (x, n) := ht
    split at ht'
    case isFalse => cases ht'
    case isTrue hc =>
    cases ht'
    obtain ⟨hc1, hc2, hc3⟩ := hc
    obtain ⟨m, hm⟩ : ∃ m : Nat, nr = (m : Nat) := ⟨nr.toNat, by omega⟩
    subst hm
    rw [Int.toNat_natCast] at *
    have hrest : ns.drop (i + 1) = rest := by
      have := congrArg List.tail hd
      rw [List.tail_drop] at this
      exact this
    have hnl : i + 1 + m ≤ ns.length := by
      have := congrArg List.length hrest
      rw [List.length_drop] at this
      have h2 := congrArg List.length hd
      rw [List.length_drop, List.length_cons] at h2
      omega
    refine q_takeRow a rfl (drop_at hd 0) hnl fun p H1 hp a1 f1 h1 => ?_
    rw [hrest] at h1
    have k1 := k.mono f1
    rw [show i + (1 + m) = i + 1 + m by omega] at k1
    generalize hxs : rest.take m = xs at *
    have hxl : xs.length ≤ 20 := by
      rw [← hxs, List.length_take]
      omega
    obtain ⟨dw, hw⟩ := a1.ws.wo
    obtain ⟨dr, hru⟩ := a1.ws.ru
    refine q_when (b := !rowOk xs (s.rules.side : Nat)) (et_not (et_B (ev_callV (vs := [.ref p, .int (s.rules.side : Nat)]) (ea_cons (ev_var rfl) (ea_cons (ev_R CC (ev_W CC (ev_var rfl) hw (worldF_rules ..)) hru (rulesF_side _)) ea_nil)) fun H2 e2 Q' q' => ⟨p, xs, _, rfl, sq_of (e2 _ _ h1), hxl, q'⟩))) (fun hb H2 e2 => ?_) (fun hb H2 e2 => ?_)
    · have hb' : rowOk xs (s.rules.side : Nat) = false := by simpa using hb
      have e0 : Vbwsap.step s (.queue xs) = (s, [-((1 : Nat) : Int)]) := if_pos (rowOk_iff.mp hb')
      rw [e0] at k1
      exact s_no (k := 1) (a1.mono e2) (k1.mono (.of e2)) rfl
    · have hb' : ¬ (xs.isEmpty = true ∨ s.rules.side < xs.length ∨ (xs.all fun n => Vbwsap.from_ n 1 999) = false ∨ Vbwsap.distinct (xs.map Int.toNat) = false) := fun z => by
        rw [rowOk_iff.mpr z] at hb
        cases hb
      have e0 : Vbwsap.step s (.queue xs) = (if (xs.all (Vbwsap.isPlayer s)) = false then Vbwsap.no s 2
          else if (xs.any fun n => Vbwsap.queued s n.toNat || Vbwsap.playing s n.toNat) = true then Vbwsap.no s 3
          else if Vbwsap.ENTRIES ≤ s.entries.length then Vbwsap.no s 5
          else Vbwsap.yes { s with entries := s.entries ++ [{ num := s.next, who := xs.map Int.toNat, since := s.now }], next := s.next + 1 } [(s.next : Int)]) := if_neg hb'
      rw [e0] at k1
      have hpos : ∀ z ∈ xs, 0 ≤ z := fun z hz => by
        have hall : (xs.all fun n => Vbwsap.from_ n 1 999) = true := by
          cases hq : xs.all fun n => Vbwsap.from_ n 1 999 with
          | true => rfl
          | false => exact absurd (.inr (.inr (.inl hq))) hb'
        have := List.all_eq_true.mp hall z hz
        rw [from_iff] at this
        omega
      have a2 := a1.mono e2
      have k2 := k1.mono (.of e2)
      have h2 := e2 _ _ h1
      -- any([number not in world.players ..])
      have hl1 := el_mapT (K := K) (l := xs) (te := tDNotIn (tVar 5) (tFld K (tVar 0) "players")) (σ := [some (.ref γ.w), some (.ref rd), some (.ref p), none, none, none]) (j := 5) (vs := [5]) V.int (fun z => V.bl (!Vbwsap.isPlayer s z)) (ev_var (i := 2) rfl) (sq_of h2) (by omega) (fun _ => rfl) fun y hy H3 e3 =>
        ev_is (ev_dnotin (k := Sum.inl y) (ev_var rfl) (ev_W CC (ev_var rfl) ((e2.trans e3) _ _ hw) (worldF_players ..)) (ex_rd e3 a2.ws.pd)) (by rw [pKv_is, val_some]; rfl)
      have hl1' : (xs.map fun z => V.bl (!Vbwsap.isPlayer s z)) = (xs.map fun z => !Vbwsap.isPlayer s z).map V.bl := by
        rw [List.map_map]
        rfl
      rw [hl1'] at hl1
      have hb1 : ((xs.map fun z => !Vbwsap.isPlayer s z).any id) = !xs.all (Vbwsap.isPlayer s) := by
        rw [List.any_map, List.not_all_eq_any_not]
        rfl
      have hv1 := ev_anyL (K := K) hl1
      rw [hb1] at hv1
      refine q_when (b := !xs.all (Vbwsap.isPlayer s)) (et_B hv1) (fun hb3 H3 e3 => ?_) (fun hb3 H3 e3 => ?_)
      · rw [if_pos (by simpa using hb3)] at k2
        exact s_no (k := 2) (a2.mono e3) (k2.mono (.of e3)) rfl
      · have hall : xs.all (Vbwsap.isPlayer s) = true := by simpa using hb3
        rw [if_neg (by rw [hall]; exact Bool.noConfusion)] at k2
        have a3 := a2.mono e3
        have k3 := k2.mono (.of e3)
        have h3 := e3 _ _ h2
        have hl2 := el_mapT (K := K) (l := xs) (te := tOrV (tCall (sp_waits c) [] E0 (tCons (tVar 0) (tCons (tVar 5) tNil))) (tCall (sp_plays c) [] E0 (tCons (tVar 0) (tCons (tVar 5) tNil)))) (σ := [some (.ref γ.w), some (.ref rd), some (.ref p), none, none, none]) (j := 5) (vs := [5]) V.int (fun z => V.bl (Vbwsap.queued s z.toNat || Vbwsap.playing s z.toNat)) (ev_var (i := 2) rfl) (sq_of h3) (by omega) (fun _ => rfl) fun y hy H4 e4 => by
          obtain ⟨n, rfl⟩ : ∃ n : Nat, y = (n : Nat) := ⟨y.toNat, by have := hpos y hy; omega⟩
          rw [Int.toNat_natCast]
          exact ev_orV (ev_waits (a3.ws.mono e4) a3.W (a3.un.mono e4) (ev_var rfl) (ev_var rfl)) fun _ => ev_plays (a3.ws.mono e4) a3.W (a3.un.mono e4) (ev_var rfl) (ev_var rfl)
        have hl2' : (xs.map fun z => V.bl (Vbwsap.queued s z.toNat || Vbwsap.playing s z.toNat)) = (xs.map fun z => Vbwsap.queued s z.toNat || Vbwsap.playing s z.toNat).map V.bl := by
          rw [List.map_map]
          rfl
        rw [hl2'] at hl2
        have hb2 : ((xs.map fun z => Vbwsap.queued s z.toNat || Vbwsap.playing s z.toNat).any id) = xs.any fun z => Vbwsap.queued s z.toNat || Vbwsap.playing s z.toNat := by
          rw [List.any_map]
          rfl
        have hv2 := ev_anyL (K := K) hl2
        rw [hb2] at hv2
        refine q_when (b := xs.any fun z => Vbwsap.queued s z.toNat || Vbwsap.playing s z.toNat) (et_B hv2) (fun hb4 H4 e4 => ?_) (fun hb4 H4 e4 => ?_)
        · rw [if_pos hb4] at k3
          exact s_no (k := 3) (a3.mono e4) (k3.mono (.of e4)) rfl
        · rw [if_neg (by rw [hb4]; exact Bool.noConfusion)] at k3
          have a4 := a3.mono e4
          have k4 := k3.mono (.of e4)
          have h4 := e4 _ _ h3
          obtain ⟨dw4, hw4⟩ := a4.ws.wo
          refine q_when (b := decide (12 ≤ s.entries.length)) (et_is (et_test (ev_op (ev_lenD (ev_W CC (ev_var rfl) hw4 (worldF_parties ..)) a4.un.ed) ev_c rv_I0)) (by unfold eKv; rw [List.length_map]; exact decide_eq_decide.mpr (by omega))) (fun hb5 H5 e5 => ?_) (fun hb5 H5 e5 => ?_)
          · rw [if_pos (show Vbwsap.ENTRIES ≤ s.entries.length from of_decide_eq_true hb5)] at k4
            exact s_no (k := 5) (a4.mono e5) (k4.mono (.of e5)) rfl
          · have hlt : ¬ 12 ≤ s.entries.length := of_decide_eq_false hb5
            rw [if_neg (show ¬ Vbwsap.ENTRIES ≤ s.entries.length from hlt)] at k4
            have a5 := a4.mono e5
            have k5 := k4.mono (.of e5)
            have h5 := e5 _ _ h4
            have hin : ∀ n ∈ xs.map Int.toNat, ∃ p ∈ s.players, p.num = n := fun n hn => by
              obtain ⟨z, hz, rfl⟩ := List.mem_map.mp hn
              obtain ⟨p, hp, e⟩ := List.any_eq_true.mp (List.all_eq_true.mp hall z hz)
              have := beq_iff_eq.mp e
              exact ⟨p, hp, by omega⟩
            -- members = [world.players[number] ..]
            have hl3 := el_mapT (K := K) (l := xs) (te := tDGet (tFld K (tVar 0) "players") (tVar 5)) (σ := [some (.ref γ.w), some (.ref rd), some (.ref p), none, none, none]) (j := 5) (vs := [5]) V.int (fun z => V.ref (γ.pa z.toNat)) (ev_var (i := 2) rfl) (sq_of h5) (by omega) (fun _ => rfl) fun y hy H6 e6 => by
              refine ev_dget (k := Sum.inl y) (ev_W CC (ev_var rfl) ((e5.trans e6) _ _ hw4) (worldF_players ..)) (ev_var rfl) (ex_rd e6 a5.ws.pd) ?_
              rw [val_player]
              obtain ⟨p, hp, e⟩ := List.any_eq_true.mp (List.all_eq_true.mp hall y hy)
              have e' := beq_iff_eq.mp e
              have hpl : plAt s y = some p := by
                unfold plAt Vbwsap.playerOf
                rw [if_neg (by omega), ← find_num a5.W.pn hp]
                congr 1
                funext q
                congr 1
                omega
              rw [hpl]
              show some (V.ref (γ.pa p.num)) = _
              rw [show p.num = y.toNat by omega]
            refine q_asgL hl3 fun lm H6 hlm e6 h6 => ?_
            have a6 := a5.mono e6
            have k6 := k5.mono (.of e6)
            obtain ⟨dw6, hw6⟩ := a6.ws.wo
            have h6' : H6 lm = some (.lst ((xs.map Int.toNat).map fun n => V.ref (γ.pa n))) := by
              rw [h6, List.map_map]
              rfl
            -- party = Party(world.take_number(), members, world.tick)
            refine ⟨.ref γ.w, rfl, γ.w, dw6, _, rfl, hw6, worldF_no _ _ _ _ _ _ _ _ (by decide +kernel), ?_⟩
            refine ⟨γ.w, dw6, _, _, _, _, _, _, _, _, rfl, hw6, fun H7 e7 h7 => ?_⟩
            refine ev_var (v := .ref lm) (i := 3) rfl H7 (Ex.refl _) _ fun H8 e8 => ?_
            refine ev_W CC (ev_var (i := 0) rfl) (e8 _ _ h7) (worldF_tick ..) H8 (Ex.refl _) _ fun H9 e9 => ?_
            intro y dy ny nd ne
            refine ⟨H9, y, dy, lm, ⟨s.next, xs.map Int.toNat, s.now⟩, rfl, made_ex ny nd, ny, made_at, fun H10 e10 h10 => ⟨rfl, ?_⟩⟩
            have e710 := (e8.trans e9).trans e10
            have nlw : lm ≠ γ.w := ne_of h6 hw6 (by intro z; cases z)
            have h10' := e710 _ _ (e7 _ _ h6' nlw)
            obtain ⟨dr6, hr6⟩ := a6.rd
            have nrw : rd ≠ γ.w := fun z => by
              rw [z, hw6] at hr6
              have := Option.some.inj hr6
              injection this with _ _ h3
              exact absurd (congrArg List.length h3) (by show ¬ (8 = 2); decide)
            have hed : H10 γ.ed = some (.dK (eKv γ.ea s.entries)) := e710 _ _ (e7 _ _ a6.un.ed (ne_of a6.un.ed hw6 (by intro z; cases z)))
            show tSeq (sDPut (tFld K (tVar 0) "parties") (tFld K (tVar 4) "number") (tVar 4)) _ _ [some (.ref γ.w), some (.ref rd), some (.ref p), some (.ref lm), some (.ref y), none] H10
            refine q_put (k := Sum.inl ((s.next : Nat) : Int)) (ev_var rfl) (ev_W CC (ev_var rfl) (e710 _ _ h7) (worldF_parties ..)) (ev_E CC (ev_var rfl) h10 (entryF_number _ _)) hed (by unfold eKv; rw [List.length_map]; omega) fun H11 e11 => ?_
            have hagree : ∀ e ∈ s.entries, (gEa γ s.next y).ea e.num = γ.ea e.num := fun e he => by
              have := (a6.W.ew e he).2.2.2
              show (if e.num = s.next then y else γ.ea e.num) = _
              rw [if_neg (by omega)]
            have hy : (gEa γ s.next y).ea s.next = y := if_pos rfl
            have hput : putK (eKv γ.ea s.entries) (Sum.inl ((s.next : Nat) : Int)) (V.ref y) = eKv (gEa γ s.next y).ea (s.entries ++ [⟨s.next, xs.map Int.toNat, s.now⟩]) := by
              rw [eKv_is, eKv_is, ← kvOf_congr hagree]
              have z := putK_kv (num := fun (e : Ent) => e.num) (adr := (gEa γ s.next y).ea) (y := (⟨s.next, xs.map Int.toNat, s.now⟩ : Ent)) (l := s.entries) (fun e he => by have := (a6.W.ew e he).2.2.2; show e.num ≠ s.next; omega)
              rw [← z]
              show putK _ (Sum.inl ((s.next : Nat) : Int)) (V.ref y) = putK _ (Sum.inl ((s.next : Nat) : Int)) (V.ref ((gEa γ s.next y).ea s.next))
              rw [hy]
            rw [hput]
            have eB : ExB (S3 γ) H6 (upd H11 γ.ed (.dK (eKv (gEa γ s.next y).ea (s.entries ++ [⟨s.next, xs.map Int.toNat, s.now⟩])))) := ((e7.mono fun b hb => .inl hb).trans (.of (e710.trans e11))).trans (ExB.upd (.inr (.inr (.inl rfl))))
            obtain ⟨lr, lp, le, lmm⟩ := lists_of a6.ws a6.un eB
            have hG : upd H11 γ.ed (.dK (eKv (gEa γ s.next y).ea (s.entries ++ [⟨s.next, xs.map Int.toNat, s.now⟩]))) γ.ed = some (.dK (eKv (gEa γ s.next y).ea (s.entries ++ [⟨s.next, xs.map Int.toNat, s.now⟩]))) := upd_same
            have st : ∀ {b : Addr} {o : HO}, H10 b = some o → b ≠ γ.ed → upd H11 γ.ed (.dK (eKv (gEa γ s.next y).ea (s.entries ++ [⟨s.next, xs.map Int.toNat, s.now⟩]))) b = some o := fun {b o} hb hn => by
              rw [upd_ne hn]
              exact e11 _ _ hb
            have hpd := st (e710 _ _ (e7 _ _ a6.un.pd (ne_of a6.un.pd hw6 (by intro z; cases z)))) a6.ap.pe
            have hmd := st (e710 _ _ (e7 _ _ a6.un.md (ne_of a6.un.md hw6 (by intro z; cases z)))) a6.ap.em.symm
            have hwG := st (e710 _ _ h7) (ne_of hw6 a6.un.ed (by intro z; cases z))
            have hyG := st h10 (ne_of h10 hed (by intro z; cases z))
            have hlG := st h10' (ne_of h10' hed (by intro z; cases z))
            have hrG := st (e710 _ _ (e7 _ _ hr6 nrw)) (ne_of hr6 a6.un.ed (by intro z; cases z))
            generalize upd H11 γ.ed (.dK (eKv (gEa γ s.next y).ea (s.entries ++ [⟨s.next, xs.map Int.toNat, s.now⟩]))) = G at *
            have un12 : Un3 G (gEa γ s.next y) { s with entries := s.entries ++ [⟨s.next, xs.map Int.toNat, s.now⟩], next := s.next + 1 } := ⟨hpd, hG, hmd⟩
            have ws12 : WS c G (gEa γ s.next y) { s with entries := s.entries ++ [⟨s.next, xs.map Int.toNat, s.now⟩], next := s.next + 1 } := by
              refine ⟨⟨dw6, hwG⟩, lr, .inl hpd, .inl hG, .inl hmd, lp, fun e he => ?_, lmm⟩
              rcases List.mem_append.mp he with z | z
              · rw [hagree e z]
                exact le e z
              · have hz : e = ⟨s.next, xs.map Int.toNat, s.now⟩ := by simpa using z
                subst hz
                show EntryAt c G γ.pa ((gEa γ s.next y).ea s.next) _
                rw [hy]
                exact ⟨dy, lm, hyG, hlG⟩
            have f12 : Fr H6 G := Fr.three a6.ws a6.un eB ws12 un12 rfl rfl rfl rfl
            have hW12 : Wf { s with entries := s.entries ++ [⟨s.next, xs.map Int.toNat, s.now⟩], next := s.next + 1 } := by
              refine a6.W.addEntry ?_ ?_ hin (fun n hn => ?_) (by omega)
              · rw [List.length_map]
                have h1' : ¬ s.rules.side < xs.length := fun z => hb' (.inr (.inl z))
                have h2' : ¬ xs.isEmpty = true := fun z => hb' (.inl z)
                refine ⟨?_, by omega⟩
                cases xs with
                | nil => exact absurd rfl h2'
                | cons x r => rw [List.length_cons]; omega
              · rw [← distinct_iff]
                cases hq : Vbwsap.distinct (xs.map Int.toNat) with
                | true => rfl
                | false => exact absurd (.inr (.inr (.inr hq))) hb'
              · obtain ⟨z, hz, rfl⟩ := List.mem_map.mp hn
                have := List.any_eq_false.mp hb4 z hz
                simpa using this
            have a12 : At K c G (gEa γ s.next y) { s with entries := s.entries ++ [⟨s.next, xs.map Int.toNat, s.now⟩], next := s.next + 1 } rd l (i + 1 + m) ns := ⟨ws12, hW12, un12, ⟨a6.ap.pe, a6.ap.pm, a6.ap.em⟩, ⟨dr6, hrG⟩, f12.frm.seq a6.sq⟩
            refine s_retL (xs := ([0, (s.next : Int)]).map V.int) (el_lst (ea_cons ev_c (ea_cons (ev_E CC (ev_var rfl) hyG (entryF_number _ _)) ea_nil)) (by show 2 ≤ 100000; decide)) fun p' H13 hp' e13 h13 => ?_
            exact k6 (gEa γ s.next y) p' H13 rfl (a12.mono e13) (f12.trans (.of e13)) (f12.dm p' hp') h13
end
end EM

namespace EM
open PySem PySem.Spec PyProof.Rows L2 Evl
open Vbwsap (Rules Player Match sumOf membersOf gap State)
/-! ### the calls in the flat list -/
def tkRow : List Int → Option (List Int × Nat)
  | n :: r => if 0 ≤ n ∧ n.toNat ≤ r.length ∧ n.toNat ≤ 20 then some (r.take n.toNat, 1 + n.toNat) else none
  | [] => none
def tk_two (f : List Int → List Int → Vbwsap.Call) (l : List Int) : Option (Vbwsap.Call × Nat) :=
  match tkRow l with
  | none => none
  | some (a, n) => match tkRow (l.drop n) with
    | none => none
    | some (b, m) => some (f a b, n + m)
def tk_one (f : Int → Vbwsap.Call) : List Int → Option (Vbwsap.Call × Nat)
  | e :: _ => some (f e, 1)
  | _ => none
def tk_row (f : List Int → Vbwsap.Call) (l : List Int) : Option (Vbwsap.Call × Nat) :=
  match tkRow l with
  | none => none
  | some (a, n) => some (f a, n)
def tk_non (x : Vbwsap.Call) : List Int → Option (Vbwsap.Call × Nat) := fun _ => some (x, 0)
def tks20 : List (List Int → Option (Vbwsap.Call × Nat)) := [tk_begin, tk_player, tk_queue, tk_unqueue, tk_tick, tk_result, tk_leave, tk_rating, tk_ladder, tk_entries, tk_non .matches_, tk_two .expect, tk_two .judge, tk_one .best, tk_non .season, tk_non .sums, tk_row .split, tk_one .window, tk_non .state, tk_one .remove]
def tkN (j : Nat) : List Int → Option (Vbwsap.Call × Nat) := tks20.getD j fun _ => none
def tkAny : List Int → Option (Vbwsap.Call × Nat)
  | p :: r => if 0 ≤ p then (tkN p.toNat r).map fun x => (x.1, x.2 + 1) else none
  | [] => none
theorem shape_cases {p : Int} {n k : Nat} (h : PyVbwsap.shape p = some (n, k)) : (p = 0 ∧ n = 6 ∧ k = 0) ∨ (p = 1 ∧ n = 2 ∧ k = 0) ∨ (p = 2 ∧ n = 0 ∧ k = 1) ∨ (p = 3 ∧ n = 1 ∧ k = 0) ∨ (p = 4 ∧ n = 1 ∧ k = 0) ∨ (p = 5 ∧ n = 2 ∧ k = 0) ∨ (p = 6 ∧ n = 2 ∧ k = 0) ∨ (p = 7 ∧ n = 1 ∧ k = 0) ∨ (p = 8 ∧ n = 0 ∧ k = 0) ∨ (p = 9 ∧ n = 0 ∧ k = 0) ∨
    (p = 10 ∧ n = 0 ∧ k = 0) ∨ (p = 11 ∧ n = 0 ∧ k = 2) ∨ (p = 12 ∧ n = 0 ∧ k = 2) ∨ (p = 13 ∧ n = 1 ∧ k = 0) ∨ (p = 14 ∧ n = 0 ∧ k = 0) ∨ (p = 15 ∧ n = 0 ∧ k = 0) ∨ (p = 16 ∧ n = 0 ∧ k = 1) ∨ (p = 17 ∧ n = 1 ∧ k = 0) ∨ (p = 18 ∧ n = 0 ∧ k = 0) ∨ (p = 19 ∧ n = 1 ∧ k = 0) := by
  unfold PyVbwsap.shape at h
  by_cases h0 : p = 0
  · rw [if_pos h0] at h
    cases h
    exact Or.inl ⟨h0, rfl, rfl⟩
  rw [if_neg h0] at h
  by_cases h1 : p = 1
  · rw [if_pos h1] at h
    cases h
    exact Or.inr (Or.inl ⟨h1, rfl, rfl⟩)
  rw [if_neg h1] at h
  by_cases h2 : p = 2
  · rw [if_pos h2] at h
    cases h
    exact Or.inr (Or.inr (Or.inl ⟨h2, rfl, rfl⟩))
  rw [if_neg h2] at h
  by_cases h3 : p = 3
  · rw [if_pos h3] at h
    cases h
    exact Or.inr (Or.inr (Or.inr (Or.inl ⟨h3, rfl, rfl⟩)))
  rw [if_neg h3] at h
  by_cases h4 : p = 4
  · rw [if_pos h4] at h
    cases h
    exact Or.inr (Or.inr (Or.inr (Or.inr (Or.inl ⟨h4, rfl, rfl⟩))))
  rw [if_neg h4] at h
  by_cases h5 : p = 5
  · rw [if_pos h5] at h
    cases h
    exact Or.inr (Or.inr (Or.inr (Or.inr (Or.inr (Or.inl ⟨h5, rfl, rfl⟩)))))
  rw [if_neg h5] at h
  by_cases h6 : p = 6
  · rw [if_pos h6] at h
    cases h
    exact Or.inr (Or.inr (Or.inr (Or.inr (Or.inr (Or.inr (Or.inl ⟨h6, rfl, rfl⟩))))))
  rw [if_neg h6] at h
  by_cases h7 : p = 7
  · rw [if_pos h7] at h
    cases h
    exact Or.inr (Or.inr (Or.inr (Or.inr (Or.inr (Or.inr (Or.inr (Or.inl ⟨h7, rfl, rfl⟩)))))))
  rw [if_neg h7] at h
  by_cases h8 : p = 8
  · rw [if_pos h8] at h
    cases h
    exact Or.inr (Or.inr (Or.inr (Or.inr (Or.inr (Or.inr (Or.inr (Or.inr (Or.inl ⟨h8, rfl, rfl⟩))))))))
  rw [if_neg h8] at h
  by_cases h9 : p = 9
  · rw [if_pos h9] at h
    cases h
    exact Or.inr (Or.inr (Or.inr (Or.inr (Or.inr (Or.inr (Or.inr (Or.inr (Or.inr (Or.inl ⟨h9, rfl, rfl⟩)))))))))
  rw [if_neg h9] at h
  by_cases h10 : p = 10
  · rw [if_pos h10] at h
    cases h
    exact Or.inr (Or.inr (Or.inr (Or.inr (Or.inr (Or.inr (Or.inr (Or.inr (Or.inr (Or.inr (Or.inl ⟨h10, rfl, rfl⟩))))))))))
  rw [if_neg h10] at h
  by_cases h11 : p = 11
  · rw [if_pos h11] at h
    cases h
    exact Or.inr (Or.inr (Or.inr (Or.inr (Or.inr (Or.inr (Or.inr (Or.inr (Or.inr (Or.inr (Or.inr (Or.inl ⟨h11, rfl, rfl⟩)))))))))))
  rw [if_neg h11] at h
  by_cases h12 : p = 12
  · rw [if_pos h12] at h
    cases h
    exact Or.inr (Or.inr (Or.inr (Or.inr (Or.inr (Or.inr (Or.inr (Or.inr (Or.inr (Or.inr (Or.inr (Or.inr (Or.inl ⟨h12, rfl, rfl⟩))))))))))))
  rw [if_neg h12] at h
  by_cases h13 : p = 13
  · rw [if_pos h13] at h
    cases h
    exact Or.inr (Or.inr (Or.inr (Or.inr (Or.inr (Or.inr (Or.inr (Or.inr (Or.inr (Or.inr (Or.inr (Or.inr (Or.inr (Or.inl ⟨h13, rfl, rfl⟩)))))))))))))
  rw [if_neg h13] at h
  by_cases h14 : p = 14
  · rw [if_pos h14] at h
    cases h
    exact Or.inr (Or.inr (Or.inr (Or.inr (Or.inr (Or.inr (Or.inr (Or.inr (Or.inr (Or.inr (Or.inr (Or.inr (Or.inr (Or.inr (Or.inl ⟨h14, rfl, rfl⟩))))))))))))))
  rw [if_neg h14] at h
  by_cases h15 : p = 15
  · rw [if_pos h15] at h
    cases h
    exact Or.inr (Or.inr (Or.inr (Or.inr (Or.inr (Or.inr (Or.inr (Or.inr (Or.inr (Or.inr (Or.inr (Or.inr (Or.inr (Or.inr (Or.inr (Or.inl ⟨h15, rfl, rfl⟩)))))))))))))))
  rw [if_neg h15] at h
  by_cases h16 : p = 16
  · rw [if_pos h16] at h
    cases h
    exact Or.inr (Or.inr (Or.inr (Or.inr (Or.inr (Or.inr (Or.inr (Or.inr (Or.inr (Or.inr (Or.inr (Or.inr (Or.inr (Or.inr (Or.inr (Or.inr (Or.inl ⟨h16, rfl, rfl⟩))))))))))))))))
  rw [if_neg h16] at h
  by_cases h17 : p = 17
  · rw [if_pos h17] at h
    cases h
    exact Or.inr (Or.inr (Or.inr (Or.inr (Or.inr (Or.inr (Or.inr (Or.inr (Or.inr (Or.inr (Or.inr (Or.inr (Or.inr (Or.inr (Or.inr (Or.inr (Or.inr (Or.inl ⟨h17, rfl, rfl⟩)))))))))))))))))
  rw [if_neg h17] at h
  by_cases h18 : p = 18
  · rw [if_pos h18] at h
    cases h
    exact Or.inr (Or.inr (Or.inr (Or.inr (Or.inr (Or.inr (Or.inr (Or.inr (Or.inr (Or.inr (Or.inr (Or.inr (Or.inr (Or.inr (Or.inr (Or.inr (Or.inr (Or.inr (Or.inl ⟨h18, rfl, rfl⟩))))))))))))))))))
  rw [if_neg h18] at h
  by_cases h19 : p = 19
  · rw [if_pos h19] at h
    cases h
    exact Or.inr (Or.inr (Or.inr (Or.inr (Or.inr (Or.inr (Or.inr (Or.inr (Or.inr (Or.inr (Or.inr (Or.inr (Or.inr (Or.inr (Or.inr (Or.inr (Or.inr (Or.inr (Or.inr (⟨h19, rfl, rfl⟩)))))))))))))))))))
  rw [if_neg h19] at h
  cases h
theorem row_tk {l x t : List Int} (h : PyFlat.row l = some (x, t)) (hx : x.length ≤ 20) : ∃ n, tkRow l = some (x, n) ∧ t = l.drop n ∧ 1 ≤ n := by
  cases l with
  | nil => cases h
  | cons m r =>
    have h' : (if 0 ≤ m ∧ m.toNat ≤ r.length then some (r.take m.toNat, r.drop m.toNat) else none) = some (x, t) := h
    split at h'
    · rename_i hc
      cases h'
      rw [List.length_take] at hx
      refine ⟨1 + m.toNat, if_pos ⟨hc.1, hc.2, by omega⟩, ?_, by omega⟩
      rw [Nat.add_comm, List.drop_succ_cons]
    · cases h'
theorem call_tk {l t : List Int} {cl : List (List Int)} (h : PyFlat.call PyVbwsap.shape l = some (cl, t)) (ha : VbwsapNeutral.asked1 (PyVbwsap.whole cl) = true) : ∃ x n, tkAny l = some (x, n) ∧ VbwsapNeutral.callOf (PyVbwsap.whole cl) = some x ∧ t = l.drop n := by
  cases l with
  | nil => cases h
  | cons p r =>
    cases hs : PyVbwsap.shape p with
    | none =>
      simp only [PyFlat.call, hs] at h
      cases h
    | some nk =>
      obtain ⟨n, k⟩ := nk
      simp only [PyFlat.call, hs] at h
      by_cases hlen : r.length < n
      · rw [if_pos hlen] at h
        cases h
      · rw [if_neg hlen] at h
        cases hrows : PyFlat.rows k (r.drop n) with
        | none =>
          rw [hrows] at h
          cases h
        | some xt =>
          obtain ⟨xs, t'⟩ := xt
          rw [hrows] at h
          cases h
          have non : ∀ {r : List Int}, PyFlat.rows 0 r = some (xs, t) → xs = [] ∧ t = r := fun {r} h => by
            unfold PyFlat.rows at h
            cases h
            exact ⟨rfl, rfl⟩
          have one : ∀ {r : List Int}, PyFlat.rows 1 r = some (xs, t) → ∃ x, xs = [x] ∧ PyFlat.row r = some (x, t) := fun {r} h => by
            unfold PyFlat.rows at h
            split at h
            · cases h
            · rename_i x s hr
              unfold PyFlat.rows at h
              cases h
              exact ⟨x, rfl, hr⟩
          have two : ∀ {r : List Int}, PyFlat.rows 2 r = some (xs, t) → ∃ x y s, xs = [x, y] ∧ PyFlat.row r = some (x, s) ∧ PyFlat.row s = some (y, t) := fun {r} h => by
            unfold PyFlat.rows at h
            split at h
            · cases h
            · rename_i x s hr
              unfold PyFlat.rows at h
              split at h
              · cases h
              · rename_i ys t2 hr2
                split at hr2
                · cases hr2
                · rename_i y s2 hr3
                  unfold PyFlat.rows at hr2
                  cases hr2
                  cases h
                  exact ⟨x, y, s, rfl, hr, hr3⟩
          have c1' : ∀ {r : List Int} {m : Nat}, ¬ r.length < m + 1 → ∃ x r', r = x :: r' ∧ ¬ r'.length < m := fun {r m} h => by
            cases r with
            | nil => simp at h
            | cons x r' => exact ⟨x, r', rfl, by rw [List.length_cons] at h; omega⟩
          have isRow : ∀ {x : List Int}, VbwsapNeutral.isRow x = true → x.length ≤ 20 := fun {x} h => by
            unfold VbwsapNeutral.isRow at h
            exact of_decide_eq_true (Bool.and_eq_true_iff.mp h).1
          rcases shape_cases hs with ⟨rfl, rfl, rfl⟩ | ⟨rfl, rfl, rfl⟩ | ⟨rfl, rfl, rfl⟩ | ⟨rfl, rfl, rfl⟩ | ⟨rfl, rfl, rfl⟩ | ⟨rfl, rfl, rfl⟩ | ⟨rfl, rfl, rfl⟩ | ⟨rfl, rfl, rfl⟩ | ⟨rfl, rfl, rfl⟩ | ⟨rfl, rfl, rfl⟩ | ⟨rfl, rfl, rfl⟩ | ⟨rfl, rfl, rfl⟩ | ⟨rfl, rfl, rfl⟩ | ⟨rfl, rfl, rfl⟩ | ⟨rfl, rfl, rfl⟩ | ⟨rfl, rfl, rfl⟩ | ⟨rfl, rfl, rfl⟩ | ⟨rfl, rfl, rfl⟩ | ⟨rfl, rfl, rfl⟩ | ⟨rfl, rfl, rfl⟩
          · obtain ⟨rfl, rfl⟩ := non hrows
            obtain ⟨x0, r0, rfl, h0⟩ := c1' hlen
            obtain ⟨x1, r1, rfl, h1⟩ := c1' h0
            obtain ⟨x2, r2, rfl, h2⟩ := c1' h1
            obtain ⟨x3, r3, rfl, h3⟩ := c1' h2
            obtain ⟨x4, r4, rfl, h4⟩ := c1' h3
            obtain ⟨x5, r5, rfl, h5⟩ := c1' h4
            exact ⟨_, _, rfl, rfl, rfl⟩
          · obtain ⟨rfl, rfl⟩ := non hrows
            obtain ⟨x0, r0, rfl, h0⟩ := c1' hlen
            obtain ⟨x1, r1, rfl, h1⟩ := c1' h0
            exact ⟨_, _, rfl, rfl, rfl⟩
          · obtain ⟨x, rfl, hr⟩ := one hrows
            obtain ⟨n, h1, h2, h3⟩ := row_tk hr (isRow ha)
            rw [List.drop_zero] at h1 h2
            refine ⟨.queue x, n + 1, ?_, rfl, h2⟩
            have e0 : tk_queue r = some (.queue x, n) := by
              cases r with
              | nil => cases h1
              | cons m r' =>
                have h1' : (if 0 ≤ m ∧ m.toNat ≤ r'.length ∧ m.toNat ≤ 20 then some (r'.take m.toNat, 1 + m.toNat) else none) = some (x, n) := h1
                show (if 0 ≤ m ∧ m.toNat ≤ r'.length ∧ m.toNat ≤ 20 then some (Vbwsap.Call.queue (r'.take m.toNat), 1 + m.toNat) else none) = _
                split at h1'
                · rename_i hc
                  rw [if_pos hc]
                  cases h1'
                  rfl
                · cases h1'
            show (tk_queue r).map _ = _
            rw [e0]
            rfl
          · obtain ⟨rfl, rfl⟩ := non hrows
            obtain ⟨x0, r0, rfl, h0⟩ := c1' hlen
            exact ⟨_, _, rfl, rfl, rfl⟩
          · obtain ⟨rfl, rfl⟩ := non hrows
            obtain ⟨x0, r0, rfl, h0⟩ := c1' hlen
            exact ⟨_, _, rfl, rfl, rfl⟩
          · obtain ⟨rfl, rfl⟩ := non hrows
            obtain ⟨x0, r0, rfl, h0⟩ := c1' hlen
            obtain ⟨x1, r1, rfl, h1⟩ := c1' h0
            exact ⟨_, _, rfl, rfl, rfl⟩
          · obtain ⟨rfl, rfl⟩ := non hrows
            obtain ⟨x0, r0, rfl, h0⟩ := c1' hlen
            obtain ⟨x1, r1, rfl, h1⟩ := c1' h0
            exact ⟨_, _, rfl, rfl, rfl⟩
          · obtain ⟨rfl, rfl⟩ := non hrows
            obtain ⟨x0, r0, rfl, h0⟩ := c1' hlen
            exact ⟨_, _, rfl, rfl, rfl⟩
          · obtain ⟨rfl, rfl⟩ := non hrows
            exact ⟨_, _, rfl, rfl, rfl⟩
          · obtain ⟨rfl, rfl⟩ := non hrows
            exact ⟨_, _, rfl, rfl, rfl⟩
          · obtain ⟨rfl, rfl⟩ := non hrows
            exact ⟨_, _, rfl, rfl, rfl⟩
          · obtain ⟨x, y, s, rfl, hr, hr2⟩ := two hrows
            have ha' := Bool.and_eq_true_iff.mp (show (VbwsapNeutral.isRow x && VbwsapNeutral.isRow y) = true from ha)
            obtain ⟨n, h1, h2, h3⟩ := row_tk hr (isRow ha'.1)
            obtain ⟨m, h4, h5, h6⟩ := row_tk hr2 (isRow ha'.2)
            rw [List.drop_zero] at h1 h2
            subst h2
            refine ⟨.expect x y, n + m + 1, ?_, rfl, ?_⟩
            · show (tk_two .expect r).map _ = _
              unfold tk_two
              rw [h1]
              simp only [h4]
              rfl
            · rw [h5, List.drop_drop, List.drop_succ_cons]
          · obtain ⟨x, y, s, rfl, hr, hr2⟩ := two hrows
            have ha' := Bool.and_eq_true_iff.mp (show (VbwsapNeutral.isRow x && VbwsapNeutral.isRow y) = true from ha)
            obtain ⟨n, h1, h2, h3⟩ := row_tk hr (isRow ha'.1)
            obtain ⟨m, h4, h5, h6⟩ := row_tk hr2 (isRow ha'.2)
            rw [List.drop_zero] at h1 h2
            subst h2
            refine ⟨.judge x y, n + m + 1, ?_, rfl, ?_⟩
            · show (tk_two .judge r).map _ = _
              unfold tk_two
              rw [h1]
              simp only [h4]
              rfl
            · rw [h5, List.drop_drop, List.drop_succ_cons]
          · obtain ⟨rfl, rfl⟩ := non hrows
            obtain ⟨x0, r0, rfl, h0⟩ := c1' hlen
            exact ⟨_, _, rfl, rfl, rfl⟩
          · obtain ⟨rfl, rfl⟩ := non hrows
            exact ⟨_, _, rfl, rfl, rfl⟩
          · obtain ⟨rfl, rfl⟩ := non hrows
            exact ⟨_, _, rfl, rfl, rfl⟩
          · obtain ⟨x, rfl, hr⟩ := one hrows
            obtain ⟨n, h1, h2, h3⟩ := row_tk hr (isRow ha)
            rw [List.drop_zero] at h1 h2
            refine ⟨.split x, n + 1, ?_, rfl, h2⟩
            show (tk_row .split r).map _ = _
            unfold tk_row
            rw [h1]
            rfl
          · obtain ⟨rfl, rfl⟩ := non hrows
            obtain ⟨x0, r0, rfl, h0⟩ := c1' hlen
            exact ⟨_, _, rfl, rfl, rfl⟩
          · obtain ⟨rfl, rfl⟩ := non hrows
            exact ⟨_, _, rfl, rfl, rfl⟩
          · obtain ⟨rfl, rfl⟩ := non hrows
            obtain ⟨x0, r0, rfl, h0⟩ := c1' hlen
            exact ⟨_, _, rfl, rfl, rfl⟩
end EM

namespace EM
open PySem PySem.Spec PyProof.Rows L2 Evl
open Vbwsap (Rules Player Match sumOf membersOf gap State)
section
variable {P : Program} {w : World} {K : PySem.W.Frag} {mg : Str → Option Value} {base : Heap} {c : Cs}
theorem Has.held {k j : Nat} {x : Str} {ps : List Str} {sp : Sp} {f : Addr} (G : Has P w K mg base k x ps sp) (hm : mg x = some (.ref f)) (hj : k ≤ j) : Held P w K mg base j f sp := by
  obtain ⟨f', fd, m, kp, b, F⟩ := G.ex
  rw [m] at hm
  cases hm
  exact ⟨fd, ps, F.mono hj, kp, b⟩
abbrev s_answer_next : Stmt := top 103
abbrev n_answer_next : List Str := ["world", "reader", "call"]
abbrev p_answer_next : List Str := ["world", "reader"]
theorem sc_answer_next : FnScope n_answer_next p_answer_next (defScope s_answer_next) := ⟨rfl, rfl, rfl, by decide +kernel, rfl, by decide +kernel, by decide +kernel⟩

theorem ok_answer_next {Ta : Addr} {fs : List Addr} {k : Nat} (CC : CT K c) (D : Def K mg "answer_next" s_answer_next p_answer_next) (M_take_whole : HasM P w K mg base 1 c.D "take_whole" p_Reader_take_whole (sp_take_whole K c))
    (hT : mg "CALLS" = some (.ref Ta)) (hS : ∀ H, SqT K H Ta (fs.map V.ref)) (hl : fs.length = 20) (hk : 1 ≤ k) (hC : ∀ (j : Nat) (f : Addr), fs[j]? = some f → Held P w K mg base k f (sp_call K c (tkN j))) :
    Has P w K mg base (k + 1) "answer_next" p_answer_next (sp_call K c tkAny) := by
  refine D.has sc_answer_next (fun vs H Q E h => ?_) (fun f cdv A outer sh H vs Q E hr h => ?_)
  · obtain ⟨γ, s, rd, l, i, n, ns, x, rfl, _⟩ := h
    rfl
  · obtain ⟨γ, s, rd, l, i, n, ns, x, rfl, a, ht, kk⟩ := h
    obtain ⟨p, rest, hd⟩ : ∃ p rest, ns.drop i = p :: rest := by
      cases hq : ns.drop i with
      | nil => rw [hq] at ht; cases ht
      | cons p rest => exact ⟨p, rest, rfl⟩
    rw [hd] at ht
    have ht' : (if 0 ≤ p then (tkN p.toNat rest).map fun x => (x.1, x.2 + 1) else none) = some (x, n) := ht
    split at ht'
    case isFalse => cases ht'
    case isTrue h0 =>
    obtain ⟨j, rfl⟩ : ∃ j : Nat, p = (j : Nat) := ⟨p.toNat, by omega⟩
    rw [Int.toNat_natCast] at ht'
    cases htk : tkN j rest with
    | none => rw [htk] at ht'; cases ht'
    | some y =>
      obtain ⟨x', n'⟩ := y
      rw [htk] at ht'
      cases ht'
      have hj : j < 20 := Classical.byContradiction fun z => by
        have e0 : tkN j = fun _ => none := by
          unfold tkN
          have h20 : tks20[j]? = none := List.getElem?_eq_none (by show 20 ≤ j; omega)
          rw [List.getD_eq_getElem?_getD, h20]
          rfl
        rw [e0] at htk
        cases htk
      obtain ⟨fj, hfj⟩ : ∃ fj, fs[j]? = some fj := ⟨fs[j]'(by omega), List.getElem?_eq_getElem _⟩
      have hheld := hC j fj hfj
      let S : Addr → Option Sp := fun g => if g = fj then some (sp_call K c (tkN j)) else none
      have hA : ∀ g sp, S g = some sp → Held P w K mg base k g sp := fun g sp hg => by
        have hg' : (if g = fj then some (sp_call K c (tkN j)) else none) = some sp := hg
        split at hg'
        · rename_i e
          cases hg'
          rw [e]
          exact hheld
        · cases hg'
      refine ⟨_, pss_cons (ps_set (i := 2) sc_answer_next.nd rfl (Or.inl rfl) (pe_ix ix_tup (pe_hasV hT rfl) (pe_hasM0 (pv 1) M_take_whole (hr.mono hk)) (fun _ _ => rfl))) (pss_one (ps_ret (pe_callA (i := 2) (S := S) hA hr rfl (Or.inl rfl) (pa_cons (pv 0) (pa_cons (pv 1) pa_nil))))), ?_⟩
      obtain ⟨dx, hx⟩ := a.rd
      show tSeq (tAsg (tOp (rIxT K) (tC (.ref Ta)) (tMeth c.D "take_whole" (sp_take_whole K c) [] E0 (tVar 1) tNil)) (gName 2)) _ _ _ _
      refine ⟨.ref rd, rfl, rd, dx, _, rfl, hx, readerF_no _ _ (by decide +kernel) (by decide +kernel), ?_⟩
      refine ⟨rd, l, i, ns, ((j : Nat) : Int), rfl, a.rd, a.sq, drop_at hd 0, fun H2 e2 r2 => ?_⟩
      obtain ⟨a2, f2⟩ := a.read e2 r2
      refine ⟨Ta, _, ((j : Nat) : Int), .ref fj, rfl, rfl, hS H2, ?_, ?_⟩
      · have e1 : (fs.map V.ref)[j]? = some (.ref fj) := by rw [List.getElem?_map, hfj]; rfl
        exact atI_nat e1
      · refine ⟨fj, _, rfl, if_pos rfl, ?_⟩
        refine ⟨_, rfl, _, rfl, ?_⟩
        refine ⟨γ, s, rd, l, i + 1, n', ns, x', rfl, a2, ?_, ?_⟩
        · have hrest : ns.drop (i + 1) = rest := by
            have := congrArg List.tail hd
            rw [List.tail_drop] at this
            exact this
          rw [hrest]
          exact htk
        · have z := kk.mono f2
          rw [show i + (n' + 1) = i + 1 + n' by omega] at z
          exact z
/-! ### the whole list -/
theorem At.off {H G : Hp} {γ : Gh} {s : State} {rd l q : Addr} {i : Nat} {ns out : List Int} (a : At K c H γ s rd l i ns) (hq : H q = some (.lst (out.map V.int))) (hG : ∀ b o, H b = some o → b ≠ q → G b = some o) (hsq : SqL K G l (ns.map V.int)) : At K c G γ s rd l i ns := by
  have st : ∀ {b : Addr} {o : HO}, H b = some o → (HO.lst (out.map V.int)) ≠ o → G b = some o := fun {b o} hb hn => hG b o hb fun z => by
    rw [z, hq] at hb
    exact hn (Option.some.inj hb)
  have ne : ∀ {who : List Nat}, 1 ≤ who.length → (HO.lst (out.map V.int)) ≠ .lst (who.map fun n => V.ref (γ.pa n)) := fun {who} h z => by
    injection z with z
    cases who with
    | nil => simp at h
    | cons x r =>
      cases out with
      | nil => cases z
      | cons y t =>
        injection z with z1 _
        cases z1
  have un' : Un3 G γ s := ⟨st a.un.pd (by intro z; cases z), st a.un.ed (by intro z; cases z), st a.un.md (by intro z; cases z)⟩
  refine ⟨⟨?_, ?_, .inl un'.pd, .inl un'.ed, .inl un'.md, fun p hp => ?_, fun e he => ?_, fun m hm => ?_⟩, a.W, un', a.ap, ?_, hsq⟩
  · obtain ⟨dx, z⟩ := a.ws.wo
    exact ⟨dx, st z (by intro z; cases z)⟩
  · obtain ⟨dx, z⟩ := a.ws.ru
    exact ⟨dx, st z (by intro z; cases z)⟩
  · obtain ⟨dx, z⟩ := a.ws.ps p hp
    exact ⟨dx, st z (by intro z; cases z)⟩
  · obtain ⟨dx, l', z, z2⟩ := a.ws.en e he
    exact ⟨dx, l', st z (by intro z; cases z), st z2 (ne (a.W.ew e he).1)⟩
  · obtain ⟨dx, l1, l2, z, z2, z3⟩ := a.ws.ms m hm
    have hml := a.W.ml m hm
    have hsd := a.W.side
    exact ⟨dx, l1, l2, st z (by intro z; cases z), st z2 (ne (by omega)), st z3 (ne (by omega))⟩
  · obtain ⟨dx, z⟩ := a.rd
    exact ⟨dx, st z (by intro z; cases z)⟩
def outOfCalls (s : State) (cs : List (List (List Int))) : List Int := PyFlat.told (PyFlat.played VbwsapNeutral.step s (cs.map PyVbwsap.whole))
theorem out_cons {s : State} {cl : List (List Int)} {cs : List (List (List Int))} {x : Vbwsap.Call} (h : VbwsapNeutral.callOf (PyVbwsap.whole cl) = some x) : outOfCalls s (cl :: cs) = (((Vbwsap.step s x).2.length : Int) :: (Vbwsap.step s x).2) ++ outOfCalls (Vbwsap.step s x).1 cs := by
  have e0 : VbwsapNeutral.step s (PyVbwsap.whole cl) = Vbwsap.step s x := by
    unfold VbwsapNeutral.step
    rw [h]
  show PyFlat.told ((VbwsapNeutral.step s (PyVbwsap.whole cl)).2 :: PyFlat.played VbwsapNeutral.step (VbwsapNeutral.step s (PyVbwsap.whole cl)).1 (cs.map PyVbwsap.whole)) = _
  rw [e0]
  unfold PyFlat.told
  rw [List.flatMap_cons]
  rfl
def sp_answers (K : PySem.W.Frag) : Sp := fun vs H Q _ => ∃ (l : Addr) (ns : List Int), vs = [.ref l] ∧ SqL K H l (ns.map V.int) ∧ PyVbwsap.answers_asked ns = true ∧ ∀ H' p, H' p = some (.lst ((PyVbwsap.answers ns).map V.int)) → Q (.ref p) H'
theorem calls_cases {f : Nat} {l : List Int} {cs : List (List (List Int))} (h : PyFlat.calls PyVbwsap.shape f l = some cs) : (l = [] ∧ cs = []) ∨ ∃ cl t f' cs', cs = cl :: cs' ∧ PyFlat.call PyVbwsap.shape l = some (cl, t) ∧ PyFlat.calls PyVbwsap.shape f' t = some cs' ∧ l ≠ [] := by
  cases l with
  | nil =>
    left
    have e0 : PyFlat.calls PyVbwsap.shape f [] = some [] := by
      cases f <;> rfl
    rw [e0] at h
    cases h
    exact ⟨rfl, rfl⟩
  | cons p r =>
    right
    cases f with
    | zero => cases h
    | succ f' =>
      simp only [PyFlat.calls] at h
      cases hc : PyFlat.call PyVbwsap.shape (p :: r) with
      | none => rw [hc] at h; cases h
      | some ct =>
        obtain ⟨cl, t⟩ := ct
        rw [hc] at h
        cases hcs : PyFlat.calls PyVbwsap.shape f' t with
        | none => simp only [hcs] at h; cases h
        | some cs' =>
          simp only [hcs] at h
          cases h
          exact ⟨cl, t, f', cs', rfl, rfl, hcs, by simp⟩
theorem Wf.begin : Wf Vbwsap.start := by
  have := Wf.start (r := Vbwsap.noRules) (by decide) (by decide) (by decide) (by decide) (by decide) (by decide)
  exact this
abbrev s_answers : Stmt := top 107
abbrev n_answers : List Str := ["calls", "world", "reader", "given", "answer"]
abbrev p_answers : List Str := ["calls"]
theorem sc_answers : FnScope n_answers p_answers (defScope s_answers) := ⟨rfl, rfl, rfl, by decide +kernel, rfl, by decide +kernel, by decide +kernel⟩

theorem ok_answers {f : Addr} {fd : FuncData} (T : TxtK mg) (CC : CT K c) (F : Fun K "answers" "answers" s_answers f fd) (C_World : HasC P w K mg base 3 "World" c.W p_World___init__ (sp_World c)) (C_Reader : HasC P w K mg base 1 "Reader" c.D p_Reader___init__ (sp_Reader c))
    (M_has_more : HasM P w K mg base 1 c.D "has_more" p_Reader_has_more (sp_has_more K c)) (G_answer_next : Has P w K mg base 21 "answer_next" p_answer_next (sp_call K c tkAny)) : FnOk P w K mg base CX0 22 f fd p_answers (sp_answers K) := by
  refine F.ok sc_answers (fun vs H Q E h => ?_) (fun cdv A outer sh H vs Q E hr h => ?_)
  · obtain ⟨l, ns, rfl, _⟩ := h
    rfl
  · obtain ⟨l, ns, rfl, sq, hask, kk⟩ := h
    have hr0 := hr
    refine ⟨_, (pss_cons (ps_set (i := 1) sc_answers.nd rfl (Or.inl rfl) (pe_hasC0 C_World (hr.mono (by decide)) rfl))
 (pss_cons (ps_set (i := 2) sc_answers.nd rfl (Or.inl rfl) (pe_hasC C_Reader (hr.mono (by decide)) rfl (pa_cons (pv 0) pa_nil)))
 (pss_cons (ps_set (i := 3) sc_answers.nd rfl (Or.inl rfl) (pe_lst pa_nil))
 (pss_cons (ps_while PassesOwn.never (pt_val (pe_hasM0 (pv 2) M_has_more (hr.mono (by decide))))
  (pss_cons (ps_set (i := 4) sc_answers.nd rfl (Or.inl rfl) (pe_has G_answer_next (hr.mono (by decide)) rfl (pa_cons (pv 1) (pa_cons (pv 2) pa_nil))))
 (pss_cons (ps_expr (pe_bm PySem.F.plainAttrs_list PySem.F.slot_list_append PySem.F.type_list_append mt_append (pv 3) (pa_cons (pe_callB call_len_seq (by rfl) T.len PySem.boot_len (pa_cons (pv 4) pa_nil)) pa_nil)))
 (pss_one (ps_expr (pe_bm PySem.F.plainAttrs_list PySem.F.slot_list_extend PySem.F.type_list_extend mt_extend (pv 3) (pa_cons (pv 4) pa_nil)))))))
 (pss_one (ps_ret (pv 3))))))), ?_⟩
    -- what is asked
    obtain ⟨raw, hraw, hasked, hshort⟩ : ∃ raw, PyFlat.calls PyVbwsap.shape ns.length ns = some raw ∧ (∀ cl ∈ raw, VbwsapNeutral.asked1 (PyVbwsap.whole cl) = true) ∧ (PyVbwsap.answers ns).length ≤ 10000000 := by
      unfold PyVbwsap.answers_asked at hask
      cases hq : PyFlat.calls PyVbwsap.shape ns.length ns with
      | none => rw [hq] at hask; cases hask
      | some raw =>
        rw [hq] at hask
        have h1 := Bool.and_eq_true_iff.mp hask
        have h2 := Bool.and_eq_true_iff.mp h1.1
        refine ⟨raw, rfl, fun cl hcl => ?_, of_decide_eq_true h1.2⟩
        have h3 := Bool.and_eq_true_iff.mp h2.2
        exact List.all_eq_true.mp h3.1 _ (List.mem_map.mpr ⟨cl, hcl, rfl⟩)
    have hans : PyVbwsap.answers ns = outOfCalls Vbwsap.start raw := by
      unfold PyVbwsap.answers PyVbwsap.calls outOfCalls
      rw [hraw]
      rfl
    rw [hans] at kk hshort
    -- world = World()
    refine q_asgMk (vs := []) ea_nil fun H1 x dx e1 nx nd ne => ?_
    refine ⟨H1, x, dx, rfl, made_ex nx nd, nx, made_at, fun γ H2 hw e2 ws un ap => ⟨rfl, ?_⟩⟩
    -- reader = Reader(calls)
    refine q_asgMk (vs := [.ref l]) (ea_cons (ev_var rfl) ea_nil) fun H3 rd dr e3 nr ndr ner => ?_
    refine ⟨H3, rd, dr, l, rfl, made_ex nr ndr, nr, made_at, fun H4 e4 hrd => ⟨rfl, ?_⟩⟩
    -- given = []
    refine q_asgL (xs := ([] : List Int).map V.int) (el_lst ea_nil (by show 0 ≤ 100000; decide)) fun q H5 hq e5 h5 => ?_
    have e05 : Ex H H5 := (((e1.trans e2).trans e3).trans e4).trans e5
    have a5 : At K c H5 γ Vbwsap.start rd l 0 ns := ⟨ws.mono ((e3.trans e4).trans e5), Wf.begin, un.mono ((e3.trans e4).trans e5), ap, hrd.mono e5, ex_l e05 sq⟩
    have hlq : (∀ G, SqL K G l (ns.map V.int)) ∨ l ≠ q := by
      have hq0 : H q = none := fresh_back (((e1.trans e2).trans e3).trans e4) hq
      rcases sq with (h | ⟨o, h⟩) | h
      · exact .inr fun z => by rw [z, hq0] at h; cases h
      · exact .inr fun z => by rw [z, hq0] at h; cases h
      · exact .inl fun G => .inr h
    refine q_while (fun m σ' H' => ∃ γ' s i f cs out y, At K c H' γ' s rd l i ns ∧ γ'.w = x ∧ PyFlat.calls PyVbwsap.shape f (ns.drop i) = some cs ∧ (∀ cl ∈ cs, VbwsapNeutral.asked1 (PyVbwsap.whole cl) = true) ∧ H' q = some (.lst (out.map V.int)) ∧ out ++ outOfCalls s cs = outOfCalls Vbwsap.start raw ∧ m = cs.length ∧
      σ' = [some (.ref l), some (.ref x), some (.ref rd), some (.ref q), y]) raw.length ⟨γ, Vbwsap.start, 0, ns.length, raw, [], none, a5, hw, hraw, hasked, h5, rfl, rfl, rfl⟩ ?_
    rintro m σ' H' ⟨γ', s, i, f', cs, out, y, a, hgw, hcs, hall, hout, htot, rfl, rfl⟩
    obtain ⟨drd, hrd'⟩ := a.rd
    have hev : Ev (tMeth c.D "has_more" (sp_has_more K c) [] E0 (tVar 2) tNil) [some (.ref l), some (.ref x), some (.ref rd), some (.ref q), y] H' (.bl (decide (i < ns.length))) := fun H6 e6 Q' q' =>
      ⟨.ref rd, rfl, rd, drd, _, rfl, e6 _ _ hrd', readerF_no _ _ (by decide +kernel) (by decide +kernel), rd, l, i, ns, rfl, (a.mono e6).rd, (a.mono e6).sq, q'⟩
    refine ⟨decide (i < ns.length), et_B hev, fun hb H6 e6 => ?_, fun hb H6 e6 => ?_⟩
    · have hi : i < ns.length := of_decide_eq_true hb
      rcases calls_cases hcs with ⟨z, _⟩ | ⟨cl, t, f2, cs', rfl, hcall, hcs', _⟩
      · have := List.drop_eq_nil_iff.mp z
        omega
      · obtain ⟨xx, n, htk, hco, rfl⟩ := call_tk hcall (hall cl (by simp))
        refine ⟨fun σ2 H2 => ∃ γ' s i f cs out y, At K c H2 γ' s rd l i ns ∧ γ'.w = x ∧ PyFlat.calls PyVbwsap.shape f (ns.drop i) = some cs ∧ (∀ cl ∈ cs, VbwsapNeutral.asked1 (PyVbwsap.whole cl) = true) ∧ H2 q = some (.lst (out.map V.int)) ∧ out ++ outOfCalls s cs = outOfCalls Vbwsap.start raw ∧ cs.length < (cl :: cs').length ∧
          σ2 = [some (.ref l), some (.ref x), some (.ref rd), some (.ref q), y], fun σ2 H2 ⟨γ', s, i, f, cs, out, y, r1, r2, r3, r4, r5, r6, r7, r8⟩ => ⟨cs.length, r7, γ', s, i, f, cs, out, y, r1, r2, r3, r4, r5, r6, rfl, r8⟩, ?_⟩
        have a6 := a.mono e6
        refine q_asgC (vs := [.ref x, .ref rd]) (ea_cons (ev_var rfl) (ea_cons (ev_var rfl) ea_nil)) fun H7 e7 => ?_
        have a7 := a6.mono e7
        have hout7 := (e6.trans e7) _ _ hout
        refine ⟨γ', s, rd, l, i, n, ns, xx, by rw [hgw], a7, htk, fun γ2 p H8 hw8 a8 f8 hp h8 => ?_⟩
        have hout8 : H8 q = some (.lst (out.map V.int)) := f8.frm _ _ hout7 ⟨out, rfl⟩
        have npq : p ≠ q := fun z => by
          rw [z, hout7] at hp
          cases hp
        rw [out_cons hco] at htot
        have hlen := congrArg List.length htot
        rw [List.length_append, List.length_append, List.length_cons] at hlen
        -- given.append(len(answer)); given.extend(answer)
        have hlv : Ev (tCB (rLenS K) (tCons (tVar 4) tNil)) [some (.ref l), some (.ref x), some (.ref rd), some (.ref q), some (.ref p)] H8 (.int (((Vbwsap.step s xx).2.length : Nat) : Int)) := ev_is (ev_len (ev_var rfl) (sq_of h8)) (by rw [List.length_map])
        refine ⟨.ref q, rfl, Or.inl ⟨rfl, _, sq_of hout8⟩, ?_⟩
        refine hlv H8 (Ex.refl _) _ fun H9 e9 => ?_
        refine ⟨q, _, _, rfl, rfl, e9 _ _ hout8, by rw [List.length_map, sizeLine_is]; omega, ?_⟩
        have h9 : upd H9 q (.lst (out.map V.int ++ [.int (((Vbwsap.step s xx).2.length : Nat) : Int)])) p = some (.lst ((Vbwsap.step s xx).2.map V.int)) := by
          rw [upd_ne npq]
          exact e9 _ _ h8
        refine ⟨.ref q, rfl, Or.inl ⟨rfl, _, sq_of upd_same⟩, .ref p, rfl, ?_⟩
        refine ⟨q, p, _, _, rfl, rfl, upd_same, h9, ?_, ?_⟩
        · rw [List.length_append, List.length_map, List.length_map, sizeLine_is]
          show _ + 1 + _ ≤ _
          omega
        · have offq : ∀ b o, H8 b = some o → b ≠ q → upd (upd H9 q (.lst (out.map V.int ++ [.int (((Vbwsap.step s xx).2.length : Nat) : Int)]))) q (.lst (out.map V.int ++ [.int (((Vbwsap.step s xx).2.length : Nat) : Int)] ++ (Vbwsap.step s xx).2.map V.int)) b = some o := fun b o hb hn => by
            rw [upd_ne hn, upd_ne hn]
            exact e9 _ _ hb
          have hq10 : upd (upd H9 q (.lst (out.map V.int ++ [.int (((Vbwsap.step s xx).2.length : Nat) : Int)]))) q (.lst (out.map V.int ++ [.int (((Vbwsap.step s xx).2.length : Nat) : Int)] ++ (Vbwsap.step s xx).2.map V.int)) q = some (.lst ((out ++ ((((Vbwsap.step s xx).2.length : Nat) : Int) :: (Vbwsap.step s xx).2)).map V.int)) := by
            rw [upd_same, List.map_append, List.map_cons, List.append_assoc]
            rfl
          generalize upd (upd H9 q (.lst (out.map V.int ++ [.int (((Vbwsap.step s xx).2.length : Nat) : Int)]))) q (.lst (out.map V.int ++ [.int (((Vbwsap.step s xx).2.length : Nat) : Int)] ++ (Vbwsap.step s xx).2.map V.int)) = G at *
          have hsq : SqL K G l (ns.map V.int) := by
            rcases hlq with z | z
            · exact z G
            · rcases a8.sq with (h | ⟨o, h⟩) | h
              · exact .inl (.inl (offq _ _ h z))
              · exact .inl (.inr ⟨o, offq _ _ h z⟩)
              · exact .inr h
          refine ⟨γ2, (Vbwsap.step s xx).1, i + n, f2, cs', _, _, a8.off hout8 offq hsq, by rw [hw8, hgw], by rw [← List.drop_drop]; exact hcs', fun cl' h => hall cl' (List.mem_cons_of_mem _ h), hq10, by rw [List.append_assoc]; exact htot, by rw [List.length_cons]; omega, rfl⟩
    · have hi : ¬ i < ns.length := of_decide_eq_false hb
      have hnil : ns.drop i = [] := List.drop_eq_nil_iff.mpr (by omega)
      rcases calls_cases hcs with ⟨_, rfl⟩ | ⟨cl, t, f2, cs', rfl, hcall, hcs', hne⟩
      · have e0 : outOfCalls s [] = [] := rfl
        rw [e0, List.append_nil] at htot
        rw [htot] at hout
        rw [hans] at *
        exact s_ret (ev_var rfl) fun H7 e7 => kk H7 q ((e6.trans e7) _ _ hout)
      · exact absurd hnil hne
end
end EM

namespace EM
open PySem PySem.Spec PyProof.Rows L2 Evl
open Vbwsap (Rules Player Match sumOf membersOf gap State)
section
variable {K : PySem.W.Frag} {σ : L2.St} {H : Hp} {D : Ends} {tu tz : TS} {ta td te ty : TE}
/-- a comprehension over any walk whose items stand for those of l -/
theorem el_lcW {α : Type} {wi : TI} {J : It} {Y : Nat → Hp → V → Hp → Prop} {G : Hp → Prop} {j : Nat} {vs : List Nat} {l : List α} (r g : α → V) (hi : ∀ H1, Ex H H1 → ∀ R : It → Hp → Prop, (∀ H2, Ex H1 H2 → R J H2) → wi σ H1 R) (w : Walk J l.length G Y)
    (hG : ∀ H1, Ex H H1 → G H1) (hY : ∀ i H1 x H2, Y i H1 x H2 → H2 = H1 ∧ ∃ y, l[i]? = some y ∧ x = r y) (hz : l.length ≤ 40000) (hw : ∀ x, wipe ((wipe σ vs).set j (some x)) vs = wipe σ vs)
    (he : ∀ y ∈ l, ∀ H1, Ex H H1 → Ev te ((wipe σ vs).set j (some (r y))) H1 (g y)) : EvL (tLc wi (gName j) tYes te vs) σ H (l.map g) := fun H0 e Q q =>
  hi H0 e _ fun H1 e1 Dl hD => by
    have e9 : l.map g = given l.length (fun i => (l[i]?).elim true fun _ => true) (fun i => (l[i]?).elim .non g) := by
      rw [given_take _ (Nat.le_refl _), List.take_length, List.filter_eq_self.mpr fun _ _ => rfl]
    rw [e9] at q
    refine lc_it w (Cw H1 (fun i => (l[i]?).elim true fun _ => true) (fun i => (l[i]?).elim .non g) Dl) ⟨hD, Ex.new hD, upd_same⟩ (fun i H' _ p => hG H' ((e.trans e1).trans p.2.1)) (fun i x H' H'' hi p y => ?_) (fun H' p => q Dl H' (fresh_back e1 p.1) (e1.trans p.2.1) p.2.2)
    obtain ⟨rfl, z, hzi, rfl⟩ := hY _ _ _ _ y
    have ef : ((l[i]?).elim true fun _ => true) = true := by rw [hzi]; rfl
    have eg : (l[i]?).elim V.non g = g z := by rw [hzi]; rfl
    refine ⟨hw _, cw_turn p (by omega) (by rw [ef]; exact et_yes) (fun _ => ?_)⟩
    rw [eg]
    exact he z (List.mem_of_getElem? hzi) H1 (e.trans e1)
/-- .. over a dict's values, the dict locked -/
theorem el_lcVals {α : Type} {d : Addr} {od : Obj} {j : Nat} {vs : List Nat} {l : List α} (kk : α → Key) (r g : α → V) (h : Ev td σ H (.ref d)) (hd : H d = some (.frz od (.dK (l.map fun y => (kk y, r y))))) (hz : l.length ≤ 40000) (hw : ∀ x, wipe ((wipe σ vs).set j (some x)) vs = wipe σ vs)
    (he : ∀ y ∈ l, ∀ H1, Ex H H1 → Ev te ((wipe σ vs).set j (some (r y))) H1 (g y)) : EvL (tLc (iVals td) (gName j) tYes te vs) σ H (l.map g) := by
  have w := walk_values (d := d) (o := od) (kvs := l.map fun y => (kk y, r y))
  rw [List.length_map] at w
  refine el_lcW (J := Itd d od (l.map fun y => (kk y, r y))) r g (fun H1 e1 R q => h H1 e1 _ fun H2 e2 => ⟨d, od, _, rfl, (e1.trans e2) _ _ hd, q H2 e2⟩) w (fun H1 e1 => e1 _ _ hd) (fun i H1 x H2 y => ?_) hz hw he
  obtain ⟨rfl, k, hk⟩ := y
  refine ⟨rfl, ?_⟩
  rw [List.getElem?_map] at hk
  cases q : l[i]? with
  | none => rw [q] at hk; cases hk
  | some y =>
    rw [q] at hk
    cases hk
    exact ⟨y, rfl, rfl⟩
/-- f(e), e a list that is made on the spot, a list answered -/
theorem el_callN {sp : Sp} {xs zs : List V} (h : EvL te σ H xs) (k : ∀ p H1, Ex H H1 → H1 p = some (.lst xs) → ∀ Q, RetL zs H1 Q → sp [.ref p] H1 Q E0) : EvL (tCall sp [] E0 (tCons te tNil)) σ H zs := fun H1 e Q q =>
  h H1 e _ fun p H2 _ e2 h2 => k p H2 (e.trans e2) h2 Q fun r H3 hr e3 h3 => q r H3 (fresh_back e2 hr) (e2.trans e3) h3
theorem s_lockRet {d : Addr} {kvs : List (Key × V)} {v : V} (hd : H d = some (.dK kvs)) (h : ∀ od, Ev te σ (upd H d (.frz od (.dK kvs))) v) (k : ∀ H1, Ex H H1 → D.rt v H1) : tLock (tRet te) D σ H :=
  ⟨d, _, hd, trivial, fun od => s_ret (h od) fun H1 e1 => ⟨e1 _ _ upd_same, k _ (unlock_ex hd e1)⟩⟩
/-- x = d.pop(k) -/
theorem q_asgPop {d : Addr} {kvs : List (Key × V)} {k : Key} {v : V} {i : Nat} (h1 : Ev td σ H (.ref d)) (h2 : Ev ty σ H (kV k)) (hd : H d = some (.dK kvs)) (hv : valV kvs k = some v) (kk : ∀ H1, Ex H H1 → tz D (σ.set i (some v)) (upd H1 d (.dK (dropK kvs k)))) : tSeq (tAsg (tDPop1 td ty) (gName i)) tz D σ H :=
  h1 H (Ex.refl H) _ fun H1 e1 => ⟨d, rfl, .inl ⟨kvs, .inl (e1 _ _ hd)⟩, h2 H1 e1 _ fun H2 e2 => ⟨kvs, k, v, (e1.trans e2) _ _ hd, rfl, hv, kk H2 (e1.trans e2)⟩⟩
end
theorem sum_ints : ∀ l : List Nat, (l.map fun (n : Nat) => (n : Int)).sum = ((sumOf l : Nat) : Int)
  | [] => rfl
  | x :: r => by
    have e : sumOf (x :: r) = x + sumOf r := rfl
    rw [List.map_cons, List.sum_cons, sum_ints r, e, Int.natCast_add]
section
variable {P : Program} {w : World} {K : PySem.W.Frag} {mg : Str → Option Value} {base : Heap} {c : Cs}
theorem val_entry {γ : Gh} {s : State} {z : Int} : valV (eKv γ.ea s.entries) (Sum.inl z) = (Vbwsap.entryOf s z).map fun x => V.ref (γ.ea x.num) := by
  rw [eKv_is, valV_kv]
  rfl
theorem entryOf_num {s : State} {z : Int} {e : Ent} (h : Vbwsap.entryOf s z = some e) : e ∈ s.entries ∧ ((e.num : Nat) : Int) = z :=
  ⟨List.mem_of_find?_eq_some h, beq_iff_eq.mp (List.find?_some (p := fun (x : Ent) => ((x.num : Nat) : Int) == z) h)⟩
theorem tk_one_is {f : Int → Vbwsap.Call} {l : List Int} {x : Vbwsap.Call} {n : Nat} (h : tk_one f l = some (x, n)) : ∃ e rest, l = e :: rest ∧ x = f e ∧ n = 1 := by
  cases l with
  | nil => cases h
  | cons e rest =>
    cases h
    exact ⟨e, rest, rfl, rfl, rfl⟩
/-! ### call 10 -/
abbrev s_call_matches : Stmt := top 88
abbrev n_call_matches : List Str := ["world", "reader"]
abbrev p_call_matches : List Str := ["world", "reader"]
theorem sc_call_matches : FnScope n_call_matches p_call_matches (defScope s_call_matches) := ⟨rfl, rfl, rfl, by decide +kernel, rfl, by decide +kernel, by decide +kernel⟩

theorem ok_call_matches (T : TxtK mg) (CC : CT K c) (D : Def K mg "call_matches" s_call_matches p_call_matches) (G_shown_matches : Has P w K mg base 2 "shown_matches" p_shown_matches (sp_shown_matches K c)) : Has P w K mg base 3 "call_matches" p_call_matches (sp_call K c (tk_non .matches_)) := by
  refine D.has sc_call_matches (fun vs H Q E h => ?_) (fun f cdv A outer sh H vs Q E hr h => ?_)
  · obtain ⟨γ, s, rd, l, i, n, ns, x, rfl, _⟩ := h
    rfl
  · obtain ⟨γ, s, rd, l, i, n, ns, x, rfl, a, ht, k⟩ := h
    refine ⟨_, (pss_one (ps_ret (pe_op op_cat (pe_lst (pa_cons pe_int pa_nil)) (pe_has G_shown_matches (hr.mono (by decide)) rfl (pa_cons (pe_callTy (cr_listView rfl) (by rfl) T.list (by decide +kernel) (pa_cons (pe_valsK (pe_fld (pv 0) rfl)) pa_nil)) pa_nil))))), ?_⟩
    cases ht
    have e0 : Vbwsap.step s .matches_ = (s, 0 :: s.matches_.flatMap Vbwsap.matchRow) := rfl
    rw [e0] at k
    obtain ⟨dw, hw⟩ := a.ws.wo
    have hvals : ((mKv γ.ma s.matches_).map fun kv => kv.2) = mRefs γ.ma s.matches_ := by
      unfold mKv mRefs
      rw [List.map_map]
      rfl
    have hlv := el_listVals (σ := start n_call_matches [.ref γ.w, .ref rd]) (ev_W CC (ev_var (i := 0) rfl) hw (worldF_matches ..)) a.ws.md
    rw [hvals] at hlv
    refine s_retL (el_catLL (xs := ([0] : List Int).map V.int) (ys := (s.matches_.flatMap Vbwsap.matchRow).map V.int) (el_lst (ea_cons ev_c ea_nil) (by show 1 ≤ 100000; decide)) (el_callN hlv fun p H1 e1 h1 Q' q' => ⟨γ, s, p, s.matches_, rfl, a.ws.mono e1, a.W, fun _ h => h, a.W.few, sq_of h1, q'⟩) ?_) fun p H1 hp e1 h1 => k.same a hp e1 h1
    have h1 := flatMap_len (f := Vbwsap.matchRow) (n := 7) (l := s.matches_) (fun m hm => match_len a.W hm)
    have h2 := a.W.few
    rw [List.length_map, List.length_map]
    show 1 + _ ≤ _
    omega
/-! ### call 15 -/
def sp_rating_total (c : Cs) : Sp := fun vs H Q _ => ∃ (γ : Gh) (s : State), vs = [.ref γ.w] ∧ WS c H γ s ∧ Wf s ∧ Un3 H γ s ∧ RetV (.int (sumOf (s.players.map fun p => p.rating) : Nat)) H Q
abbrev s_rating_total : Stmt := top 14
abbrev n_rating_total : List Str := ["world", "player"]
abbrev p_rating_total : List Str := ["world"]
theorem sc_rating_total : FnScope n_rating_total p_rating_total (defScope s_rating_total) := ⟨rfl, rfl, rfl, by decide +kernel, rfl, by decide +kernel, by decide +kernel⟩

theorem ok_rating_total (T : TxtK mg) (CC : CT K c) (D : Def K mg "rating_total" s_rating_total p_rating_total) : Has P w K mg base 1 "rating_total" p_rating_total (sp_rating_total c) := by
  refine D.has sc_rating_total (fun vs H Q E h => ?_) (fun f cdv A outer sh H vs Q E hr h => ?_)
  · obtain ⟨γ, s, rfl, _⟩ := h
    rfl
  · obtain ⟨γ, s, rfl, ws, W, un, k⟩ := h
    refine ⟨_, (pss_one (ps_lock (ps_ret (pe_callB (cr_sum rfl) (by rfl) T.sum (by decide +kernel) (pa_cons (pe_lc (own := [("player", 1)]) (g := gName 1) (tt := tYes) (te := (tFld K (tVar 1) "rating")) rfl sc_rating_total.nd (pi_values (pe_fld (pv 0) rfl)) (blkOk_by (N := n_rating_total) (sc := defScope s_rating_total) (by decide +kernel)) (fun _ _ _ _ _ => pg_name (i := 1) sc_rating_total.nd rfl (Or.inl rfl)) (fun _ _ _ _ _ => pts_nil) (fun _ _ _ _ _ => (pe_fld (pv 1) rfl))) pa_nil))))), ?_⟩
    obtain ⟨dw, hw⟩ := ws.wo
    refine s_lockRet un.pd (fun od => ?_) k
    rw [← sum_ints, List.map_map]
    refine ev_sumL ?_
    rw [List.map_map]
    refine el_lcVals (od := od) (l := s.players) (fun p => Sum.inl ((p.num : Nat) : Int)) (fun p => V.ref (γ.pa p.num)) (fun p => V.int ((p.rating : Nat) : Int)) (ev_W CC (ev_var rfl) (lock_ex un.pd hw (by intro z; cases z)) (worldF_players ..)) upd_same (by have := W.pl; omega) (fun _ => rfl) fun p hp H1 e1 => ?_
    obtain ⟨dx, hx⟩ := ws.ps p hp
    exact ev_P CC (ev_var rfl) (e1 _ _ (lock_ex un.pd hx (by intro z; cases z))) (playerF_rating _)
abbrev s_call_sums : Stmt := top 96
abbrev n_call_sums : List Str := ["world", "reader"]
abbrev p_call_sums : List Str := ["world", "reader"]
theorem sc_call_sums : FnScope n_call_sums p_call_sums (defScope s_call_sums) := ⟨rfl, rfl, rfl, by decide +kernel, rfl, by decide +kernel, by decide +kernel⟩

theorem ok_call_sums (T : TxtK mg) (CC : CT K c) (D : Def K mg "call_sums" s_call_sums p_call_sums) (G_rating_total : Has P w K mg base 1 "rating_total" p_rating_total (sp_rating_total c)) : Has P w K mg base 2 "call_sums" p_call_sums (sp_call K c (tk_non .sums)) := by
  refine D.has sc_call_sums (fun vs H Q E h => ?_) (fun f cdv A outer sh H vs Q E hr h => ?_)
  · obtain ⟨γ, s, rd, l, i, n, ns, x, rfl, _⟩ := h
    rfl
  · obtain ⟨γ, s, rd, l, i, n, ns, x, rfl, a, ht, k⟩ := h
    refine ⟨_, (pss_one (ps_ret (pe_lst (pa_cons pe_int (pa_cons (pe_has G_rating_total (hr.mono (by decide)) rfl (pa_cons (pv 0) pa_nil)) (pa_cons (pe_fld (pv 0) rfl) (pa_cons (pe_callB call_lenD (by rfl) T.len PySem.boot_len (pa_cons (pe_fld (pv 0) rfl) pa_nil)) pa_nil))))))), ?_⟩
    cases ht
    have e0 : Vbwsap.step s .sums = (s, [0, (sumOf (s.players.map fun p => p.rating) : Int), (s.pool : Int), (s.players.length : Int)]) := rfl
    rw [e0] at k
    obtain ⟨dw, hw⟩ := a.ws.wo
    refine s_retL (xs := [0, (sumOf (s.players.map fun p => p.rating) : Int), (s.pool : Int), (s.players.length : Int)].map V.int) (el_lst (ea_cons ev_c (ea_cons (ev_callV (vs := [.ref γ.w]) (ea_cons (ev_var rfl) ea_nil) fun H1 e1 Q' q' => ⟨γ, s, rfl, a.ws.mono e1, a.W, a.un.mono e1, q'⟩) (ea_cons (ev_W CC (ev_var rfl) hw (worldF_pool ..)) (ea_cons (ev_is (ev_lenD (ev_W CC (ev_var rfl) hw (worldF_players ..)) a.un.pd) (by unfold pKv; rw [List.length_map])) ea_nil)))) (by show 4 ≤ 100000; decide)) fun p H1 hp e1 h1 => k.same a hp e1 h1
/-! ### call 17 -/
abbrev s_call_window : Stmt := top 99
abbrev n_call_window : List Str := ["world", "reader", "number"]
abbrev p_call_window : List Str := ["world", "reader"]
theorem sc_call_window : FnScope n_call_window p_call_window (defScope s_call_window) := ⟨rfl, rfl, rfl, by decide +kernel, rfl, by decide +kernel, by decide +kernel⟩

theorem ok_call_window (T : TxtK mg) (CC : CT K c) (D : Def K mg "call_window" s_call_window p_call_window) (M_take_whole : HasM P w K mg base 1 c.D "take_whole" p_Reader_take_whole (sp_take_whole K c)) (G_none_of_that_number : Has P w K mg base 1 "none_of_that_number" p_none_of_that_number (sp_no (-2)))
    (G_window_of : Has P w K mg base 1 "window_of" p_window_of (sp_window_of c)) : Has P w K mg base 2 "call_window" p_call_window (sp_call K c (tk_one .window)) := by
  refine D.has sc_call_window (fun vs H Q E h => ?_) (fun f cdv A outer sh H vs Q E hr h => ?_)
  · obtain ⟨γ, s, rd, l, i, n, ns, x, rfl, _⟩ := h
    rfl
  · obtain ⟨γ, s, rd, l, i, n, ns, x, rfl, a, ht, k⟩ := h
    refine ⟨_, (pss_cons (ps_set (i := 2) sc_call_window.nd rfl (Or.inl rfl) (pe_hasM0 (pv 1) M_take_whole (hr.mono (by decide))))
 (pss_cons (ps_if (pt_cmp (pc_dnotin (hu_of hr) (pv 2) (pe_fld (pv 0) rfl)))
  (pss_one (ps_ret (pe_has0 G_none_of_that_number (hr.mono (by decide)) rfl))) pss_nil)
 (pss_one (ps_ret (pe_lst (pa_cons pe_int (pa_cons (pe_has G_window_of (hr.mono (by decide)) rfl (pa_cons (pv 0) (pa_cons (pe_dget (hu_of hr) (pe_fld (pv 0) rfl) (pv 2) (fun _ _ => rfl)) pa_nil))) pa_nil))))))), ?_⟩
    obtain ⟨i1, rest, hd, rfl, rfl⟩ := tk_one_is ht
    refine q_take a rfl (drop_at hd 0) fun H1 a1 f1 => ?_
    have k1 := k.mono f1
    have e0 : Vbwsap.step s (.window i1) = (match Vbwsap.entryOf s i1 with | none => Vbwsap.no s 2 | some x => Vbwsap.yes s [(Vbwsap.window s x : Int)]) := rfl
    rw [e0] at k1
    obtain ⟨dw, hw⟩ := a1.ws.wo
    refine q_when (b := !(Vbwsap.entryOf s i1).isSome) (et_is (et_B (ev_dnotin (k := Sum.inl i1) (ev_var rfl) (ev_W CC (ev_var rfl) hw (worldF_parties ..)) a1.ws.ed)) (by rw [val_entry, Option.isSome_map])) (fun hb H2 e2 => ?_) (fun hb H2 e2 => ?_)
    · have hn : Vbwsap.entryOf s i1 = none := by
        cases hq : Vbwsap.entryOf s i1 with
        | none => rfl
        | some y => rw [hq] at hb; cases hb
      rw [hn] at k1
      exact s_no (k := 2) (a1.mono e2) (k1.mono (.of e2)) rfl
    · cases hq : Vbwsap.entryOf s i1 with
      | none => rw [hq] at hb; cases hb
      | some y =>
        rw [hq] at k1
        obtain ⟨hy, hyn⟩ := entryOf_num hq
        have a2 := a1.mono e2
        have k2 := k1.mono (.of e2)
        have hew := a2.W.ew y hy
        refine s_retL (xs := [0, (Vbwsap.window s y : Int)].map V.int) (el_lst (ea_cons ev_c (ea_cons (ev_callV (vs := [.ref γ.w, .ref (γ.ea y.num)]) (ea_cons (ev_var rfl) (ea_cons (ev_dget (k := Sum.inl i1) (ev_W CC (ev_var rfl) (e2 _ _ hw) (worldF_parties ..)) (ev_var rfl) a2.ws.ed (by rw [val_entry, hq]; rfl)) ea_nil)) fun H3 e3 Q' q' => ⟨γ, s, y, rfl, a2.ws.mono e3, a2.W, (a2.ws.en y hy).mono e3, hew.2.2.1, q'⟩) ea_nil)) (by show 2 ≤ 100000; decide)) fun p H3 hp e3 h3 => ?_
        exact k2.same a2 hp e3 h3
/-! ### call 18 -/
abbrev s_call_state : Stmt := top 100
abbrev n_call_state : List Str := ["world", "reader", "counts"]
abbrev p_call_state : List Str := ["world", "reader"]
theorem sc_call_state : FnScope n_call_state p_call_state (defScope s_call_state) := ⟨rfl, rfl, rfl, by decide +kernel, rfl, by decide +kernel, by decide +kernel⟩

theorem ok_call_state (T : TxtK mg) (CC : CT K c) (D : Def K mg "call_state" s_call_state p_call_state) : Has P w K mg base 1 "call_state" p_call_state (sp_call K c (tk_non .state)) := by
  refine D.has sc_call_state (fun vs H Q E h => ?_) (fun f cdv A outer sh H vs Q E hr h => ?_)
  · obtain ⟨γ, s, rd, l, i, n, ns, x, rfl, _⟩ := h
    rfl
  · obtain ⟨γ, s, rd, l, i, n, ns, x, rfl, a, ht, k⟩ := h
    refine ⟨_, (pss_cons (ps_set (i := 2) sc_call_state.nd rfl (Or.inl rfl) (pe_lst (pa_cons (pe_callB call_lenD (by rfl) T.len PySem.boot_len (pa_cons (pe_fld (pv 0) rfl) pa_nil)) (pa_cons (pe_callB call_lenD (by rfl) T.len PySem.boot_len (pa_cons (pe_fld (pv 0) rfl) pa_nil)) (pa_cons (pe_callB call_lenD (by rfl) T.len PySem.boot_len (pa_cons (pe_fld (pv 0) rfl) pa_nil)) pa_nil)))))
 (pss_one (ps_ret (pe_op op_cat (pe_op op_cat (pe_lst (pa_cons pe_int (pa_cons (pe_fld (pv 0) rfl) pa_nil))) (pv 2)) (pe_lst (pa_cons (pe_fld (pv 0) rfl) (pa_cons (pe_fld (pv 0) rfl) (pa_cons (pe_fld (pv 0) rfl) pa_nil)))))))), ?_⟩
    cases ht
    have e0 : Vbwsap.step s .state = (s, [0, (s.now : Int), (s.players.length : Int), (s.entries.length : Int), (s.matches_.length : Int), (s.next : Int), (s.pool : Int), (s.season : Int)]) := rfl
    rw [e0] at k
    obtain ⟨dw, hw⟩ := a.ws.wo
    refine q_asgL (xs := [(s.players.length : Int), (s.entries.length : Int), (s.matches_.length : Int)].map V.int) (el_lst (ea_cons (ev_is (ev_lenD (ev_W CC (ev_var rfl) hw (worldF_players ..)) a.un.pd) (by unfold pKv; rw [List.length_map])) (ea_cons (ev_is (ev_lenD (ev_W CC (ev_var rfl) hw (worldF_parties ..)) a.un.ed) (by unfold eKv; rw [List.length_map])) (ea_cons (ev_is (ev_lenD (ev_W CC (ev_var rfl) hw (worldF_matches ..)) a.un.md) (by unfold mKv; rw [List.length_map])) ea_nil))) (by show 3 ≤ 100000; decide)) fun q H1 hq e1 h1 => ?_
    have hw1 := e1 _ _ hw
    refine s_retL (el_catLL (el_catL (el_lst (ea_cons ev_c (ea_cons (ev_W CC (ev_var rfl) hw1 (worldF_tick ..)) ea_nil)) (by show 2 ≤ 100000; decide)) (ev_var rfl) h1 (by show 5 ≤ 100000; decide)) (el_lst (ea_cons (ev_W CC (ev_var rfl) hw1 (worldF_upcoming ..)) (ea_cons (ev_W CC (ev_var rfl) hw1 (worldF_pool ..)) (ea_cons (ev_W CC (ev_var rfl) hw1 (worldF_season ..)) ea_nil))) (by show 3 ≤ 100000; decide)) (by show 8 ≤ 100000; decide)) fun p H2 hp e2 h2 => ?_
    exact k.same a (fresh_back e1 hp) (e1.trans e2) h2
/-! ### call 19 -/
def removed (s : State) (p : Player) : State := { s with players := s.players.filter fun q => q.num != p.num, pool := s.pool + p.rating }
theorem Wf.removed {s : State} (W : Wf s) {p : Player} (h1 : Vbwsap.queued s p.num = false) (h2 : Vbwsap.playing s p.num = false) : Wf (removed s p) := by
  refine ⟨W.side, W.base, W.step, W.factor, W.range, W.fine, List.Nodup.sublist (List.filter_sublist.map _) W.pn, Nat.le_trans (List.length_filter_le _ _) W.pl, fun q hq => W.pr q (List.mem_filter.mp hq).1, W.en, W.el, W.ew, W.mn, W.ml, W.mem, fun n hn => ?_, W.now⟩
  obtain ⟨q, hq, e⟩ := W.inp n hn
  refine ⟨q, List.mem_filter.mpr ⟨hq, ?_⟩, e⟩
  rw [bne_iff_ne]
  intro z
  have hnp : n = p.num := by rw [← e, z]
  rcases List.mem_append.mp hn with y | y
  · obtain ⟨x, hx, hxn⟩ := List.mem_flatMap.mp y
    have : Vbwsap.queued s p.num = true := List.any_eq_true.mpr ⟨x, hx, by rw [← hnp]; simpa using hxn⟩
    rw [h1] at this
    cases this
  · obtain ⟨x, hx, hxn⟩ := List.mem_flatMap.mp y
    have : Vbwsap.playing s p.num = true := List.any_eq_true.mpr ⟨x, hx, by rw [← hnp, ← contains_app]; simpa using hxn⟩
    rw [h2] at this
    cases this
abbrev s_call_remove : Stmt := top 101
abbrev n_call_remove : List Str := ["world", "reader", "number", "gone"]
abbrev p_call_remove : List Str := ["world", "reader"]
theorem sc_call_remove : FnScope n_call_remove p_call_remove (defScope s_call_remove) := ⟨rfl, rfl, rfl, by decide +kernel, rfl, by decide +kernel, by decide +kernel⟩

theorem ok_call_remove (T : TxtK mg) (CC : CT K c) (D : Def K mg "call_remove" s_call_remove p_call_remove) (M_take_whole : HasM P w K mg base 1 c.D "take_whole" p_Reader_take_whole (sp_take_whole K c)) (G_none_of_that_number : Has P w K mg base 1 "none_of_that_number" p_none_of_that_number (sp_no (-2)))
    (G_not_the_time : Has P w K mg base 1 "not_the_time" p_not_the_time (sp_no (-3))) (G_waits : Has P w K mg base 2 "waits" p_waits (sp_waits c)) (G_plays : Has P w K mg base 2 "plays" p_plays (sp_plays c)) : Has P w K mg base 3 "call_remove" p_call_remove (sp_call K c (tk_one .remove)) := by
  refine D.has sc_call_remove (fun vs H Q E h => ?_) (fun f cdv A outer sh H vs Q E hr h => ?_)
  · obtain ⟨γ, s, rd, l, i, n, ns, x, rfl, _⟩ := h
    rfl
  · obtain ⟨γ, s, rd, l, i, n, ns, x, rfl, a, ht, k⟩ := h
    refine ⟨_, (pss_cons (ps_set (i := 2) sc_call_remove.nd rfl (Or.inl rfl) (pe_hasM0 (pv 1) M_take_whole (hr.mono (by decide))))
 (pss_cons (ps_if (pt_cmp (pc_dnotin (hu_of hr) (pv 2) (pe_fld (pv 0) rfl)))
  (pss_one (ps_ret (pe_has0 G_none_of_that_number (hr.mono (by decide)) rfl))) pss_nil)
 (pss_cons (ps_if (PW.pt (pw_or (pt_val (pe_has G_waits (hr.mono (by decide)) rfl (pa_cons (pv 0) (pa_cons (pv 2) pa_nil)))) (pw_or1 (pt_val (pe_has G_plays (hr.mono (by decide)) rfl (pa_cons (pv 0) (pa_cons (pv 2) pa_nil)))))))
  (pss_one (ps_ret (pe_has0 G_not_the_time (hr.mono (by decide)) rfl))) pss_nil)
 (pss_cons (ps_set (i := 3) sc_call_remove.nd rfl (Or.inl rfl) (pe_dpop1 (pe_fld (pv 0) rfl) (pv 2) ⟨rfl, rfl, rfl, rfl⟩))
 (pss_cons (ps_fldaug (pv 0) (pe_fld (pv 3) rfl) in_add)
 (pss_one (ps_ret (pe_lst (pa_cons pe_int (pa_cons (pe_fld (pv 3) rfl) pa_nil)))))))))), ?_⟩
    obtain ⟨i1, rest, hd, rfl, rfl⟩ := tk_one_is ht
    refine q_take a rfl (drop_at hd 0) fun H1 a1 f1 => ?_
    have k1 := k.mono f1
    have e0 : Vbwsap.step s (.remove i1) = (match plAt s i1 with | none => Vbwsap.no s 2 | some p => if Vbwsap.queued s p.num = true ∨ Vbwsap.playing s p.num = true then Vbwsap.no s 3 else Vbwsap.yes (removed s p) [(p.rating : Int)]) := rfl
    rw [e0] at k1
    obtain ⟨dw, hw⟩ := a1.ws.wo
    refine q_when (b := !(plAt s i1).isSome) (et_is (et_B (ev_dnotin (k := Sum.inl i1) (ev_var rfl) (ev_W CC (ev_var rfl) hw (worldF_players ..)) a1.ws.pd)) (by rw [val_player, Option.isSome_map])) (fun hb H2 e2 => ?_) (fun hb H2 e2 => ?_)
    · have hn : plAt s i1 = none := by
        cases hq : plAt s i1 with
        | none => rfl
        | some y => rw [hq] at hb; cases hb
      rw [hn] at k1
      exact s_no (k := 2) (a1.mono e2) (k1.mono (.of e2)) rfl
    · cases hq : plAt s i1 with
      | none => rw [hq] at hb; cases hb
      | some y =>
        rw [hq] at k1
        obtain ⟨hy, hyn⟩ := plAt_num hq
        subst hyn
        have a2 := a1.mono e2
        have k2 := k1.mono (.of e2)
        have k2' : Done K c γ rd l (i + 1) ns H2 Q (if Vbwsap.queued s y.num = true ∨ Vbwsap.playing s y.num = true then Vbwsap.no s 3 else Vbwsap.yes (removed s y) [(y.rating : Int)]) := k2
        refine q_when (b := Vbwsap.queued s y.num || Vbwsap.playing s y.num) (et_or (et_B (ev_waits a2.ws a2.W a2.un (ev_var rfl) (ev_var rfl))) fun _ => et_B (ev_plays a2.ws a2.W a2.un (ev_var rfl) (ev_var rfl))) (fun hb3 H3 e3 => ?_) (fun hb3 H3 e3 => ?_)
        · rw [if_pos (by simpa using hb3)] at k2'
          exact s_no (k := 3) (a2.mono e3) (k2'.mono (.of e3)) rfl
        · obtain ⟨hnq, hnp⟩ : Vbwsap.queued s y.num = false ∧ Vbwsap.playing s y.num = false := by simpa using hb3
          rw [if_neg (by rw [hnq, hnp]; simp)] at k2'
          have a3 := a2.mono e3
          have k3 := k2'.mono (.of e3)
          obtain ⟨dw3, hw3⟩ := a3.ws.wo
          refine q_asgPop (k := Sum.inl ((y.num : Nat) : Int)) (v := .ref (γ.pa y.num)) (ev_W CC (ev_var rfl) hw3 (worldF_players ..)) (ev_var rfl) a3.un.pd (by rw [val_player, hq]; rfl) fun H4 e4 => ?_
          have a4 := a3.mono e4
          have k4 := k3.mono (.of e4)
          have hdrop : dropK (pKv γ.pa s.players) (Sum.inl ((y.num : Nat) : Int) : Key) = pKv γ.pa (s.players.filter fun q => q.num != y.num) := by
            rw [pKv_is, dropK_kv]
            unfold pKv kvOf
            congr 1
            apply List.filter_congr
            intro x _
            rw [Bool.eq_iff_iff]
            simp only [bne_iff_ne, ne_eq]
            constructor
            · intro h z
              exact h (by rw [z])
            · intro h z
              exact h (by omega)
          rw [hdrop]
          have eB : ExB (· = γ.pd) H4 (upd H4 γ.pd (.dK (pKv γ.pa (s.players.filter fun q => q.num != y.num)))) := ExB.upd rfl
          have e3B := eB.mono (S' := S3 γ) fun b hb => .inr (.inl hb)
          obtain ⟨lr, lp, le, lm⟩ := lists_of a4.ws a4.un e3B
          obtain ⟨dw4, hw4⟩ := a4.ws.wo
          have hpd : upd H4 γ.pd (.dK (pKv γ.pa (s.players.filter fun q => q.num != y.num))) γ.pd = some (.dK (pKv γ.pa (s.players.filter fun q => q.num != y.num))) := upd_same
          have hed := eB _ _ a4.un.ed a4.ap.pe.symm
          have hmd := eB _ _ a4.un.md a4.ap.pm.symm
          have hw5 := eB _ _ hw4 (ne_of hw4 a4.un.pd (by intro z; cases z))
          have hy5 := lp y hy
          generalize upd H4 γ.pd (.dK (pKv γ.pa (s.players.filter fun q => q.num != y.num))) = G at *
          obtain ⟨dy, hy5⟩ := hy5
          refine q_fldaug (g := fun i j => i + j) (ev_var rfl) hw5 CC.W.cl (CC.W.na _ (by decide +kernel)) (worldF_pool ..) (ev_P CC (ev_var rfl) hy5 (playerF_rating _)) (by show 8 < 1000; decide) fun H5 e5 => ?_
          rw [worldF_putPool]
          have un5 : Un3 G γ { s with players := s.players.filter fun q => q.num != y.num } := ⟨hpd, hed, hmd⟩
          have ws5 : WS c G γ { s with players := s.players.filter fun q => q.num != y.num } := ⟨⟨dw4, hw5⟩, lr, .inl hpd, .inl hed, .inl hmd, fun p hp => lp p (List.mem_filter.mp hp).1, le, lm⟩
          obtain ⟨ws6, un6⟩ := ws_own (dx := dw4) (now := s.now) (pool := s.pool + y.rating) (season := s.season) (next := s.next) (ws5.mono e5) (un5.mono e5)
          have eW : ExB (S3 γ) H5 (upd H5 γ.w (.ins c.W dw4 (worldF γ.r (s.now : Nat) ((s.pool : Nat) + (y.rating : Nat)) (s.season : Nat) (s.next : Nat) γ.pd γ.ed γ.md))) := ExB.upd (.inl rfl)
          have eAll : ExB (S3 γ) H4 (upd H5 γ.w (.ins c.W dw4 (worldF γ.r (s.now : Nat) ((s.pool : Nat) + (y.rating : Nat)) (s.season : Nat) (s.next : Nat) γ.pd γ.ed γ.md))) := (e3B.ex e5).trans eW
          have ws7 : WS c (upd H5 γ.w (.ins c.W dw4 (worldF γ.r (s.now : Nat) ((s.pool : Nat) + (y.rating : Nat)) (s.season : Nat) (s.next : Nat) γ.pd γ.ed γ.md))) γ (removed s y) := ws6
          have un7 : Un3 (upd H5 γ.w (.ins c.W dw4 (worldF γ.r (s.now : Nat) ((s.pool : Nat) + (y.rating : Nat)) (s.season : Nat) (s.next : Nat) γ.pd γ.ed γ.md))) γ (removed s y) := un6
          have hy7 : upd H5 γ.w (.ins c.W dw4 (worldF γ.r (s.now : Nat) ((s.pool : Nat) + (y.rating : Nat)) (s.season : Nat) (s.next : Nat) γ.pd γ.ed γ.md)) (γ.pa y.num) = some (.ins c.P dy (playerF y)) := by
            rw [upd_ne (fun z => by
              have z2 := e5 _ _ hw5
              rw [← z, e5 _ _ hy5] at z2
              have z3 := Option.some.inj z2
              injection z3 with _ _ h3
              exact absurd (congrArg List.length h3) (by show ¬ (5 = 8); decide))]
            exact e5 _ _ hy5
          obtain ⟨dr, hrd⟩ := a4.rd
          have hrd7 := eAll _ _ hrd (off3 a4.ws a4.un hrd (by show 2 ≠ 8; decide))
          generalize upd H5 γ.w (.ins c.W dw4 (worldF γ.r (s.now : Nat) ((s.pool : Nat) + (y.rating : Nat)) (s.season : Nat) (s.next : Nat) γ.pd γ.ed γ.md)) = G2 at *
          have f7 : Fr H4 G2 := Fr.three a4.ws a4.un eAll ws7 un7 rfl rfl rfl rfl
          have a7 : At K c G2 γ (removed s y) rd l (i + 1) ns := ⟨ws7, a4.W.removed hnq hnp, un7, a4.ap, ⟨dr, hrd7⟩, f7.frm.seq a4.sq⟩
          refine s_retL (xs := [0, (y.rating : Int)].map V.int) (el_lst (ea_cons ev_c (ea_cons (ev_P CC (ev_var rfl) hy7 (playerF_rating _)) ea_nil)) (by show 2 ≤ 100000; decide)) fun p H8 hp e8 h8 => ?_
          exact k4 γ p H8 rfl (a7.mono e8) (f7.trans (.of e8)) (f7.dm p hp) h8
end
end EM

namespace EM
open PySem PySem.Spec PyProof.Rows L2 Evl
open Vbwsap (Rules Player Match sumOf membersOf gap State)
section
variable {K : PySem.W.Frag} {σ : L2.St} {H : Hp} {te : TE}
/-- a comprehension over a tuple display -/
theorem el_lcTup {α : Type} {tl : TE} {j : Nat} {vs : List Nat} {l : List α} (r g : α → V) (h : EvU tl σ H (l.map r)) (hz : l.length ≤ 40000) (hw : ∀ x, wipe ((wipe σ vs).set j (some x)) vs = wipe σ vs)
    (he : ∀ y ∈ l, ∀ H1, Ex H H1 → Ev te ((wipe σ vs).set j (some (r y))) H1 (g y)) : EvL (tLc (iTup K tl) (gName j) tYes te vs) σ H (l.map g) := fun H0 e Q q =>
  h H0 e _ fun p H1 hp e1 h1 => ⟨p, rfl, ⟨_, st_of h1⟩, fun Dl hD => by
    have e9 : l.map g = given l.length (fun i => (l[i]?).elim true fun _ => true) (fun i => (l[i]?).elim .non g) := by
      rw [given_take _ (Nat.le_refl _), List.take_length, List.filter_eq_self.mpr fun _ _ => rfl]
    rw [e9] at q
    have w := walk_tup (K := K) (a := p) (xs := l.map r)
    rw [List.length_map] at w
    refine lc_it w (Cw H1 (fun i => (l[i]?).elim true fun _ => true) (fun i => (l[i]?).elim .non g) Dl) ⟨hD, Ex.new hD, upd_same⟩ (fun i H' _ p' => ex_t p'.2.1 (st_of h1)) (fun i x H' H'' hi p' y => ?_) (fun H' p' => q Dl H' (fresh_back e1 p'.1) (e1.trans p'.2.1) p'.2.2)
    obtain ⟨rfl, hx⟩ := y
    rw [List.getElem?_map] at hx
    cases hq : l[i]? with
    | none => rw [hq] at hx; cases hx
    | some z =>
      rw [hq] at hx
      cases hx
      refine ⟨hw _, cw_turn p' (by omega) (by rw [hq]; exact et_yes) (fun _ => ?_)⟩
      rw [hq]
      exact he z (List.mem_of_getElem? hq) H1 (e.trans e1)⟩
end
/-! ### rows read -/
theorem tkRow_is {ns : List Int} {i n : Nat} {a : List Int} (h : tkRow (ns.drop i) = some (a, n)) : ∃ m : Nat, ns[i]? = some ((m : Nat) : Int) ∧ i + 1 + m ≤ ns.length ∧ (ns.drop (i + 1)).take m = a ∧ n = 1 + m ∧ m ≤ 20 := by
  cases hd : ns.drop i with
  | nil => rw [hd] at h; cases h
  | cons nr rest =>
    rw [hd] at h
    have ht' : (if 0 ≤ nr ∧ nr.toNat ≤ rest.length ∧ nr.toNat ≤ 20 then some (rest.take nr.toNat, 1 + nr.toNat) else none) = some (a, n) := h
    split at ht'
    case isFalse => cases ht'
    case isTrue hc =>
    cases ht'
    obtain ⟨hc1, hc2, hc3⟩ := hc
    have hrest : ns.drop (i + 1) = rest := by
      have := congrArg List.tail hd
      rw [List.tail_drop] at this
      exact this
    have h2 := congrArg List.length hd
    rw [List.length_drop, List.length_cons] at h2
    refine ⟨nr.toNat, ?_, by omega, by rw [hrest], rfl, hc3⟩
    rw [Int.toNat_of_nonneg hc1]
    exact drop_at hd 0
theorem tk_row_is {f : List Int → Vbwsap.Call} {l : List Int} {x : Vbwsap.Call} {n : Nat} (h : tk_row f l = some (x, n)) : ∃ a, tkRow l = some (a, n) ∧ x = f a := by
  unfold tk_row at h
  split at h
  · cases h
  · rename_i a m hq
    cases h
    exact ⟨a, hq, rfl⟩
theorem tk_two_is {f : List Int → List Int → Vbwsap.Call} {ns : List Int} {i : Nat} {x : Vbwsap.Call} {n : Nat} (h : tk_two f (ns.drop i) = some (x, n)) : ∃ a b m k, tkRow (ns.drop i) = some (a, m) ∧ tkRow (ns.drop (i + m)) = some (b, k) ∧ x = f a b ∧ n = m + k := by
  unfold tk_two at h
  split at h
  · cases h
  · rename_i a m hq
    split at h
    · cases h
    · rename_i b k hq2
      cases h
      rw [List.drop_drop] at hq2
      exact ⟨a, b, m, k, hq, hq2, rfl, rfl⟩
section
variable {P : Program} {w : World} {K : PySem.W.Frag} {mg : Str → Option Value} {base : Heap} {c : Cs}
/-- row = reader.take_row() -/
theorem q_takeR {σ : L2.St} {H : Hp} {D : Ends} {tz : TS} {γ : Gh} {s : State} {rd l : Addr} {i j n : Nat} {ns xs : List Int} (a : At K c H γ s rd l i ns) (hs : σ[1]? = some (some (.ref rd))) (ht : tkRow (ns.drop i) = some (xs, n))
    (k : ∀ p H1, H p = none → At K c H1 γ s rd l (i + n) ns → Fr H H1 → H1 p = some (.lst (xs.map V.int)) → xs.length ≤ 20 → tz D (σ.set j (some (.ref p))) H1) : tSeq (tAsg (tMeth c.D "take_row" (sp_take_row K c) [] E0 (tVar 1) tNil) (gName j)) tz D σ H := by
  obtain ⟨m, h1, h2, h3, rfl, h5⟩ := tkRow_is ht
  refine q_takeRow a hs h1 h2 fun p H1 hp a1 f1 h => ?_
  rw [h3] at h
  rw [show i + 1 + m = i + (1 + m) by omega] at a1
  exact k p H1 hp a1 f1 h (by rw [← h3, List.length_take]; omega)
theorem Fr.keep {H H' : Hp} {p : Addr} {xs : List Int} (f : Fr H H') (h : H p = some (.lst (xs.map V.int))) : H' p = some (.lst (xs.map V.int)) := f.frm _ _ h ⟨xs, rfl⟩
/-! ### ratings told -/
def rtOk (xs : List Int) : Bool := xs.all fun z => wIn 0 10000000 z
def sp_are_ratings (K : PySem.W.Frag) : Sp := fun vs H Q _ => ∃ (l : Addr) (xs : List Int), vs = [.ref l] ∧ SqL K H l (xs.map V.int) ∧ xs.length ≤ 20 ∧ RetV (.bl (rtOk xs)) H Q
abbrev s_are_ratings : Stmt := top 89
abbrev n_are_ratings : List Str := ["row", "rating"]
abbrev p_are_ratings : List Str := ["row"]
theorem sc_are_ratings : FnScope n_are_ratings p_are_ratings (defScope s_are_ratings) := ⟨rfl, rfl, rfl, by decide +kernel, rfl, by decide +kernel, by decide +kernel⟩

theorem ok_are_ratings (T : TxtK mg) (D : Def K mg "are_ratings" s_are_ratings p_are_ratings) (G_within : Has P w K mg base 1 "within" p_within sp_within) : Has P w K mg base 2 "are_ratings" p_are_ratings (sp_are_ratings K) := by
  refine D.has sc_are_ratings (fun vs H Q E h => ?_) (fun f cdv A outer sh H vs Q E hr h => ?_)
  · obtain ⟨l, xs, rfl, _⟩ := h
    rfl
  · obtain ⟨l, xs, rfl, hs, hz, k⟩ := h
    refine ⟨_, (pss_one (ps_ret (pe_callB (cr_all rfl) (by rfl) T.all (by decide +kernel) (pa_cons (pe_lc (own := [("rating", 1)]) (g := gName 1) (tt := tYes) (te := (tCall sp_within [] E0 (tCons (tVar 1) (tCons (tC (.int 0)) (tCons (tC (.int 10000000)) tNil))))) rfl sc_are_ratings.nd (pi_list (pv 0)) (blkOk_by (N := n_are_ratings) (sc := defScope s_are_ratings) (by decide +kernel)) (fun _ _ _ _ _ => pg_name (i := 1) sc_are_ratings.nd rfl (Or.inl rfl)) (fun _ _ _ _ _ => pts_nil) (fun _ _ _ _ _ => (pe_has G_within (hr.mono (by decide)) rfl (pa_cons (pv 1) (pa_cons pe_int (pa_cons (pe_const T.TOP rfl) pa_nil)))))) pa_nil)))), ?_⟩
    have hbs : ((xs.map fun z => wIn 0 10000000 z).all id) = rtOk xs := by
      rw [List.all_map]
      rfl
    have hl := el_mapT (K := K) (l := xs) (te := tCall sp_within [] E0 (tCons (tVar 1) (tCons (tC (.int 0)) (tCons (tC (.int 10000000)) tNil)))) (H := H) (σ := [some (.ref l), none]) (j := 1) (vs := [1]) V.int (fun z => V.bl (wIn 0 10000000 z)) (ev_var (i := 0) rfl) hs (by omega) (fun _ => rfl) fun y hy H2 e2 => ev_within (ev_var rfl) ev_c ev_c
    have hl2 : (xs.map fun z => V.bl (wIn 0 10000000 z)) = (xs.map fun z => wIn 0 10000000 z).map V.bl := by
      rw [List.map_map]
      rfl
    rw [hl2] at hl
    have hv := ev_allL (K := K) hl
    rw [hbs] at hv
    exact s_ret hv k
def sideOk (xs : List Int) (side : Int) : Bool := decide (((xs.length : Nat) : Int) = side) && rtOk xs
def sp_is_side_of_ratings (K : PySem.W.Frag) : Sp := fun vs H Q _ => ∃ (l : Addr) (xs : List Int) (side : Int), vs = [.ref l, .int side] ∧ SqL K H l (xs.map V.int) ∧ xs.length ≤ 20 ∧ RetV (.bl (sideOk xs side)) H Q
abbrev s_is_side_of_ratings : Stmt := top 90
abbrev n_is_side_of_ratings : List Str := ["row", "side"]
abbrev p_is_side_of_ratings : List Str := ["row", "side"]
theorem sc_is_side_of_ratings : FnScope n_is_side_of_ratings p_is_side_of_ratings (defScope s_is_side_of_ratings) := ⟨rfl, rfl, rfl, by decide +kernel, rfl, by decide +kernel, by decide +kernel⟩

theorem ok_is_side_of_ratings (T : TxtK mg) (D : Def K mg "is_side_of_ratings" s_is_side_of_ratings p_is_side_of_ratings) (G_are_ratings : Has P w K mg base 2 "are_ratings" p_are_ratings (sp_are_ratings K)) : Has P w K mg base 3 "is_side_of_ratings" p_is_side_of_ratings (sp_is_side_of_ratings K) := by
  refine D.has sc_is_side_of_ratings (fun vs H Q E h => ?_) (fun f cdv A outer sh H vs Q E hr h => ?_)
  · obtain ⟨l, xs, side, rfl, _⟩ := h
    rfl
  · obtain ⟨l, xs, side, rfl, hs, hz, k⟩ := h
    refine ⟨_, (pss_one (ps_ret (pe_and (pe_cmpR op_eq (pe_callB call_len_seq (by rfl) T.len PySem.boot_len (pa_cons (pv 0) pa_nil)) (pv 1) (nomark _)) (pe_one (pe_has G_are_ratings (hr.mono (by decide)) rfl (pa_cons (pv 0) pa_nil)))))), ?_⟩
    refine s_ret (ev_is (ev_andV (a := decide (((xs.length : Nat) : Int) = side)) (b := rtOk xs) (ev_is (ev_op (ev_len (ev_var rfl) hs) (ev_var rfl) (rv_eq rfl)) (by rw [List.length_map]; congr 1; rw [Bool.eq_iff_iff]; simp)) fun _ => ev_callV (vs := [.ref l]) (ea_cons (ev_var rfl) ea_nil) fun H1 e1 Q' q' => ⟨l, xs, rfl, ex_l e1 hs, hz, q'⟩) rfl) k
/-! ### lowest terms -/
def sp_common_divisor : Sp := fun vs H Q _ => ∃ a b : Nat, vs = [.int (a : Nat), .int (b : Nat)] ∧ RetV (.int (Nat.gcd a b : Nat)) H Q
theorem gcd_step (a b : Nat) : Nat.gcd b (a % b) = Nat.gcd a b := by
  rw [Nat.gcd_comm b, ← Nat.gcd_rec, Nat.gcd_comm]
abbrev s_common_divisor : Stmt := top 50
abbrev n_common_divisor : List Str := ["one", "other", "rest"]
abbrev p_common_divisor : List Str := ["one", "other"]
theorem sc_common_divisor : FnScope n_common_divisor p_common_divisor (defScope s_common_divisor) := ⟨rfl, rfl, rfl, by decide +kernel, rfl, by decide +kernel, by decide +kernel⟩

theorem ok_common_divisor (D : Def K mg "common_divisor" s_common_divisor p_common_divisor) : Has P w K mg base 1 "common_divisor" p_common_divisor sp_common_divisor := by
  refine D.has sc_common_divisor (fun vs H Q E h => ?_) (fun f cdv A outer sh H vs Q E hr h => ?_)
  · obtain ⟨a, b, rfl, _⟩ := h
    rfl
  · obtain ⟨a, b, rfl, k⟩ := h
    refine ⟨_, (pss_cons (ps_while PassesOwn.never (pt_cmpR op_gt (pv 1) pe_int (nomark _))
  (pss_cons (ps_set (i := 2) sc_common_divisor.nd rfl (Or.inl rfl) (pe_op op_modN (pv 0) (pv 1)))
 (pss_cons (ps_set (i := 0) sc_common_divisor.nd rfl (Or.inl rfl) (pv 1))
 (pss_one (ps_set (i := 1) sc_common_divisor.nd rfl (Or.inl rfl) (pv 2))))))
 (pss_one (ps_ret (pv 0)))), ?_⟩
    refine q_while (fun m σ' H' => ∃ (a' b' : Nat) (x : Option V), m = b' ∧ Ex H H' ∧ Nat.gcd a' b' = Nat.gcd a b ∧ σ' = [some (.int (a' : Nat)), some (.int (b' : Nat)), x]) b ⟨a, b, none, rfl, Ex.refl H, rfl, rfl⟩ ?_
    rintro m σ' H' ⟨a', b', x, rfl, e1, hg, rfl⟩
    refine ⟨decide (0 < ((m : Nat) : Int)), et_test (ev_op (ev_var rfl) ev_c rv_I0), fun hb H2 e2 => ?_, fun hb H2 e2 => ?_⟩
    · have hpos : 0 < ((m : Nat) : Int) := of_decide_eq_true hb
      refine ⟨fun σ2 H3 => ∃ x, Ex H H3 ∧ σ2 = [some (.int (m : Nat)), some (.int ((a' % m : Nat) : Nat)), x], ?_, ?_⟩
      · rintro σ2 H3 ⟨x, e3, rfl⟩
        exact ⟨a' % m, Nat.mod_lt _ (by omega), m, a' % m, x, rfl, e3, by rw [gcd_step, hg], rfl⟩
      · refine q_asg (v := .int ((a' % m : Nat) : Nat)) (ev_is (ev_op (ev_var rfl) (ev_var rfl) (rv_I (by omega))) ?_) fun H3 e3 => ?_
        · congr 1
          rw [Int.fmod_eq_emod_of_nonneg _ (by omega)]
          rfl
        refine q_asg (ev_var rfl) fun H4 e4 => ?_
        exact s_asg (ev_var rfl) fun H5 e5 => ⟨_, (((e1.trans e2).trans e3).trans e4).trans e5, rfl⟩
    · have hz : ¬ 0 < ((m : Nat) : Int) := of_decide_eq_false hb
      have hm : m = 0 := by omega
      subst hm
      rw [Nat.gcd_zero_right] at hg
      rw [← hg] at k
      exact s_ret (ev_var rfl) fun H3 e3 => k H3 ((e1.trans e2).trans e3)
def sp_lowest_terms : Sp := fun vs H Q _ => ∃ a b : Nat, vs = [.int (a : Nat), .int (b : Nat)] ∧ 0 < b ∧ b < 1073741824 ∧ RetL [.int ((Vbwsap.lowest a b).1 : Nat), .int ((Vbwsap.lowest a b).2 : Nat)] H Q
abbrev s_lowest_terms : Stmt := top 51
abbrev n_lowest_terms : List Str := ["above", "below", "divisor"]
abbrev p_lowest_terms : List Str := ["above", "below"]
theorem sc_lowest_terms : FnScope n_lowest_terms p_lowest_terms (defScope s_lowest_terms) := ⟨rfl, rfl, rfl, by decide +kernel, rfl, by decide +kernel, by decide +kernel⟩

theorem ok_lowest_terms (D : Def K mg "lowest_terms" s_lowest_terms p_lowest_terms) (G_common_divisor : Has P w K mg base 1 "common_divisor" p_common_divisor sp_common_divisor) : Has P w K mg base 2 "lowest_terms" p_lowest_terms sp_lowest_terms := by
  refine D.has sc_lowest_terms (fun vs H Q E h => ?_) (fun f cdv A outer sh H vs Q E hr h => ?_)
  · obtain ⟨a, b, rfl, _⟩ := h
    rfl
  · obtain ⟨a, b, rfl, h1, h2, k⟩ := h
    refine ⟨_, (pss_cons (ps_set (i := 2) sc_lowest_terms.nd rfl (Or.inl rfl) (pe_has G_common_divisor (hr.mono (by decide)) rfl (pa_cons (pv 0) (pa_cons (pv 1) pa_nil))))
 (pss_one (ps_ret (pe_lst (pa_cons (pe_op op_fdivN (pv 0) (pv 2)) (pa_cons (pe_op op_fdivN (pv 1) (pv 2)) pa_nil)))))), ?_⟩
    have hgp : 0 < Nat.gcd a b := Nat.gcd_pos_of_pos_right a h1
    have hgl : Nat.gcd a b ≤ b := Nat.gcd_le_right a h1
    have e0 : Vbwsap.lowest a b = (a / Nat.gcd a b, b / Nat.gcd a b) := by
      unfold Vbwsap.lowest
      exact if_neg (by omega)
    rw [e0] at k
    refine q_asg (v := .int (Nat.gcd a b : Nat)) (ev_callV (vs := [.int (a : Nat), .int (b : Nat)]) (ea_cons (ev_var rfl) (ea_cons (ev_var rfl) ea_nil)) fun H1 e1 Q' q' => ⟨a, b, rfl, q'⟩) fun H1 e1 => ?_
    exact s_retL (el_lst (ea_cons (ev_is (ev_op (ev_var rfl) (ev_var rfl) (rv_I ⟨by omega, by omega⟩)) (by congr 1; rw [Int.fdiv_eq_ediv_of_nonneg _ (by omega)]; rfl)) (ea_cons (ev_is (ev_op (ev_var rfl) (ev_var rfl) (rv_I ⟨by omega, by omega⟩)) (by congr 1; rw [Int.fdiv_eq_ediv_of_nonneg _ (by omega)]; rfl)) ea_nil)) (by show 2 ≤ 100000; decide)) (RetL.mono k e1)
def sp_expectation (K : PySem.W.Frag) (c : Cs) : Sp := fun vs H Q _ => ∃ (a l1 l2 : Addr) (r : Rules) (xs ys : List Int) (x y : Nat), vs = [.ref a, .ref l1, .ref l2] ∧ RulesAt c H a r ∧ RB r ∧ SqL K H l1 (xs.map V.int) ∧ SqL K H l2 (ys.map V.int) ∧ xs.sum = (x : Nat) ∧ ys.sum = (y : Nat) ∧
  RetL [.int ((Vbwsap.lowest (Vbwsap.expected r r.side x y) (2 * (r.range * r.side))).1 : Nat), .int ((Vbwsap.lowest (Vbwsap.expected r r.side x y) (2 * (r.range * r.side))).2 : Nat)] H Q
abbrev s_expectation : Stmt := top 52
abbrev n_expectation : List Str := ["rules", "first", "second"]
abbrev p_expectation : List Str := ["rules", "first", "second"]
theorem sc_expectation : FnScope n_expectation p_expectation (defScope s_expectation) := ⟨rfl, rfl, rfl, by decide +kernel, rfl, by decide +kernel, by decide +kernel⟩

theorem ok_expectation (T : TxtK mg) (CC : CT K c) (D : Def K mg "expectation" s_expectation p_expectation) (G_lowest_terms : Has P w K mg base 2 "lowest_terms" p_lowest_terms sp_lowest_terms) (G_expected : Has P w K mg base 2 "expected" p_expected (sp_expected K c)) (G_far_of : Has P w K mg base 1 "far_of" p_far_of (sp_far_of c)) :
    Has P w K mg base 3 "expectation" p_expectation (sp_expectation K c) := by
  refine D.has sc_expectation (fun vs H Q E h => ?_) (fun f cdv A outer sh H vs Q E hr h => ?_)
  · obtain ⟨a, l1, l2, r, xs, ys, x, y, rfl, _⟩ := h
    rfl
  · obtain ⟨a, l1, l2, r, xs, ys, x, y, rfl, ru, hb, s1, s2, hx, hy, k⟩ := h
    refine ⟨_, (pss_one (ps_ret (pe_has G_lowest_terms (hr.mono (by decide)) rfl (pa_cons (pe_has G_expected (hr.mono (by decide)) rfl (pa_cons (pv 0) (pa_cons (pv 1) (pa_cons (pv 2) pa_nil)))) (pa_cons (pe_op op_mul pe_int (pe_has G_far_of (hr.mono (by decide)) rfl (pa_cons (pv 0) pa_nil))) pa_nil))))), ?_⟩
    have hfar := farI_b hb
    have hf2 : (2 * farI r) = ((2 * (r.range * r.side) : Nat) : Int) := by
      unfold farI
      rw [Int.natCast_mul, Int.natCast_mul]
      rfl
    refine s_retL (el_callL (vs := [.int (Vbwsap.expected r r.side x y : Nat), .int ((2 * (r.range * r.side) : Nat) : Int)]) (ea_cons (ev_is (ev_callV (z := .int (exI r xs ys)) (vs := [.ref a, .ref l1, .ref l2]) (ea_cons (ev_var rfl) (ea_cons (ev_var rfl) (ea_cons (ev_var rfl) ea_nil))) fun H1 e1 Q' q' => ⟨a, l1, l2, r, xs, ys, rfl, ru.mono e1, hb, ex_l e1 s1, ex_l e1 s2, q'⟩) (by rw [exI_spec hx hy]))
      (ea_cons (ev_is (ev_op ev_c (ev_callV (z := .int (farI r)) (vs := [.ref a]) (ea_cons (ev_var rfl) ea_nil) fun H1 e1 Q' q' => ⟨a, r, rfl, ru.mono e1, hb, q'⟩) (rv_I (Or.inl (by decide)))) (by rw [hf2])) ea_nil)) fun H1 e1 Q' q' => ⟨_, _, rfl, by omega, by omega, q'⟩) k
/-! ### call 11 -/
theorem rtOk_from (xs : List Int) : rtOk xs = xs.all fun r => Vbwsap.from_ r 0 (Vbwsap.TOP : Int) := by
  unfold rtOk
  congr 1
  funext z
  rw [wIn_from]
  rfl
theorem rt_sum : ∀ {xs : List Int}, rtOk xs = true → xs.sum = ((sumOf (xs.map Int.toNat) : Nat) : Int)
  | [], _ => rfl
  | z :: r, h => by
    unfold rtOk at h
    rw [List.all_cons, Bool.and_eq_true] at h
    have e : sumOf ((z :: r).map Int.toNat) = z.toNat + sumOf (r.map Int.toNat) := rfl
    have hz := h.1
    rw [wIn_from, from_iff] at hz
    rw [List.sum_cons, rt_sum (xs := r) h.2, e, Int.natCast_add]
    omega
abbrev s_call_expect : Stmt := top 91
abbrev n_call_expect : List Str := ["world", "reader", "first", "second", "rules", "moves", "came"]
abbrev p_call_expect : List Str := ["world", "reader"]
theorem sc_call_expect : FnScope n_call_expect p_call_expect (defScope s_call_expect) := ⟨rfl, rfl, rfl, by decide +kernel, rfl, by decide +kernel, by decide +kernel⟩

theorem ok_call_expect (T : TxtK mg) (CC : CT K c) (D : Def K mg "call_expect" s_call_expect p_call_expect) (M_take_row : HasM P w K mg base 2 c.D "take_row" p_Reader_take_row (sp_take_row K c)) (G_is_side_of_ratings : Has P w K mg base 3 "is_side_of_ratings" p_is_side_of_ratings (sp_is_side_of_ratings K))
    (G_out_of_range : Has P w K mg base 1 "out_of_range" p_out_of_range (sp_no (-1))) (G_free_move : Has P w K mg base 3 "free_move" p_free_move (sp_free_move K c)) (G_expectation : Has P w K mg base 3 "expectation" p_expectation (sp_expectation K c)) :
    Has P w K mg base 4 "call_expect" p_call_expect (sp_call K c (tk_two .expect)) := by
  refine D.has sc_call_expect (fun vs H Q E h => ?_) (fun f cdv A outer sh H vs Q E hr h => ?_)
  · obtain ⟨γ, s, rd, l, i, n, ns, x, rfl, _⟩ := h
    rfl
  · obtain ⟨γ, s, rd, l, i, n, ns, x, rfl, a, ht, k⟩ := h
    refine ⟨_, (pss_cons (ps_set (i := 2) sc_call_expect.nd rfl (Or.inr rfl) (pe_hasM0 (pv 1) M_take_row (hr.mono (by decide))))
 (pss_cons (ps_set (i := 3) sc_call_expect.nd rfl (Or.inr rfl) (pe_hasM0 (pv 1) M_take_row (hr.mono (by decide))))
 (pss_cons (ps_set (i := 4) sc_call_expect.nd rfl (Or.inr rfl) (pe_fld (pv 0) rfl))
 (pss_cons (ps_if (pt_not (PW.pt (pw_and (pt_val (pe_has G_is_side_of_ratings (hr.mono (by decide)) rfl (pa_cons (pv 2) (pa_cons (pe_fld (pv 4) rfl) pa_nil)))) (pw_and1 (pt_val (pe_has G_is_side_of_ratings (hr.mono (by decide)) rfl (pa_cons (pv 3) (pa_cons (pe_fld (pv 4) rfl) pa_nil))))))))
  (pss_one (ps_ret (pe_has0 G_out_of_range (hr.mono (by decide)) rfl))) pss_nil)
 (pss_cons (ps_setLc (i := 5) (own := [("came", 6)]) (g := gName 6) (tt := tYes) (te := (tCall (sp_free_move K c) [] E0 (tCons (tVar 4) (tCons (tVar 2) (tCons (tVar 3) (tCons (tVar 6) tNil)))))) rfl sc_call_expect.nd rfl rfl (sw_true rfl rfl rfl (by decide +kernel)) (pi_tup (pe_tup (pa_cons (pe_const T.FIRST_WON rfl) (pa_cons (pe_const T.DRAW rfl) (pa_cons (pe_const T.SECOND_WON rfl) pa_nil))))) (blkOk_by (N := n_call_expect) (sc := defScope s_call_expect) (by decide +kernel)) (fun _ _ _ _ _ => pg_name (i := 6) sc_call_expect.nd rfl (Or.inl rfl)) (fun _ _ _ _ _ => pts_nil) (fun _ _ _ _ _ => (pe_has G_free_move (hr.mono (by decide)) rfl (pa_cons (pv 4) (pa_cons (pv 2) (pa_cons (pv 3) (pa_cons (pv 6) pa_nil)))))))
 (pss_one (ps_ret (pe_op op_cat (pe_op op_cat (pe_lst (pa_cons pe_int pa_nil)) (pe_has G_expectation (hr.mono (by decide)) rfl (pa_cons (pv 4) (pa_cons (pv 2) (pa_cons (pv 3) pa_nil))))) (pv 5))))))))), ?_⟩
    obtain ⟨xs, ys, n1, n2, ht1, ht2, rfl, rfl⟩ := tk_two_is ht
    refine q_takeR a rfl ht1 fun p H1 hp a1 f1 h1 hxl => ?_
    refine q_takeR a1 rfl ht2 fun q H2 hq a2 f2 h2 hyl => ?_
    have k2 := k.mono (f1.trans f2)
    rw [show i + (n1 + n2) = i + n1 + n2 by omega] at k2
    have h1' := f2.keep h1
    obtain ⟨dw, hw⟩ := a2.ws.wo
    obtain ⟨dr, hru⟩ := a2.ws.ru
    refine q_asg (ev_W CC (ev_var rfl) hw (worldF_rules ..)) fun H3 e3 => ?_
    have a3 := a2.mono e3
    have k3 := k2.mono (.of e3)
    have hru3 := e3 _ _ hru
    have side : ∀ {t : TE} {σ' : L2.St} {z : List Int} {r : Addr} {i : Nat}, z.length ≤ 20 → H3 r = some (.lst (z.map V.int)) → σ'[i]? = some (some (.ref r)) → Ev t σ' H3 (.int (s.rules.side : Nat)) → Ev (tCall (sp_is_side_of_ratings K) [] E0 (tCons (tVar i) (tCons t tNil))) σ' H3 (.bl (sideOk z (s.rules.side : Nat))) := fun {t σ' z r i} hz hr hv ht =>
      ev_callV (vs := [.ref r, .int (s.rules.side : Nat)]) (ea_cons (ev_var hv) (ea_cons ht ea_nil)) fun H4 e4 Q' q' => ⟨r, z, _, rfl, sq_of (e4 _ _ hr), hz, q'⟩
    refine q_when (b := !(sideOk xs (s.rules.side : Nat) && sideOk ys (s.rules.side : Nat))) (et_not (et_and (et_B (side hxl (e3 _ _ h1') rfl (ev_R CC (ev_var rfl) hru3 (rulesF_side _)))) fun _ => et_B (side hyl (e3 _ _ h2) rfl (ev_R CC (ev_var rfl) hru3 (rulesF_side _))))) (fun hb H4 e4 => ?_) (fun hb H4 e4 => ?_)
    · have hb' : ¬ (sideOk xs (s.rules.side : Nat) && sideOk ys (s.rules.side : Nat)) = true := fun z => by rw [z] at hb; cases hb
      have e0 : Vbwsap.step s (.expect xs ys) = (s, [-((1 : Nat) : Int)]) := if_pos (Classical.byContradiction fun z => hb' (by
        rw [not_or, not_or] at z
        obtain ⟨z1, z2, z3⟩ := z
        have z3' : ((xs ++ ys).all fun r => Vbwsap.from_ r 0 (Vbwsap.TOP : Int)) = true := by simpa using z3
        rw [List.all_append, ← rtOk_from, ← rtOk_from, Bool.and_eq_true] at z3'
        unfold sideOk
        rw [z3'.1, z3'.2, decide_eq_true (by omega), decide_eq_true (by omega)]
        rfl))
      rw [e0] at k3
      exact s_no (k := 1) (a3.mono e4) (k3.mono (.of e4)) rfl
    · have hb' : (sideOk xs (s.rules.side : Nat) && sideOk ys (s.rules.side : Nat)) = true := by simpa using hb
      unfold sideOk at hb'
      simp only [Bool.and_eq_true, decide_eq_true_eq] at hb'
      obtain ⟨⟨q1, q2⟩, q3, q4⟩ := hb'
      have hneg : ¬ (xs.length ≠ s.rules.side ∨ ys.length ≠ s.rules.side ∨ ((xs ++ ys).all fun r => Vbwsap.from_ r 0 (Vbwsap.TOP : Int)) = false) := by
        rw [List.all_append, ← rtOk_from, ← rtOk_from, q2, q4]
        simp
        omega
      generalize hX : sumOf (xs.map Int.toNat) = X at *
      generalize hY : sumOf (ys.map Int.toNat) = Y at *
      have hsx : xs.sum = (X : Nat) := by rw [rt_sum q2, hX]
      have hsy : ys.sum = (Y : Nat) := by rw [rt_sum q4, hY]
      have e0 : Vbwsap.step s (.expect xs ys) = (s, [0, ((Vbwsap.lowest (Vbwsap.expected s.rules s.rules.side X Y) (2 * (s.rules.range * s.rules.side))).1 : Int), ((Vbwsap.lowest (Vbwsap.expected s.rules s.rules.side X Y) (2 * (s.rules.range * s.rules.side))).2 : Int), Vbwsap.moved s.rules s.rules.side X Y 2, Vbwsap.moved s.rules s.rules.side X Y 1, Vbwsap.moved s.rules s.rules.side X Y 0]) := by
        rw [← hX, ← hY]
        exact if_neg hneg
      rw [e0] at k3
      have a4 := a3.mono e4
      have k4 := k3.mono (.of e4)
      have h1'' := (e3.trans e4) _ _ h1'
      have h2'' := (e3.trans e4) _ _ h2
      have hrb := a4.W.rb
      refine q_asgL (xs := ([2, 1, 0] : List Int).map fun z => V.int (frI s.rules xs ys z)) (el_lcTup (l := ([2, 1, 0] : List Int)) V.int (fun z => V.int (frI s.rules xs ys z)) (eu_tup (ea_cons ev_c (ea_cons ev_c (ea_cons ev_c ea_nil))) (by show 3 ≤ 100000; decide)) (by show 3 ≤ 40000; decide) (fun _ => rfl) fun z hz H5 e5 => ?_) fun m H5 hm e5 h5 => ?_
      · have hzb : 0 ≤ z ∧ z ≤ 2 := by
          rcases List.mem_cons.mp hz with h | hz
          · omega
          rcases List.mem_cons.mp hz with h | hz
          · omega
          rcases List.mem_cons.mp hz with h | hz
          · omega
          · cases hz
        exact ev_callV (vs := [.ref γ.r, .ref p, .ref q, .int z]) (ea_cons (ev_var rfl) (ea_cons (ev_var rfl) (ea_cons (ev_var rfl) (ea_cons (ev_var rfl) ea_nil)))) fun H6 e6 Q' q' => ⟨γ.r, p, q, s.rules, xs, ys, z, rfl, a4.ws.ru.mono (e5.trans e6), hrb, sq_of ((e5.trans e6) _ _ h1''), sq_of ((e5.trans e6) _ _ h2''), hzb.1, hzb.2, q'⟩
      · have m2 := frI_spec hrb (came := 2) hsx hsy
        have m1 := frI_spec hrb (came := 1) hsx hsy
        have m0 := frI_spec hrb (came := 0) hsx hsy
        rw [← m2, ← m1, ← m0] at k4
        refine s_retL (el_catL (el_catLL (el_lst (ea_cons ev_c ea_nil) (by show 1 ≤ 100000; decide)) (el_callL (vs := [.ref γ.r, .ref p, .ref q]) (ea_cons (ev_var rfl) (ea_cons (ev_var rfl) (ea_cons (ev_var rfl) ea_nil))) fun H6 e6 Q' q' => ⟨γ.r, p, q, s.rules, xs, ys, X, Y, rfl, a4.ws.ru.mono (e5.trans e6), hrb, sq_of ((e5.trans e6) _ _ h1''), sq_of ((e5.trans e6) _ _ h2''), hsx, hsy, q'⟩) (by show 3 ≤ 100000; decide)) (ev_var rfl) h5 (by show 6 ≤ 100000; decide)) fun r H6 hr e6 h6 => ?_
        exact k4.same a4 (fresh_back e5 hr) (e5.trans e6) h6
end
end EM

namespace EM
open PySem PySem.Spec PyProof.Rows L2 Evl
open Vbwsap (Rules Player Match sumOf membersOf gap State)
/-! ### parties by their numbers -/
theorem entriesOf_cons {s : State} {z : Int} {r : List Int} : Vbwsap.entriesOf s (z :: r) = match Vbwsap.entryOf s z, Vbwsap.entriesOf s r with
    | some x, some l => some (x :: l)
    | _, _ => none := rfl
theorem entriesOf_all {s : State} : ∀ {l : List Int}, (Vbwsap.entriesOf s l).isSome = l.all fun z => (Vbwsap.entryOf s z).isSome
  | [] => rfl
  | z :: r => by
    rw [entriesOf_cons, List.all_cons, ← entriesOf_all (l := r)]
    cases Vbwsap.entryOf s z <;> cases Vbwsap.entriesOf s r <;> rfl
theorem entriesOf_some {s : State} : ∀ {l : List Int} {x : List Ent}, Vbwsap.entriesOf s l = some x → l = x.map (fun e => ((e.num : Nat) : Int)) ∧ ∀ e ∈ x, e ∈ s.entries
  | [], x, h => by
    have h' : x = [] := by
      have : some ([] : List Ent) = some x := h
      exact (Option.some.inj this).symm
    subst h'
    exact ⟨rfl, fun e he => by cases he⟩
  | z :: r, x, h => by
    rw [entriesOf_cons] at h
    cases h1 : Vbwsap.entryOf s z with
    | none => rw [h1] at h; cases h
    | some e =>
      cases h2 : Vbwsap.entriesOf s r with
      | none => rw [h1, h2] at h; cases h
      | some y =>
        rw [h1, h2] at h
        have h' : e :: y = x := Option.some.inj h
        subst h'
        obtain ⟨i1, i2⟩ := entriesOf_some h2
        obtain ⟨q1, q2⟩ := entryOf_num h1
        refine ⟨by rw [List.map_cons, ← i1, q2], fun a ha => ?_⟩
        rcases List.mem_cons.mp ha with z | z
        · rw [z]; exact q1
        · exact i2 a z
theorem valV_ent {γ : Gh} {s : State} {e : Ent} (he : e ∈ s.entries) : valV (eKv γ.ea s.entries) (Sum.inl ((e.num : Nat) : Int)) = some (.ref (γ.ea e.num)) := by
  rw [val_entry]
  cases hf : Vbwsap.entryOf s ((e.num : Nat) : Int) with
  | none =>
    have := List.find?_eq_none.mp hf e he
    simp at this
  | some e' =>
    have := (entryOf_num hf).2
    have e0 : e'.num = e.num := by omega
    show some (V.ref (γ.ea e'.num)) = _
    rw [e0]
theorem unev_spec {s : State} (a b : List Ent) : unev (plOf s) a b = ((Vbwsap.uneven s a b : Nat) : Int) := by
  unfold unev Vbwsap.uneven
  rw [gap_abs, rsum_spec, rsum_spec]
def jdOf (s : State) (x y : List Ent) : List Int :=
  if (membersOf x).length ≠ s.rules.side ∨ (membersOf y).length ≠ s.rules.side then [0, 1]
  else match (x ++ y).find? fun e => !Vbwsap.takes s (x ++ y) e with
    | some e => [0, 2, (e.num : Int)]
    | none => [1, (Vbwsap.uneven s x y : Int), (Vbwsap.waited s (x ++ y) : Int)]
theorem fu_spec {s : State} (W : Wf s) {x : List Ent} (hx : ∀ e ∈ x, e ∈ s.entries) (hn : (membersOf x).length = 2 * s.rules.side) : fuOf s.rules (plOf s) (s.now : Nat) x = x.find? fun e => !Vbwsap.takes s x e := by
  unfold fuOf
  have key : ∀ l : List Ent, (∀ e ∈ l, e ∈ s.entries) → l.find? (fun e => decide (((s.now : Nat) : Int) < tkSince s.rules (plOf s) (rsum (plOf s) x : Nat) e)) = l.find? fun e => !Vbwsap.takes s x e := by
    intro l
    induction l with
    | nil => intro _; rfl
    | cons e r ih =>
      intro h
      have hew := W.ew e (h e List.mem_cons_self)
      have e1 : decide (((s.now : Nat) : Int) < tkSince s.rules (plOf s) (rsum (plOf s) x : Nat) e) = !Vbwsap.takes s x e := by
        rw [takes_spec hn W.side.1 hew.1 W.step.1 hew.2.2.1, ← decide_not]
        apply decide_eq_decide.mpr
        omega
      rw [List.find?_cons, List.find?_cons, e1, ih fun a ha => h a (List.mem_cons_of_mem _ ha)]
  exact key x hx
section
variable {P : Program} {w : World} {K : PySem.W.Frag} {mg : Str → Option Value} {base : Heap} {c : Cs}
def sp_judgement (K : PySem.W.Frag) (c : Cs) : Sp := fun vs H Q _ => ∃ (γ : Gh) (s : State) (l1 l2 : Addr) (x y : List Ent), vs = [.ref γ.w, .ref l1, .ref l2] ∧ WS c H γ s ∧ Wf s ∧ H l1 = some (.lst (eRefs γ.ea x)) ∧ H l2 = some (.lst (eRefs γ.ea y)) ∧ (∀ e ∈ x ++ y, e ∈ s.entries) ∧ x.length ≤ 20 ∧ y.length ≤ 20 ∧
  RetL ((jdOf s x y).map V.int) H Q
abbrev s_judgement : Stmt := top 92
abbrev n_judgement : List Str := ["world", "first", "second", "side", "unwilling", "pairing"]
abbrev p_judgement : List Str := ["world", "first", "second"]
theorem sc_judgement : FnScope n_judgement p_judgement (defScope s_judgement) := ⟨rfl, rfl, rfl, by decide +kernel, rfl, by decide +kernel, by decide +kernel⟩

theorem ok_judgement (T : TxtK mg) (CC : CT K c) (D : Def K mg "judgement" s_judgement p_judgement) (G_members_of : Has P w K mg base 1 "members_of" p_members_of (sp_members_of K c)) (G_first_unwilling : Has P w K mg base 3 "first_unwilling" p_first_unwilling (sp_first_unwilling K c))
    (C_Pairing : HasC P w K mg base 2 "Pairing" c.G p_Pairing___init__ (sp_Pairing K c)) : Has P w K mg base 4 "judgement" p_judgement (sp_judgement K c) := by
  refine D.has sc_judgement (fun vs H Q E h => ?_) (fun f cdv A outer sh H vs Q E hr h => ?_)
  · obtain ⟨γ, s, l1, l2, x, y, rfl, _⟩ := h
    rfl
  · obtain ⟨γ, s, l1, l2, x, y, rfl, ws, W, h1, h2, hin, hxl, hyl, k⟩ := h
    refine ⟨_, (pss_cons (ps_set (i := 3) sc_judgement.nd rfl (Or.inl rfl) (pe_fld (pe_fld (pv 0) rfl) rfl))
 (pss_cons (ps_if (PW.pt (pw_or (pt_cmpR op_ne (pe_callB call_len_seq (by rfl) T.len PySem.boot_len (pa_cons (pe_has G_members_of (hr.mono (by decide)) rfl (pa_cons (pv 1) pa_nil)) pa_nil)) (pv 3) (nomark _)) (pw_or1 (pt_cmpR op_ne (pe_callB call_len_seq (by rfl) T.len PySem.boot_len (pa_cons (pe_has G_members_of (hr.mono (by decide)) rfl (pa_cons (pv 2) pa_nil)) pa_nil)) (pv 3) (nomark _)))))
  (pss_one (ps_ret (pe_lst (pa_cons pe_int (pa_cons pe_int pa_nil))))) pss_nil)
 (pss_cons (ps_set (i := 4) sc_judgement.nd rfl (Or.inl rfl) (pe_has G_first_unwilling (hr.mono (by decide)) rfl (pa_cons (pv 0) (pa_cons (pe_op op_cat (pv 1) (pv 2)) pa_nil))))
 (pss_cons (ps_if (pt_cmpR op_notN (pv 4) pe_non (nomark _))
  (pss_one (ps_ret (pe_lst (pa_cons pe_int (pa_cons pe_int (pa_cons (pe_fld (pv 4) rfl) pa_nil)))))) pss_nil)
 (pss_cons (ps_set (i := 5) sc_judgement.nd rfl (Or.inl rfl) (pe_hasC C_Pairing (hr.mono (by decide)) rfl (pa_cons (pv 1) (pa_cons (pv 2) (pa_cons (pe_fld (pv 0) rfl) pa_nil)))))
 (pss_one (ps_ret (pe_lst (pa_cons pe_int (pa_cons (pe_fld (pv 5) rfl) (pa_cons (pe_fld (pv 5) rfl) pa_nil))))))))))), ?_⟩
    obtain ⟨dw, hw⟩ := ws.wo
    obtain ⟨dr, hru⟩ := ws.ru
    have hix : ∀ e ∈ x, e ∈ s.entries := fun e he => hin e (List.mem_append_left _ he)
    have hiy : ∀ e ∈ y, e ∈ s.entries := fun e he => hin e (List.mem_append_right _ he)
    have gx := ws.grp W hix
    have gy := ws.grp W hiy
    have gxy := ws.grp W hin
    refine q_asg (ev_R CC (ev_W CC (ev_var rfl) hw (worldF_rules ..)) hru (rulesF_side _)) fun H1 e1 => ?_
    have ln : ∀ {σ' : L2.St} {i : Nat} {l : Addr} {row : List Ent}, H l = some (.lst (eRefs γ.ea row)) → Grp c H γ.pa γ.ea (plOf s) row → row.length ≤ 20 → σ'[i]? = some (some (.ref l)) → Ev (tCB (rLenS K) (tCons (tCall (sp_members_of K c) [] E0 (tCons (tVar i) tNil)) tNil)) σ' H1 (.int ((membersOf row).length : Nat)) := fun {σ' i l row} hl g hz hs =>
      ev_is (ev_lenN (el_callL (xs := pRefs γ.pa (membersOf row)) (vs := [.ref l]) (ea_cons (ev_var hs) ea_nil) fun H2 e2 Q' q' => ⟨l, γ.pa, γ.ea, plOf s, row, rfl, sq_of ((e1.trans e2) _ _ hl), g.mono (e1.trans e2), by omega, q'⟩)) (by unfold pRefs; rw [List.length_map])
    unfold jdOf at k
    refine q_when (b := decide ((membersOf x).length ≠ s.rules.side) || decide ((membersOf y).length ≠ s.rules.side)) (et_or (et_test (ev_is (ev_op (ln h1 gx hxl rfl) (ev_var rfl) (rv_ne rfl)) (by congr 1; rw [Bool.eq_iff_iff]; simp; omega))) fun _ => et_test (ev_is (ev_op (ln h2 gy hyl rfl) (ev_var rfl) (rv_ne rfl)) (by congr 1; rw [Bool.eq_iff_iff]; simp; omega))) (fun hb H2 e2 => ?_) (fun hb H2 e2 => ?_)
    · rw [if_pos (by simpa using hb)] at k
      exact s_retL (el_lst (ea_cons ev_c (ea_cons ev_c ea_nil)) (by show 2 ≤ 100000; decide)) (RetL.mono k (e1.trans e2))
    · obtain ⟨q1, q2⟩ : (membersOf x).length = s.rules.side ∧ (membersOf y).length = s.rules.side := by simpa using hb
      rw [if_neg (by rw [q1, q2]; simp)] at k
      have hn : (membersOf (x ++ y)).length = 2 * s.rules.side := by
        rw [membersOf_append, List.length_append, q1, q2]
        omega
      have e12 := e1.trans e2
      rw [← fu_spec W hin hn] at k
      have hcat : EvL (tOp rCat (tVar 1) (tVar 2)) ((start n_judgement [.ref γ.w, .ref l1, .ref l2]).set 3 (some (.int (s.rules.side : Nat)))) H2 (eRefs γ.ea (x ++ y)) := by
        unfold eRefs
        rw [List.map_append]
        exact el_cat (ev_var rfl) (ev_var rfl) (e12 _ _ h1) (e12 _ _ h2) (by (try unfold eRefs); rw [List.length_map, List.length_map]; omega)
      refine q_asg (v := optE γ.ea (fuOf s.rules (plOf s) (s.now : Nat) (x ++ y))) (ev_callVN (ev_var rfl) hcat fun p H3 e3 h3 Q' q' => ⟨γ, s, p, x ++ y, rfl, ws.mono (e12.trans e3), W, sq_of h3, hin, q'⟩) fun H3 e3 => ?_
      have e13 := e12.trans e3
      cases hf : fuOf s.rules (plOf s) (s.now : Nat) (x ++ y) with
      | some e =>
        rw [hf] at k
        have he : e ∈ x ++ y := List.mem_of_find?_eq_some hf
        obtain ⟨de, le, h4, h5⟩ := gxy.en e he
        refine q_when (b := true) (et_test (ev_op (ev_var (v := .ref (γ.ea e.num)) rfl) ev_c (fun H4 _ Q' q' => ⟨rfl, q' H4 (Ex.refl H4)⟩))) (fun _ H4 e4 => ?_) (fun z => by cases z)
        exact s_retL (xs := ([0, 2, (e.num : Int)]).map V.int) (el_lst (ea_cons ev_c (ea_cons ev_c (ea_cons (ev_E CC (ev_var rfl) ((e13.trans e4) _ _ h4) (entryF_number _ _)) ea_nil))) (by show 3 ≤ 100000; decide)) (RetL.mono k (e13.trans e4))
      | none =>
        rw [hf] at k
        refine q_when (b := false) (et_test (ev_op (ev_var (v := .non) rfl) ev_c (fun H4 _ Q' q' => ⟨rfl, q' H4 (Ex.refl H4)⟩))) (fun z => by cases z) (fun _ H4 e4 => ?_)
        have e14 := e13.trans e4
        refine q_asgMk (vs := [.ref l1, .ref l2, .int (s.now : Nat)]) (ea_cons (ev_var rfl) (ea_cons (ev_var rfl) (ea_cons (ev_W CC (ev_var rfl) (e14 _ _ hw) (worldF_tick ..)) ea_nil))) fun H5 g dg e5 ng nd ne => ?_
        have e15 := e14.trans e5
        refine ⟨H5, g, dg, l1, l2, _, γ.pa, γ.ea, plOf s, x, y, rfl, made_ex ng nd, ng, made_at, e15 _ _ h1, e15 _ _ h2, gx.mono e15, gy.mono e15, by omega, by omega, fun H6 e6 h6 => ⟨rfl, ?_⟩⟩
        rw [unev_spec, wait_spec (fun e he => (W.ew e (hin e he)).2.2.1)] at h6
        exact s_retL (xs := ([1, (Vbwsap.uneven s x y : Int), (Vbwsap.waited s (x ++ y) : Int)]).map V.int) (el_lst (ea_cons ev_c (ea_cons (ev_G CC (ev_var rfl) h6 (pairF_uneven ..)) (ea_cons (ev_G CC (ev_var rfl) h6 (pairF_waited ..)) ea_nil))) (by show 3 ≤ 100000; decide)) (RetL.mono k (e15.trans e6))
/-! ### call 12 -/
theorem distinct_nums {x : List Ent} : Vbwsap.distinct (x.map fun e => e.num) = decide (x.map fun e => ((e.num : Nat) : Int)).Nodup := by
  rw [Bool.eq_iff_iff, distinct_iff, decide_eq_true_eq]
  have e0 : (x.map fun e => e.num) = (x.map fun e => ((e.num : Nat) : Int)).map Int.toNat := by
    rw [List.map_map]
    apply List.map_congr_left
    intro e _
    rfl
  rw [e0]
  exact nodup_toNat fun z hz => by
    obtain ⟨e, _, rfl⟩ := List.mem_map.mp hz
    omega
abbrev s_call_judge : Stmt := top 93
abbrev n_call_judge : List Str := ["world", "reader", "first", "second", "both", "first_side", "second_side", "number"]
abbrev p_call_judge : List Str := ["world", "reader"]
theorem sc_call_judge : FnScope n_call_judge p_call_judge (defScope s_call_judge) := ⟨rfl, rfl, rfl, by decide +kernel, rfl, by decide +kernel, by decide +kernel⟩

theorem ok_call_judge (T : TxtK mg) (CC : CT K c) (D : Def K mg "call_judge" s_call_judge p_call_judge) (M_take_row : HasM P w K mg base 2 c.D "take_row" p_Reader_take_row (sp_take_row K c)) (G_none_of_that_number : Has P w K mg base 1 "none_of_that_number" p_none_of_that_number (sp_no (-2)))
    (G_not_so : Has P w K mg base 1 "not_so" p_not_so (sp_no (-4))) (G_judgement : Has P w K mg base 4 "judgement" p_judgement (sp_judgement K c)) : Has P w K mg base 5 "call_judge" p_call_judge (sp_call K c (tk_two .judge)) := by
  refine D.has sc_call_judge (fun vs H Q E h => ?_) (fun f cdv A outer sh H vs Q E hr h => ?_)
  · obtain ⟨γ, s, rd, l, i, n, ns, x, rfl, _⟩ := h
    rfl
  · obtain ⟨γ, s, rd, l, i, n, ns, x, rfl, a, ht, k⟩ := h
    refine ⟨_, (pss_cons (ps_set (i := 2) sc_call_judge.nd rfl (Or.inl rfl) (pe_hasM0 (pv 1) M_take_row (hr.mono (by decide))))
 (pss_cons (ps_set (i := 3) sc_call_judge.nd rfl (Or.inl rfl) (pe_hasM0 (pv 1) M_take_row (hr.mono (by decide))))
 (pss_cons (ps_set (i := 4) sc_call_judge.nd rfl (Or.inl rfl) (pe_op op_cat (pv 2) (pv 3)))
 (pss_cons (ps_if (pt_val (pe_callB (cr_any rfl) (by rfl) T.any (by decide +kernel) (pa_cons (pe_lc (own := [("number", 7)]) (g := gName 7) (tt := tYes) (te := (tDNotIn (tVar 7) (tFld K (tVar 0) "parties"))) rfl sc_call_judge.nd (pi_list (pv 4)) (blkOk_by (N := n_call_judge) (sc := defScope s_call_judge) (by decide +kernel)) (fun _ _ _ _ _ => pg_name (i := 7) sc_call_judge.nd rfl (Or.inl rfl)) (fun _ _ _ _ _ => pts_nil) (fun _ _ _ _ _ => (pe_cmp (pc_dnotin (hu_of hr) (pv 7) (pe_fld (pv 0) rfl))))) pa_nil)))
  (pss_one (ps_ret (pe_has0 G_none_of_that_number (hr.mono (by decide)) rfl))) pss_nil)
 (pss_cons (ps_if (pt_cmpR op_lt (pe_lenSetA rfl T.len rfl T.set (pv 4)) (pe_callB call_len_seq (by rfl) T.len PySem.boot_len (pa_cons (pv 4) pa_nil)) (nomark _))
  (pss_one (ps_ret (pe_has0 G_not_so (hr.mono (by decide)) rfl))) pss_nil)
 (pss_cons (ps_setLc (i := 5) (own := [("number", 7)]) (g := gName 7) (tt := tYes) (te := (tDGet (tFld K (tVar 0) "parties") (tVar 7))) rfl sc_call_judge.nd rfl rfl (sw_true rfl rfl rfl (by decide +kernel)) (pi_list (pv 2)) (blkOk_by (N := n_call_judge) (sc := defScope s_call_judge) (by decide +kernel)) (fun _ _ _ _ _ => pg_name (i := 7) sc_call_judge.nd rfl (Or.inl rfl)) (fun _ _ _ _ _ => pts_nil) (fun _ _ _ _ _ => (pe_dget (hu_of hr) (pe_fld (pv 0) rfl) (pv 7) (fun _ _ => rfl))))
 (pss_cons (ps_setLc (i := 6) (own := [("number", 7)]) (g := gName 7) (tt := tYes) (te := (tDGet (tFld K (tVar 0) "parties") (tVar 7))) rfl sc_call_judge.nd rfl rfl (sw_true rfl rfl rfl (by decide +kernel)) (pi_list (pv 3)) (blkOk_by (N := n_call_judge) (sc := defScope s_call_judge) (by decide +kernel)) (fun _ _ _ _ _ => pg_name (i := 7) sc_call_judge.nd rfl (Or.inl rfl)) (fun _ _ _ _ _ => pts_nil) (fun _ _ _ _ _ => (pe_dget (hu_of hr) (pe_fld (pv 0) rfl) (pv 7) (fun _ _ => rfl))))
 (pss_one (ps_ret (pe_op op_cat (pe_lst (pa_cons pe_int pa_nil)) (pe_has G_judgement (hr.mono (by decide)) rfl (pa_cons (pv 0) (pa_cons (pv 5) (pa_cons (pv 6) pa_nil)))))))))))))), ?_⟩
    obtain ⟨xs, ys, n1, n2, ht1, ht2, rfl, rfl⟩ := tk_two_is ht
    refine q_takeR a rfl ht1 fun p H1 hp a1 f1 h1 hxl => ?_
    refine q_takeR a1 rfl ht2 fun q H2 hq a2 f2 h2 hyl => ?_
    have k2 := k.mono (f1.trans f2)
    rw [show i + (n1 + n2) = i + n1 + n2 by omega] at k2
    have h1' := f2.keep h1
    refine q_asgL (el_cat (ev_var rfl) (ev_var rfl) h1' h2 (by rw [List.length_map, List.length_map]; omega)) fun b H3 hb e3 h3 => ?_
    rw [← List.map_append] at h3
    have a3 := a2.mono e3
    have k3 := k2.mono (.of e3)
    obtain ⟨dw, hw⟩ := a3.ws.wo
    have hzl : (xs ++ ys).length ≤ 40 := by rw [List.length_append]; omega
    have hl1 := el_mapT (K := K) (H := H3) (l := xs ++ ys) (te := tDNotIn (tVar 7) (tFld K (tVar 0) "parties")) (σ := [some (.ref γ.w), some (.ref rd), some (.ref p), some (.ref q), some (.ref b), none, none, none]) (j := 7) (vs := [7]) V.int (fun z => V.bl (!(Vbwsap.entryOf s z).isSome)) (ev_var (i := 4) rfl) (sq_of h3) (by omega) (fun _ => rfl) fun y hy H4 e4 =>
      ev_is (ev_dnotin (k := Sum.inl y) (ev_var rfl) (ev_W CC (ev_var rfl) (e4 _ _ hw) (worldF_parties ..)) (ex_rd e4 a3.ws.ed)) (by rw [val_entry, Option.isSome_map])
    have hl1' : ((xs ++ ys).map fun z => V.bl (!(Vbwsap.entryOf s z).isSome)) = ((xs ++ ys).map fun z => !(Vbwsap.entryOf s z).isSome).map V.bl := by
      rw [List.map_map]
      rfl
    rw [hl1'] at hl1
    have hb1 : (((xs ++ ys).map fun z => !(Vbwsap.entryOf s z).isSome).any id) = !((Vbwsap.entriesOf s xs).isSome && (Vbwsap.entriesOf s ys).isSome) := by
      rw [List.any_map, entriesOf_all, entriesOf_all, ← List.all_append, List.not_all_eq_any_not]
      rfl
    have hv1 := ev_anyL (K := K) hl1
    rw [hb1] at hv1
    have e0 : Vbwsap.step s (.judge xs ys) = (match Vbwsap.entriesOf s xs, Vbwsap.entriesOf s ys with
      | some x, some y => if Vbwsap.distinct ((x ++ y).map fun e => e.num) = false then Vbwsap.no s 4
        else if (membersOf x).length ≠ s.rules.side ∨ (membersOf y).length ≠ s.rules.side then Vbwsap.yes s [0, 1]
        else (match (x ++ y).find? fun e => !Vbwsap.takes s (x ++ y) e with
          | some e => Vbwsap.yes s [0, 2, (e.num : Int)]
          | none => Vbwsap.yes s [1, (Vbwsap.uneven s x y : Int), (Vbwsap.waited s (x ++ y) : Int)])
      | _, _ => Vbwsap.no s 2) := rfl
    rw [e0] at k3
    refine q_when (b := !((Vbwsap.entriesOf s xs).isSome && (Vbwsap.entriesOf s ys).isSome)) (et_B hv1) (fun hb4 H4 e4 => ?_) (fun hb4 H4 e4 => ?_)
    · have k3' : Done K c γ rd l (i + n1 + n2) ns H3 Q (s, [-((2 : Nat) : Int)]) := by
        cases hx : Vbwsap.entriesOf s xs with
        | none =>
          rw [hx] at k3
          exact k3
        | some x =>
          cases hy : Vbwsap.entriesOf s ys with
          | none =>
            rw [hx, hy] at k3
            exact k3
          | some y =>
            rw [hx, hy] at hb4
            cases hb4
      exact s_no (k := 2) (a3.mono e4) (k3'.mono (.of e4)) rfl
    · cases hx : Vbwsap.entriesOf s xs with
      | none => rw [hx] at hb4; cases hb4
      | some x =>
        cases hy : Vbwsap.entriesOf s ys with
        | none => rw [hx, hy] at hb4; cases hb4
        | some y =>
          rw [hx, hy] at k3
          obtain ⟨rfl, hix⟩ := entriesOf_some hx
          obtain ⟨rfl, hiy⟩ := entriesOf_some hy
          have hin : ∀ e ∈ x ++ y, e ∈ s.entries := fun e he => by
            rcases List.mem_append.mp he with z | z
            · exact hix e z
            · exact hiy e z
          rw [List.length_map] at hxl hyl
          have a4 := a3.mono e4
          have k4 := k3.mono (.of e4)
          have hdis : Vbwsap.distinct ((x ++ y).map fun e => e.num) = decide ((x.map fun e => ((e.num : Nat) : Int)) ++ y.map fun e => ((e.num : Nat) : Int)).Nodup := by
            rw [distinct_nums, List.map_append]
          have k4' : Done K c γ rd l (i + n1 + n2) ns H4 Q (if Vbwsap.distinct ((x ++ y).map fun e => e.num) = false then (s, [-((4 : Nat) : Int)]) else (s, 0 :: jdOf s x y)) := by
            have e5 : (if Vbwsap.distinct ((x ++ y).map fun e => e.num) = false then Vbwsap.no s 4
                else if (membersOf x).length ≠ s.rules.side ∨ (membersOf y).length ≠ s.rules.side then Vbwsap.yes s [0, 1]
                else (match (x ++ y).find? fun e => !Vbwsap.takes s (x ++ y) e with
                  | some e => Vbwsap.yes s [0, 2, (e.num : Int)]
                  | none => Vbwsap.yes s [1, (Vbwsap.uneven s x y : Int), (Vbwsap.waited s (x ++ y) : Int)])) = (if Vbwsap.distinct ((x ++ y).map fun e => e.num) = false then (s, [-((4 : Nat) : Int)]) else (s, 0 :: jdOf s x y)) := by
              congr 1
              unfold jdOf
              split
              · rfl
              · cases (x ++ y).find? fun e => !Vbwsap.takes s (x ++ y) e <;> rfl
            rw [← e5]
            exact k4
          have hlen : Ev (tCB (rLenS K) (tCons (tVar 4) tNil)) [some (.ref γ.w), some (.ref rd), some (.ref p), some (.ref q), some (.ref b), none, none, none] H4 (.int (((x.map fun e => ((e.num : Nat) : Int)) ++ y.map fun e => ((e.num : Nat) : Int)).length : Nat)) := ev_is (ev_len (ev_var rfl) (sq_of (e4 _ _ h3))) (by rw [List.length_map])
          refine q_when (b := !decide ((x.map fun e => ((e.num : Nat) : Int)) ++ y.map fun e => ((e.num : Nat) : Int)).Nodup) (et_test (ev_lenSetLt (ev_var rfl) hlen (sq_of (e4 _ _ h3)) (by rw [List.length_append, List.length_map, List.length_map]; omega))) (fun hb5 H5 e5 => ?_) (fun hb5 H5 e5 => ?_)
          · rw [if_pos (by rw [hdis]; simpa using hb5)] at k4'
            exact s_no (k := 4) (a4.mono e5) (k4'.mono (.of e5)) rfl
          · rw [if_neg (by rw [hdis]; simpa using hb5)] at k4'
            have a5 := a4.mono e5
            have k5 := k4'.mono (.of e5)
            have e35 := e3.trans (e4.trans e5)
            have g1 := e35 _ _ h1'
            have g2 := e35 _ _ h2
            rw [List.map_map] at g1 g2
            refine q_asgL (xs := eRefs γ.ea x) (el_mapT (l := x) (fun e => V.int ((e.num : Nat) : Int)) (fun e => V.ref (γ.ea e.num)) (ev_var rfl) (sq_of g1) (by omega) (fun _ => rfl) fun e he H6 e6 => ?_) fun lx H6 hlx e6 h6 => ?_
            · exact ev_dget (k := Sum.inl ((e.num : Nat) : Int)) (ev_W CC (ev_var rfl) ((e4.trans (e5.trans e6)) _ _ hw) (worldF_parties ..)) (ev_var rfl) (ex_rd e6 a5.ws.ed) (valV_ent (hix e he))
            refine q_asgL (xs := eRefs γ.ea y) (el_mapT (l := y) (fun e => V.int ((e.num : Nat) : Int)) (fun e => V.ref (γ.ea e.num)) (ev_var rfl) (sq_of (e6 _ _ g2)) (by omega) (fun _ => rfl) fun e he H7 e7 => ?_) fun ly H7 hly e7 h7 => ?_
            · exact ev_dget (k := Sum.inl ((e.num : Nat) : Int)) (ev_W CC (ev_var rfl) ((e4.trans (e5.trans (e6.trans e7))) _ _ hw) (worldF_parties ..)) (ev_var rfl) (ex_rd (e6.trans e7) a5.ws.ed) (valV_ent (hiy e he))
            have e57 := e6.trans e7
            have hjl : (jdOf s x y).length ≤ 3 := by
              unfold jdOf
              split
              · show 2 ≤ 3; decide
              · split <;> (show 3 ≤ 3; decide)
            refine s_retL (el_catLL (xs := ([0] : List Int).map V.int) (ys := (jdOf s x y).map V.int) (el_lst (ea_cons ev_c ea_nil) (by show 1 ≤ 100000; decide)) (el_callL (vs := [.ref γ.w, .ref lx, .ref ly]) (ea_cons (ev_var rfl) (ea_cons (ev_var rfl) (ea_cons (ev_var rfl) ea_nil))) fun H8 e8 Q' q' => ⟨γ, s, lx, ly, x, y, rfl, a5.ws.mono (e57.trans e8), a5.W, (e7.trans e8) _ _ h6, e8 _ _ h7, hin, hxl, hyl, q'⟩) (by rw [List.length_map, List.length_map]; show 1 + _ ≤ _; omega)) fun r H8 hr e8 h8 => ?_
            exact k5.same a5 (fresh_back e57 hr) (e57.trans e8) h8
/-! ### call 13 -/
abbrev s_call_best : Stmt := top 94
abbrev n_call_best : List Str := ["world", "reader", "number", "best", "told"]
abbrev p_call_best : List Str := ["world", "reader"]
theorem sc_call_best : FnScope n_call_best p_call_best (defScope s_call_best) := ⟨rfl, rfl, rfl, by decide +kernel, rfl, by decide +kernel, by decide +kernel⟩

theorem ok_call_best (T : TxtK mg) (CC : CT K c) (D : Def K mg "call_best" s_call_best p_call_best) (M_take_whole : HasM P w K mg base 1 c.D "take_whole" p_Reader_take_whole (sp_take_whole K c)) (G_none_of_that_number : Has P w K mg base 1 "none_of_that_number" p_none_of_that_number (sp_no (-2)))
    (G_best_match : Has P w K mg base 16 "best_match" p_best_match (sp_best_match c)) (G_numbers_of : Has P w K mg base 1 "numbers_of" p_numbers_of (sp_numbersE K c)) : Has P w K mg base 17 "call_best" p_call_best (sp_call K c (tk_one .best)) := by
  refine D.has sc_call_best (fun vs H Q E h => ?_) (fun f cdv A outer sh H vs Q E hr h => ?_)
  · obtain ⟨γ, s, rd, l, i, n, ns, x, rfl, _⟩ := h
    rfl
  · obtain ⟨γ, s, rd, l, i, n, ns, x, rfl, a, ht, k⟩ := h
    refine ⟨_, (pss_cons (ps_set (i := 2) sc_call_best.nd rfl (Or.inl rfl) (pe_hasM0 (pv 1) M_take_whole (hr.mono (by decide))))
 (pss_cons (ps_if (pt_cmp (pc_dnotin (hu_of hr) (pv 2) (pe_fld (pv 0) rfl)))
  (pss_one (ps_ret (pe_has0 G_none_of_that_number (hr.mono (by decide)) rfl))) pss_nil)
 (pss_cons (ps_set (i := 3) sc_call_best.nd rfl (Or.inl rfl) (pe_has G_best_match (hr.mono (by decide)) rfl (pa_cons (pv 0) (pa_cons (pe_dget (hu_of hr) (pe_fld (pv 0) rfl) (pv 2) (fun _ _ => rfl)) pa_nil))))
 (pss_cons (ps_if (pt_cmpR op_isN (pv 3) pe_non (nomark _))
  (pss_one (ps_ret (pe_lst (pa_cons pe_int (pa_cons pe_int pa_nil))))) pss_nil)
 (pss_cons (ps_set (i := 4) sc_call_best.nd rfl (Or.inl rfl) (pe_lst (pa_cons pe_int (pa_cons pe_int (pa_cons (pe_fld (pv 3) rfl) (pa_cons (pe_fld (pv 3) rfl) (pa_cons (pe_callB call_len_seq (by rfl) T.len PySem.boot_len (pa_cons (pe_fld (pv 3) rfl) pa_nil)) pa_nil)))))))
 (pss_one (ps_ret (pe_op op_cat (pv 4) (pe_has G_numbers_of (hr.mono (by decide)) rfl (pa_cons (pe_op op_cat (pe_fld (pv 3) rfl) (pe_fld (pv 3) rfl)) pa_nil)))))))))), ?_⟩
    obtain ⟨i1, rest, hd, rfl, rfl⟩ := tk_one_is ht
    refine q_take a rfl (drop_at hd 0) fun H1 a1 f1 => ?_
    have k1 := k.mono f1
    have e0 : Vbwsap.step s (.best i1) = (match Vbwsap.entryOf s i1 with | none => Vbwsap.no s 2 | some x => match Vbwsap.bestFor s x with | none => Vbwsap.yes s [0] | some y => Vbwsap.yes s (1 :: Vbwsap.sidesRow s y)) := rfl
    rw [e0] at k1
    obtain ⟨dw, hw⟩ := a1.ws.wo
    refine q_when (b := !(Vbwsap.entryOf s i1).isSome) (et_is (et_B (ev_dnotin (k := Sum.inl i1) (ev_var rfl) (ev_W CC (ev_var rfl) hw (worldF_parties ..)) a1.ws.ed)) (by rw [val_entry, Option.isSome_map])) (fun hb H2 e2 => ?_) (fun hb H2 e2 => ?_)
    · have hn : Vbwsap.entryOf s i1 = none := by
        cases hq : Vbwsap.entryOf s i1 with
        | none => rfl
        | some y => rw [hq] at hb; cases hb
      rw [hn] at k1
      exact s_no (k := 2) (a1.mono e2) (k1.mono (.of e2)) rfl
    · cases hq : Vbwsap.entryOf s i1 with
      | none => rw [hq] at hb; cases hb
      | some y =>
        rw [hq] at k1
        obtain ⟨hy, hyn⟩ := entryOf_num hq
        have a2 := a1.mono e2
        have k2 := k1.mono (.of e2)
        refine q_asgC (vs := [.ref γ.w, .ref (γ.ea y.num)]) (ea_cons (ev_var rfl) (ea_cons (ev_dget (k := Sum.inl i1) (ev_W CC (ev_var rfl) (e2 _ _ hw) (worldF_parties ..)) (ev_var rfl) a2.ws.ed (by rw [val_entry, hq]; rfl)) ea_nil)) fun H3 e3 => ?_
        have a3 := a2.mono e3
        have k3 := k2.mono (.of e3)
        refine ⟨γ, s, y, rfl, a3.ws, a3.W, hy, ?_⟩
        rw [best_spec a3.W hy]
        cases hf : Vbwsap.bestFor s y with
        | none =>
          have k3' : Done K c γ rd l (i + 1) ns H3 Q (s, [0, 0]) := by
            have k9 := k3
            simp only [hf] at k9
            exact k9
          intro H4 e4
          refine q_when (b := true) (et_test (ev_op (ev_var (v := .non) rfl) ev_c (fun H5 _ Q' q' => ⟨rfl, q' H5 (Ex.refl H5)⟩))) (fun _ H5 e5 => ?_) (fun z => by cases z)
          exact s_retL (xs := ([0, 0] : List Int).map V.int) (el_lst (ea_cons ev_c (ea_cons ev_c ea_nil)) (by show 2 ≤ 100000; decide)) fun p H6 hp e6 h6 => k3'.same a3 (fresh_back (e4.trans e5) hp) ((e4.trans e5).trans e6) h6
        | some x =>
          have k3' : Done K c γ rd l (i + 1) ns H3 Q (s, 0 :: 1 :: Vbwsap.sidesRow s x) := by
            have k9 := k3
            simp only [hf] at k9
            exact k9
          have ok := bestFor_ok a3.W hy hf
          intro g H4 e4 hpa
          obtain ⟨dg, la, lb, h4, h5, h6⟩ := hpa
          refine q_when (b := false) (et_test (ev_op (ev_var (v := .ref g) rfl) ev_c (fun H5 _ Q' q' => ⟨rfl, q' H5 (Ex.refl H5)⟩))) (fun z => by cases z) (fun _ H5 e5 => ?_)
          rw [unev_spec, wait_spec (fun e he => (a3.W.ew e (ok.sub e he)).2.2.1)] at h4
          have e45 := e4.trans e5
          have hlx : (x.1 ++ x.2).length ≤ 12 := by
            have h7 := nodup_le (nodup_of_map ok.nd) ok.sub
            have h8 := a3.W.el
            omega
          have hlx' := hlx
          rw [List.length_append] at hlx'
          refine q_asgL (xs := ([0, 1, (Vbwsap.uneven s x.1 x.2 : Int), (Vbwsap.waited s (x.1 ++ x.2) : Int), (x.1.length : Int)]).map V.int) (el_lst (ea_cons ev_c (ea_cons ev_c (ea_cons (ev_G CC (ev_var rfl) (e5 _ _ h4) (pairF_uneven ..)) (ea_cons (ev_G CC (ev_var rfl) (e5 _ _ h4) (pairF_waited ..)) (ea_cons (ev_is (ev_len (ev_G CC (ev_var rfl) (e5 _ _ h4) (pairF_first ..)) (sq_of (e5 _ _ h5))) (by unfold eRefs; rw [List.length_map])) ea_nil))))) (by show 5 ≤ 100000; decide)) fun t H6 ht e6 h7 => ?_
          have e46 := e45.trans e6
          have e56 := e5.trans e6
          have hcat : EvL (tOp rCat (tFld K (tVar 3) "first") (tFld K (tVar 3) "second")) [some (.ref γ.w), some (.ref rd), some (.int i1), some (.ref g), some (.ref t)] H6 (eRefs γ.ea (x.1 ++ x.2)) := by
            unfold eRefs
            rw [List.map_append]
            exact el_cat (ev_G CC (ev_var rfl) (e56 _ _ h4) (pairF_first ..)) (ev_G CC (ev_var rfl) (e56 _ _ h4) (pairF_second ..)) (e56 _ _ h5) (e56 _ _ h6) (by (try unfold eRefs); rw [List.length_map, List.length_map]; omega)
          have hnum := el_callN (sp := sp_numbersE K c) (zs := (x.1 ++ x.2).map fun e => V.int ((e.num : Nat) : Int)) hcat fun r H7 e7 h8 Q' q' => ⟨r, γ.pa, γ.ea, plOf s, x.1 ++ x.2, rfl, sq_of h8, (a3.ws.grp a3.W ok.sub).mono (e46.trans e7), by omega, q'⟩
          have hall : EvL (tOp rCat (tVar 4) (tCall (sp_numbersE K c) [] E0 (tCons (tOp rCat (tFld K (tVar 3) "first") (tFld K (tVar 3) "second")) tNil))) [some (.ref γ.w), some (.ref rd), some (.int i1), some (.ref g), some (.ref t)] H6 (([0, 1, (Vbwsap.uneven s x.1 x.2 : Int), (Vbwsap.waited s (x.1 ++ x.2) : Int), (x.1.length : Int)]).map V.int ++ (x.1 ++ x.2).map fun e => V.int ((e.num : Nat) : Int)) := fun H7 e7 Q' q' =>
            ev_var (v := .ref t) rfl H7 e7 _ fun H8 e8 => hnum H8 (e7.trans e8) _ fun r H9 hr e9 h9 => rl_cat (H := H9) (((e7.trans e8).trans e9) _ _ h7) h9 (by rw [List.length_map, List.length_map]; show 5 + _ ≤ _; omega) H9 (Ex.refl _) Q' fun p H10 hp e10 h10 => q' p H10 (fresh_back (e8.trans e9) hp) ((e8.trans e9).trans e10) h10
          refine s_retL hall fun p H7 hp e7 h8 => k3'.same a3 (fresh_back e46 hp) (e46.trans e7) ?_
          rw [h8]
          unfold Vbwsap.sidesRow
          simp only [List.map_cons, List.map_append, ints_map, List.map_map, List.map_nil, List.cons_append, List.nil_append]
          rfl
end
end EM

namespace EM
open Vbwsap (partsOf sumOf gap)
/-! ### halves -/
def picks : List Nat → Nat → List (List Nat)
  | _, 0 => [[]]
  | [], _ + 1 => []
  | x :: r, k + 1 => if r.length < k then [] else (picks r k).map (fun l => x :: l) ++ picks r (k + 1)
theorem picks_zero (l : List Nat) : picks l 0 = [[]] := by
  cases l <;> rfl
theorem picks_cons (x : Nat) (r : List Nat) (k : Nat) : picks (x :: r) (k + 1) = if r.length < k then [] else (picks r k).map (fun l => x :: l) ++ picks r (k + 1) := rfl
theorem picks_short : ∀ {l : List Nat} {k : Nat}, l.length < k → picks l k = []
  | [], k + 1, _ => rfl
  | x :: r, k + 1, h => by
    rw [picks_cons, if_pos (by simpa using h)]
theorem picks_len : ∀ (l : List Nat) (k : Nat), (picks l k).length ≤ 2 ^ l.length
  | l, 0 => by
    rw [picks_zero]
    exact Nat.one_le_two_pow
  | [], k + 1 => Nat.zero_le _
  | x :: r, k + 1 => by
    rw [picks_cons]
    have h1 := picks_len r k
    have h2 := picks_len r (k + 1)
    split
    · exact Nat.zero_le _
    · rw [List.length_append, List.length_map, List.length_cons, Nat.pow_succ]
      omega
theorem picks_sub : ∀ {l : List Nat} {k : Nat} {h : List Nat}, h ∈ picks l k → h.length = k ∧ ∀ n ∈ h, n ∈ l
  | l, 0, h, hh => by
    rw [picks_zero] at hh
    rw [List.mem_singleton.mp hh]
    exact ⟨rfl, fun n hn => by cases hn⟩
  | [], k + 1, h, hh => by cases hh
  | x :: r, k + 1, h, hh => by
    rw [picks_cons] at hh
    split at hh
    · cases hh
    · rcases List.mem_append.mp hh with z | z
      · obtain ⟨g, hg, rfl⟩ := List.mem_map.mp z
        obtain ⟨i1, i2⟩ := picks_sub hg
        refine ⟨by rw [List.length_cons, i1], fun n hn => ?_⟩
        rcases List.mem_cons.mp hn with y | y
        · rw [y]; exact List.mem_cons_self
        · exact List.mem_cons_of_mem _ (i2 n y)
      · obtain ⟨i1, i2⟩ := picks_sub z
        exact ⟨i1, fun n hn => List.mem_cons_of_mem _ (i2 n hn)⟩
theorem picks_ne : ∀ {l : List Nat} {k : Nat}, k ≤ l.length → picks l k ≠ []
  | l, 0, _ => by
    rw [picks_zero]
    simp
  | [], k + 1, h => by simp at h
  | x :: r, k + 1, h => by
    have hk : k ≤ r.length := by simpa using h
    rw [picks_cons, if_neg (by omega)]
    intro z
    have := (List.append_eq_nil_iff.mp z).1
    exact picks_ne hk (List.map_eq_nil_iff.mp this)
theorem partsOf_cons {α : Type} (x : α) (r : List α) : partsOf (x :: r) = (partsOf r).map (fun p => (x :: p.1, p.2)) ++ (partsOf r).map fun p => (p.1, x :: p.2) := rfl
theorem parts_picks {α : Type} (f : α → Nat) : ∀ (zs : List α) (k : Nat), ((partsOf zs).filter (fun p => p.1.length == k)).map (fun p => p.1.map f) = picks (zs.map f) k
  | [], 0 => rfl
  | [], k + 1 => rfl
  | x :: r, 0 => by
    have ih := parts_picks f r 0
    rw [picks_zero] at ih
    rw [picks_zero, partsOf_cons, List.filter_append, List.map_append, List.filter_map, List.filter_map, List.map_map, List.map_map]
    have e1 : (partsOf r).filter ((fun p : List α × List α => p.1.length == 0) ∘ fun p => (x :: p.1, p.2)) = [] := List.filter_eq_nil_iff.mpr fun p _ => by simp
    rw [e1]
    exact ih
  | x :: r, k + 1 => by
    have ih1 := parts_picks f r k
    have ih2 := parts_picks f r (k + 1)
    rw [partsOf_cons, List.filter_append, List.map_append, List.filter_map, List.filter_map, List.map_map, List.map_map, List.map_cons, picks_cons]
    have e1 : ((fun p : List α × List α => p.1.length == k + 1) ∘ fun p : List α × List α => (x :: p.1, p.2)) = fun p => p.1.length == k := by
      funext p
      rw [Bool.eq_iff_iff]
      simp
    have e2 : ((fun p : List α × List α => p.1.length == k + 1) ∘ fun p : List α × List α => (p.1, x :: p.2)) = fun p => p.1.length == k + 1 := rfl
    have e3 : ((fun p : List α × List α => p.1.map f) ∘ fun p : List α × List α => (x :: p.1, p.2)) = (fun l => f x :: l) ∘ fun p => p.1.map f := rfl
    have e4 : ((fun p : List α × List α => p.1.map f) ∘ fun p : List α × List α => (p.1, x :: p.2)) = fun p => p.1.map f := rfl
    rw [e1, e2, e3, e4, ← List.map_map, ih1, ih2]
    split
    · rename_i h
      rw [picks_short (by simpa using h), picks_short (by have : r.length < k := (by simpa using h); simp; omega)]
      rfl
    · rfl
theorem parts_mem {α : Type} (g : α → Nat) : ∀ {zs : List α} {p : List α × List α}, p ∈ partsOf zs → sumOf (p.1.map g) + sumOf (p.2.map g) = sumOf (zs.map g) ∧ p.1.length + p.2.length = zs.length ∧ ∀ x ∈ p.1, x ∈ zs
  | [], p, h => by
    have h' : p = ([], []) := by simpa [partsOf] using h
    subst h'
    exact ⟨rfl, rfl, fun x hx => by cases hx⟩
  | x :: r, p, h => by
    rw [partsOf_cons] at h
    have es : ∀ l : List α, sumOf ((x :: l).map g) = g x + sumOf (l.map g) := fun _ => rfl
    rcases List.mem_append.mp h with z | z
    · obtain ⟨q, hq, rfl⟩ := List.mem_map.mp z
      obtain ⟨i1, i2, i3⟩ := parts_mem g hq
      refine ⟨?_, ?_, fun y hy => ?_⟩
      · show sumOf ((x :: q.1).map g) + sumOf (q.2.map g) = _
        rw [es, es]
        omega
      · show (x :: q.1).length + q.2.length = _
        rw [List.length_cons, List.length_cons]
        omega
      · rcases List.mem_cons.mp hy with w | w
        · rw [w]; exact List.mem_cons_self
        · exact List.mem_cons_of_mem _ (i3 y w)
    · obtain ⟨q, hq, rfl⟩ := List.mem_map.mp z
      obtain ⟨i1, i2, i3⟩ := parts_mem g hq
      refine ⟨?_, ?_, fun y hy => List.mem_cons_of_mem _ (i3 y hy)⟩
      · show sumOf (q.1.map g) + sumOf ((x :: q.2).map g) = _
        rw [es, es]
        omega
      · show q.1.length + (x :: q.2).length = _
        rw [List.length_cons, List.length_cons]
        omega
def apartI (xs : List Int) (half : List Nat) : Int := absI (xs.sum - 2 * (half.map fun n => xs.getD n 0).sum)
def pickH (xs : List Int) (b : Option (List Nat)) (h : List Nat) : Option (List Nat) := match b with
  | none => some h
  | some y => if apartI xs h < apartI xs y then some h else some y
def halfOf (xs : List Int) : Option (List Nat) := (picks (List.range xs.length) (xs.length / 2)).foldl (pickH xs) none
abbrev Prt := List (Nat × Nat) × List (Nat × Nat)
def difS (p : Prt) : Nat := gap (sumOf (p.1.map fun x => x.2)) (sumOf (p.2.map fun x => x.2))
def hOf (p : Prt) : List Nat := p.1.map fun x => x.1
theorem fold_half {xs : List Int} : ∀ (r : List Prt) (b : Prt), (∀ p ∈ b :: r, apartI xs (hOf p) = ((difS p : Nat) : Int)) →
    (r.map hOf).foldl (pickH xs) (some (hOf b)) = some (hOf (r.foldl (fun b p => if difS p < difS b then p else b) b)) ∧ (r.foldl (fun b p => if difS p < difS b then p else b) b) ∈ b :: r
  | [], b, _ => ⟨rfl, List.mem_cons_self⟩
  | p :: r, b, h => by
    rw [List.map_cons, List.foldl_cons, List.foldl_cons]
    have hb := h b List.mem_cons_self
    have hp := h p (List.mem_cons_of_mem _ List.mem_cons_self)
    have e1 : pickH xs (some (hOf b)) (hOf p) = some (hOf (if difS p < difS b then p else b)) := by
      show (if apartI xs (hOf p) < apartI xs (hOf b) then some (hOf p) else some (hOf b)) = _
      rw [hb, hp]
      by_cases q : difS p < difS b
      · rw [if_pos q, if_pos (by omega)]
      · rw [if_neg q, if_neg (by omega)]
    rw [e1]
    have hm : (if difS p < difS b then p else b) = p ∨ (if difS p < difS b then p else b) = b := by
      split
      · exact .inl rfl
      · exact .inr rfl
    generalize (if difS p < difS b then p else b) = d at hm
    obtain ⟨i1, i2⟩ := fold_half (xs := xs) r d (fun q hq => by
      rcases List.mem_cons.mp hq with z | z
      · rcases hm with y | y
        · rw [z, y]; exact hp
        · rw [z, y]; exact hb
      · exact h q (List.mem_cons_of_mem _ (List.mem_cons_of_mem _ z)))
    refine ⟨i1, ?_⟩
    rcases List.mem_cons.mp i2 with z | z
    · rcases hm with y | y
      · rw [z, y]; exact List.mem_cons_of_mem _ List.mem_cons_self
      · rw [z, y]; exact List.mem_cons_self
    · exact List.mem_cons_of_mem _ (List.mem_cons_of_mem _ z)
theorem zip_at {l : List Nat} {x : Nat × Nat} (h : x ∈ (List.range l.length).zip l) : l[x.1]? = some x.2 := by
  obtain ⟨i, hi⟩ := List.mem_iff_getElem?.mp h
  obtain ⟨h1, h2⟩ := List.getElem?_zip_eq_some.mp hi
  have h3 : i < l.length := (List.getElem?_eq_some_iff.mp h2).1
  rw [List.getElem?_range h3] at h1
  cases h1
  exact h2
theorem split_spec {xs : List Int} (hr : rtOk xs = true) (he : xs.length % 2 = 0) : ∃ h, halfOf xs = some h ∧ h ∈ picks (List.range xs.length) (xs.length / 2) ∧ ∃ d : Nat, apartI xs h = (d : Int) ∧ Vbwsap.splitOf (xs.map Int.toNat) = some (d, h) := by
  have hpos : ∀ z ∈ xs, 0 ≤ z := fun z hz => by
    have := List.all_eq_true.mp hr z hz
    rw [wIn_from, from_iff] at this
    exact this.1
  generalize hL : xs.map Int.toNat = L
  have hLl : L.length = xs.length := by rw [← hL, List.length_map]
  have hzl : ((List.range L.length).zip L).length = xs.length := by
    rw [List.length_zip, List.length_range, hLl]
    omega
  have hfst : ((List.range L.length).zip L).map (fun x => x.1) = List.range xs.length := by
    have := List.map_fst_zip (l₁ := List.range L.length) (l₂ := L) (by rw [List.length_range]; omega)
    rw [hLl] at this ⊢
    exact this
  have hsnd : ((List.range L.length).zip L).map (fun x => x.2) = L := List.map_snd_zip (by rw [List.length_range]; omega)
  have hsum : xs.sum = ((sumOf L : Nat) : Int) := by rw [rt_sum hr, hL]
  -- the halves
  have hps : (partsOf ((List.range L.length).zip L)).filter (fun p => p.1.length == p.2.length) = (partsOf ((List.range L.length).zip L)).filter (fun p => p.1.length == xs.length / 2) := by
    apply List.filter_congr
    intro p hp
    have := (parts_mem (fun x => x.2) hp).2.1
    rw [hzl] at this
    rw [Bool.eq_iff_iff]
    simp only [beq_iff_eq]
    omega
  have hpk := parts_picks (fun x : Nat × Nat => x.1) ((List.range L.length).zip L) (xs.length / 2)
  rw [hfst, ← hps] at hpk
  have hap : ∀ p ∈ partsOf ((List.range L.length).zip L), apartI xs (hOf p) = ((difS p : Nat) : Int) := fun p hp => by
    obtain ⟨i1, _, i3⟩ := parts_mem (fun x => x.2) hp
    rw [hsnd] at i1
    have e1 : ((hOf p).map fun n => xs.getD n 0).sum = ((sumOf (p.1.map fun x => x.2) : Nat) : Int) := by
      rw [← sum_ints]
      congr 1
      unfold hOf
      rw [List.map_map, List.map_map]
      apply List.map_congr_left
      intro x hx
      have h1 := zip_at (i3 x hx)
      rw [← hL, List.getElem?_map] at h1
      simp only [Function.comp]
      cases hq : xs[x.1]? with
      | none => rw [hq] at h1; cases h1
      | some z =>
        rw [hq] at h1
        have h2 : z.toNat = x.2 := by simpa using h1
        have h3 := hpos z (List.mem_of_getElem? hq)
        rw [List.getD_eq_getElem?_getD, hq]
        show z = _
        omega
    unfold apartI difS
    rw [e1, hsum, gap_abs, ← i1, Int.natCast_add]
    unfold absI
    split <;> split <;> omega
  have hsp : Vbwsap.splitOf L = (match (partsOf ((List.range L.length).zip L)).filter (fun p => p.1.length == p.2.length) with
    | [] => none
    | q :: r => some (difS (r.foldl (fun b p => if difS p < difS b then p else b) q), hOf (r.foldl (fun b p => if difS p < difS b then p else b) q))) := rfl
  cases hF : (partsOf ((List.range L.length).zip L)).filter (fun p => p.1.length == p.2.length) with
  | nil =>
    rw [hF] at hpk
    exact absurd hpk.symm (picks_ne (by rw [List.length_range]; omega))
  | cons q r =>
    rw [hF] at hpk hsp
    have hmem : ∀ p ∈ q :: r, p ∈ partsOf ((List.range L.length).zip L) := fun p hp => by
      rw [← hF] at hp
      exact (List.mem_filter.mp hp).1
    obtain ⟨f1, f2⟩ := fold_half (xs := xs) r q fun p hp => hap p (hmem p hp)
    have hpk' : picks (List.range xs.length) (xs.length / 2) = hOf q :: r.map hOf := hpk.symm
    have hsp' : Vbwsap.splitOf L = some (difS (r.foldl (fun b p => if difS p < difS b then p else b) q), hOf (r.foldl (fun b p => if difS p < difS b then p else b) q)) := hsp
    generalize r.foldl (fun b p => if difS p < difS b then p else b) q = b at f1 f2 hsp'
    refine ⟨hOf b, ?_, ?_, difS b, hap b (hmem b f2), hsp'⟩
    · unfold halfOf
      rw [hpk', List.foldl_cons]
      exact f1
    · rw [hpk']
      exact List.mem_map.mpr ⟨b, f2, rfl⟩
end EM

namespace EM
open PySem PySem.Spec PyProof.Rows L2 Evl
open Vbwsap (Rules Player Match sumOf membersOf gap State)
def nRefs (l : List Nat) : List V := l.map fun n => V.int ((n : Nat) : Int)
section
variable {K : PySem.W.Frag} {σ : L2.St} {H : Hp} {D : Ends} {tu tz : TS} {ta : TE}
/-- list(range(n)) -/
theorem el_range {n : Nat} (h : Ev ta σ H (.int (n : Nat))) (hn : n ≤ 1000) : EvL (tLstRg (tRg1 ta)) σ H (nRefs (List.range n)) := fun H1 e Q q => h H1 e _ fun H2 e2 => ⟨((n : Nat) : Int), rfl, RgOk.of_le (by omega) (by omega) (by omega) (by omega), fun r hr => q r _ (fresh_back e2 hr) (e2.trans (Ex.new hr)) (by
  rw [upd_same]
  unfold rgV nRefs
  rw [show (((n : Nat) : Int) - 0).toNat = n by omega]
  congr 2
  apply List.map_congr_left
  intro i _
  rw [Int.zero_add])⟩
/-- a loop over a list of lists that is made on the spot; nothing known is changed -/
theorem q_forLs {tl : TE} {j : Nat} {xss : List (List V)} (h : EvLL tl σ H xss) (Pv : Hp → Nat → L2.St → Hp → Prop) (h0 : ∀ H1, Ex H H1 → Pv H1 0 σ H1) (hl : ∀ H1 i σ' H', Pv H1 i σ' H' → Ex H1 H')
    (hs : ∀ H1 i xs b σ' H', Ex H H1 → xss[i]? = some xs → H1 b = some (.lst xs) → Pv H1 i σ' H' → tu { D with nx := Pv H1 (i + 1), ct := Pv H1 (i + 1), bk := tz D } (σ'.set j (some (.ref b))) H') (hd : ∀ H1 σ' H', Ex H H1 → Pv H1 xss.length σ' H' → tz D σ' H') : tSeq (tFor (iList K tl) (gName j) tu) tz D σ H :=
  h H (Ex.refl H) _ fun q ls H1 hq hf e1 h1 hls => ⟨q, rfl, ⟨_, sq_of h1⟩, for_list (xs := ls.map V.ref) (fun i σ' H' => Pv H1 i σ' H') (h0 H1 e1)
    (fun i σ' H' _ pv => sq_of (hl H1 i σ' H' pv q _ h1))
    (fun i x σ' H' hi pv => by
      rw [List.getElem?_map] at hi
      cases hq2 : ls[i]? with
      | none => rw [hq2] at hi; cases hi
      | some b =>
        rw [hq2] at hi
        cases hi
        obtain ⟨xs, hx1, hx2⟩ := hls.at hq2
        exact hs H1 i xs b σ' H' e1 hx1 hx2 pv)
    (fun σ' H' pv => by
      rw [List.length_map, hls.length] at pv
      exact hd H1 σ' H' e1 pv)⟩
end
section
variable {P : Program} {w : World} {K : PySem.W.Frag} {mg : Str → Option Value} {base : Heap} {c : Cs}
def sp_pick (K : PySem.W.Frag) (n : Nat) : Sp := fun vs H Q _ => ∃ (l : Addr) (row : List Nat) (k : Nat), vs = [.ref l, .int (k : Nat)] ∧ SqL K H l (nRefs row) ∧ row.length < n ∧ n ≤ 14 ∧ RetLL ((picks row k).map nRefs) H Q
abbrev s_ways_to_pick : Stmt := top 1
abbrev n_ways_to_pick : List Str := ["places", "wanted", "rest", "with_first", "way"]
abbrev p_ways_to_pick : List Str := ["places", "wanted"]
theorem sc_ways_to_pick : FnScope n_ways_to_pick p_ways_to_pick (defScope s_ways_to_pick) := ⟨rfl, rfl, rfl, by decide +kernel, rfl, by decide +kernel, by decide +kernel⟩

theorem ok_pick (T : Txt mg) (D : Def K mg "ways_to_pick" s_ways_to_pick p_ways_to_pick) : ∀ n, Has P w K mg base n "ways_to_pick" p_ways_to_pick (sp_pick K n)
  | 0 => by
    obtain ⟨f, fd, F, m, b⟩ := D.ex
    exact ⟨f, fd, m, F.kp, b, ⟨fun vs H Q E h => by
      obtain ⟨_, _, _, _, _, h, _⟩ := h
      omega, fun _ _ _ _ _ _ _ _ _ _ _ _ _ h => by
      obtain ⟨_, _, _, _, _, h, _⟩ := h
      omega⟩⟩
  | n + 1 => by
    have G_ways_to_pick := ok_pick T D n
    refine D.has sc_ways_to_pick (fun vs H Q E h => ?_) (fun f cdv A outer s H vs Q E hr h => ?_)
    · obtain ⟨l, row, k, rfl, _⟩ := h
      rfl
    · obtain ⟨l, row, k, rfl, hl, hn, h14, ret⟩ := h
      refine ⟨_, (pss_cons (ps_if (pt_cmpR op_eq (pv 1) pe_int (nomark _))
  (pss_one (ps_ret (pe_lst (pa_cons (pe_lst pa_nil) pa_nil)))) pss_nil)
 (pss_cons (ps_if (pt_cmpR op_lt (pe_callB call_len_seq (by rfl) T.len PySem.boot_len (pa_cons (pv 0) pa_nil)) (pv 1) (nomark _))
  (pss_one (ps_ret (pe_lst pa_nil))) pss_nil)
 (pss_cons (ps_set (i := 2) sc_ways_to_pick.nd rfl (Or.inl rfl) (pe_slice sl_list (pv 0) (po_some pe_int) po_none))
 (pss_cons (ps_set (i := 3) sc_ways_to_pick.nd rfl (Or.inl rfl) (pe_has G_ways_to_pick (hr) rfl (pa_cons (pv 2) (pa_cons (pe_op op_sub (pv 1) pe_int) pa_nil))))
 (pss_one (ps_ret (pe_op op_cat (pe_lc (own := [("way", 4)]) (g := gName 4) (tt := tYes) (te := (tOp rCat (tLst (tCons (tOp (rIxL K) (tVar 0) (tC (.int 0))) tNil)) (tVar 4))) rfl sc_ways_to_pick.nd (pi_list (pv 3)) (blkOk_by (N := n_ways_to_pick) (sc := defScope s_ways_to_pick) (by decide +kernel)) (fun _ _ _ _ _ => pg_name (i := 4) sc_ways_to_pick.nd rfl (Or.inl rfl)) (fun _ _ _ _ _ => pts_nil) (fun _ _ _ _ _ => (pe_op op_cat (pe_lst (pa_cons (pe_ix ix_list (pv 0) pe_int (fun _ _ => rfl)) pa_nil)) (pv 4)))) (pe_has G_ways_to_pick (hr) rfl (pa_cons (pv 2) (pa_cons (pv 1) pa_nil)))))))))), ?_⟩
      refine q_when (b := decide (k = 0)) (et_is (et_test (ev_op (ev_var rfl) ev_c (rv_eq rfl))) (by rw [Bool.eq_iff_iff]; simp; try omega)) (fun hk H1 e1 => ?_) (fun hk H1 e1 => ?_)
      · have hk' : k = 0 := of_decide_eq_true hk
        rw [hk', picks_zero] at ret
        exact ell_one (el_lst ea_nil (by show 0 ≤ 100000; decide)) H1 (Ex.refl H1) _ (ret.mono e1)
      · have hk' : ¬ k = 0 := of_decide_eq_false hk
        obtain ⟨k, rfl⟩ : ∃ m, k = m + 1 := ⟨k - 1, by omega⟩
        refine q_when (b := decide (row.length < k + 1)) (et_is (et_test (ev_op (ev_len (ev_var rfl) (ex_l e1 hl)) (ev_var rfl) rv_I0)) (by unfold nRefs; rw [List.length_map]; exact decide_eq_decide.mpr (by omega))) (fun hk2 H2 e2 => ?_) (fun hk2 H2 e2 => ?_)
        · rw [picks_short (of_decide_eq_true hk2)] at ret
          exact ell_nil H2 (Ex.refl H2) _ (ret.mono (e1.trans e2))
        · have hk3 : ¬ row.length < k + 1 := of_decide_eq_false hk2
          cases row with
          | nil => simp at hk3
          | cons e r =>
            rw [List.length_cons] at hk3
            have e12 := e1.trans e2
            have hlt : r.length < n := by simp at hn; omega
            refine q_asgL (el_sl (ev_var rfl) (eo_some ev_c) eo_none (ex_l e12 hl)) fun p H3 hp e3 h3 => ?_
            have h3' : H3 p = some (.lst (nRefs r)) := by
              rw [cutV_one] at h3
              exact h3
            have e13 := e12.trans e3
            have ev0 : ∀ {σ' : L2.St} {H' : Hp} {i : Nat}, SqL K H' l (nRefs (e :: r)) → σ'[i]? = some (some (.ref l)) → Ev (tOp (rIxL K) (tVar i) (tC (.int 0))) σ' H' (.int ((e : Nat) : Int)) := fun {σ' H' i} hh hs => ev_op (ev_var hs) ev_c (rv_ixL hh (at_of (j := 0) rfl rfl))
            refine q_asgC (vs := [.ref p, .int (k : Nat)]) (ea_cons (ev_var rfl) (ea_cons (ev_is (ev_op (ev_var rfl) ev_c rv_I0) (by congr 1; omega)) ea_nil)) fun H4 e4 => ?_
            refine ⟨p, r, k, rfl, sq_of (e4 _ _ h3'), hlt, by omega, fun q ls H5 hq hf e5 h5 hls => ?_⟩
            have e15 := (e13.trans e4).trans e5
            have e0 : picks (e :: r) (k + 1) = (picks r k).map (fun l => e :: l) ++ picks r (k + 1) := by
              rw [picks_cons, if_neg (by omega)]
            have hb1 := picks_len r k
            have hb2 := picks_len r (k + 1)
            have hb3 : 2 ^ r.length ≤ 2 ^ 13 := Nat.pow_le_pow_right (by decide) (by omega)
            have hret : RetLL (((picks r k).map nRefs).map (fun xs => [V.int ((e : Nat) : Int)] ++ xs) ++ (picks r (k + 1)).map nRefs) H5 Q := by
              have e6 : (picks (e :: r) (k + 1)).map nRefs = ((picks r k).map nRefs).map (fun xs => [V.int ((e : Nat) : Int)] ++ xs) ++ (picks r (k + 1)).map nRefs := by
                rw [e0, List.map_append, List.map_map, List.map_map]
                rfl
              rw [← e6]
              exact ret.mono e15
            refine ell_cat (ell_lc (ls := ls) (fun xs => [V.int ((e : Nat) : Int)] ++ xs) (ev_var rfl) h5 hls (by rw [List.length_map]; omega) (fun _ => rfl) fun b xs hxs H6 e6 h6 => ?_) (ell_callL (vs := [.ref p, .int ((k + 1 : Nat) : Int)]) (ea_cons (ev_var rfl) (ea_cons (ev_var rfl) ea_nil)) fun H6 e6 Q' q' => ?_) (by rw [List.length_map, List.length_map, List.length_map]; omega) H5 (Ex.refl H5) _ hret
            · obtain ⟨l', hl', rfl⟩ := List.mem_map.mp hxs
              have hsh := (picks_sub hl').1
              refine el_catL (el_lst (ea_cons (ev0 (ex_l (e15.trans e6) hl) rfl) ea_nil) (by show 1 ≤ 100000; decide)) (ev_var rfl) h6 ?_
              unfold nRefs
              rw [List.length_map]
              show 1 + _ ≤ 100000
              omega
            · exact ⟨p, r, k + 1, rfl, sq_of (((e4.trans e5).trans e6) _ _ h3'), hlt, by omega, q'⟩
def sp_halves_apart (K : PySem.W.Frag) : Sp := fun vs H Q _ => ∃ (l h : Addr) (xs : List Int) (half : List Nat), vs = [.ref l, .ref h] ∧ SqL K H l (xs.map V.int) ∧ SqL K H h (nRefs half) ∧ half.length ≤ 20 ∧ (∀ n ∈ half, n < xs.length) ∧ RetV (.int (apartI xs half)) H Q
abbrev s_halves_apart : Stmt := top 2
abbrev n_halves_apart : List Str := ["ratings", "half", "place"]
abbrev p_halves_apart : List Str := ["ratings", "half"]
theorem sc_halves_apart : FnScope n_halves_apart p_halves_apart (defScope s_halves_apart) := ⟨rfl, rfl, rfl, by decide +kernel, rfl, by decide +kernel, by decide +kernel⟩

theorem ok_halves_apart (T : Txt mg) (D : Def K mg "halves_apart" s_halves_apart p_halves_apart) : Has P w K mg base 1 "halves_apart" p_halves_apart (sp_halves_apart K) := by
  refine D.has sc_halves_apart (fun vs H Q E h => ?_) (fun f cdv A outer sh H vs Q E hr h => ?_)
  · obtain ⟨l, h, xs, half, rfl, _⟩ := h
    rfl
  · obtain ⟨l, h, xs, half, rfl, hl, hh, hz, hin, k⟩ := h
    refine ⟨_, (pss_one (ps_ret (pe_callB call_abs (by rfl) T.abs (by decide +kernel) (pa_cons (pe_op op_sub (pe_callB (cr_sum rfl) (by rfl) T.sum (by decide +kernel) (pa_cons (pv 0) pa_nil)) (pe_op op_mul pe_int (pe_callB (cr_sum rfl) (by rfl) T.sum (by decide +kernel) (pa_cons (pe_lc (own := [("place", 2)]) (g := gName 2) (tt := tYes) (te := (tOp (rIxL K) (tVar 0) (tVar 2))) rfl sc_halves_apart.nd (pi_list (pv 1)) (blkOk_by (N := n_halves_apart) (sc := defScope s_halves_apart) (by decide +kernel)) (fun _ _ _ _ _ => pg_name (i := 2) sc_halves_apart.nd rfl (Or.inl rfl)) (fun _ _ _ _ _ => pts_nil) (fun _ _ _ _ _ => (pe_ix ix_list (pv 0) (pv 2) (fun _ _ => rfl)))) pa_nil)))) pa_nil)))), ?_⟩
    have hm := el_mapT (K := K) (H := H) (l := half) (te := tOp (rIxL K) (tVar 0) (tVar 2)) (σ := [some (.ref l), some (.ref h), none]) (j := 2) (vs := [2]) (fun n => V.int ((n : Nat) : Int)) (fun n => V.int (xs.getD n 0)) (ev_var (i := 1) rfl) hh (by omega) (fun _ => rfl) fun n hn H1 e1 => by
      have hlt := hin n hn
      refine ev_op (ev_var rfl) (ev_var rfl) (rv_ixL (ex_l e1 hl) (at_of (j := n) rfl ?_))
      rw [List.getElem?_map, List.getElem?_eq_getElem hlt, List.getD_eq_getElem?_getD, List.getElem?_eq_getElem hlt]
      rfl
    have hm' : (half.map fun n => V.int (xs.getD n 0)) = (half.map fun n => xs.getD n 0).map V.int := by
      rw [List.map_map]
      rfl
    rw [hm'] at hm
    exact s_ret (ev_cb (ea_cons (ev_op (ev_sumA (ev_var rfl) hl) (ev_op ev_c (ev_sumL hm) (rv_I (Or.inl (by decide)))) rv_I0) ea_nil) (fun H3 e3 Q' q' => ⟨_, rfl, q' H3 (Ex.refl H3)⟩)) k
/-- a slot that holds None or a half -/
def HAt (H : Hp) (v : V) (x : Option (List Nat)) : Prop := match x with
  | none => v = .non
  | some h => ∃ g, v = .ref g ∧ H g = some (.lst (nRefs h))
theorem HAt.mono {H H' : Hp} {v : V} {x : Option (List Nat)} (e : Ex H H') (h : HAt H v x) : HAt H' v x := by
  cases x with
  | none => exact h
  | some x =>
    obtain ⟨g, h1, h2⟩ := h
    exact ⟨g, h1, e _ _ h2⟩
def sp_most_even_half (K : PySem.W.Frag) : Sp := fun vs H Q _ => ∃ (l : Addr) (xs : List Int) (h : List Nat), vs = [.ref l] ∧ SqL K H l (xs.map V.int) ∧ xs.length ≤ 10 ∧ halfOf xs = some h ∧ ∀ g H2, Ex H H2 → H2 g = some (.lst (nRefs h)) → Q (.ref g) H2
abbrev s_most_even_half : Stmt := top 3
abbrev n_most_even_half : List Str := ["ratings", "places", "best", "half"]
abbrev p_most_even_half : List Str := ["ratings"]
theorem sc_most_even_half : FnScope n_most_even_half p_most_even_half (defScope s_most_even_half) := ⟨rfl, rfl, rfl, by decide +kernel, rfl, by decide +kernel, by decide +kernel⟩

theorem ok_most_even_half (T : Txt mg) (D : Def K mg "most_even_half" s_most_even_half p_most_even_half) (G_ways_to_pick : Has P w K mg base 11 "ways_to_pick" p_ways_to_pick (sp_pick K 11)) (G_halves_apart : Has P w K mg base 1 "halves_apart" p_halves_apart (sp_halves_apart K)) :
    Has P w K mg base 12 "most_even_half" p_most_even_half (sp_most_even_half K) := by
  refine D.has sc_most_even_half (fun vs H Q E h => ?_) (fun f cdv A outer sh H vs Q E hr h => ?_)
  · obtain ⟨l, xs, h, rfl, _⟩ := h
    rfl
  · obtain ⟨l, xs, h, rfl, hl, hz, hh, k⟩ := h
    refine ⟨_, (pss_cons (ps_set (i := 1) sc_most_even_half.nd rfl (Or.inl rfl) (pe_listRg rfl rfl T.list (prg_1 rfl T.range (pe_callB call_len_seq (by rfl) T.len PySem.boot_len (pa_cons (pv 0) pa_nil)))))
 (pss_cons (ps_set (i := 2) sc_most_even_half.nd rfl (Or.inl rfl) pe_non)
 (pss_cons (ps_for PassesOwn.never rfl (pi_list (pe_has G_ways_to_pick (hr.mono (by decide)) rfl (pa_cons (pv 1) (pa_cons (pe_op op_fdivN (pe_callB call_len_seq (by rfl) T.len PySem.boot_len (pa_cons (pv 0) pa_nil)) pe_int) pa_nil)))) (pg_name (i := 3) sc_most_even_half.nd rfl (Or.inl rfl))
  (pss_one (ps_if (PW.pt (pw_or (pt_cmpR op_isN (pv 2) pe_non (nomark _)) (pw_or1 (pt_cmpR op_lt (pe_has G_halves_apart (hr.mono (by decide)) rfl (pa_cons (pv 0) (pa_cons (pv 3) pa_nil))) (pe_has G_halves_apart (hr.mono (by decide)) rfl (pa_cons (pv 0) (pa_cons (pv 2) pa_nil))) (nomark _)))))
  (pss_one (ps_set (i := 2) sc_most_even_half.nd rfl (Or.inl rfl) (pv 3))) pss_nil)))
 (pss_one (ps_ret (pv 2)))))), ?_⟩
    have hlen : ∀ {σ' : L2.St} {H' : Hp}, Ex H H' → σ'[0]? = some (some (.ref l)) → Ev (tCB (rLenS K) (tCons (tVar 0) tNil)) σ' H' (.int (xs.length : Nat)) := fun {σ' H'} e hs => ev_is (ev_len (ev_var hs) (ex_l e hl)) (by rw [List.length_map])
    refine q_asgL (el_range (hlen (Ex.refl H) rfl) (by omega)) fun p H1 hp e1 h1 => ?_
    refine q_asg ev_c fun H2 e2 => ?_
    have e02 := e1.trans e2
    have hev : EvLL (tCall (sp_pick K 11) [] E0 (tCons (tVar 1) (tCons (tOp (rI CDivN fun i j => .int (i.fdiv j)) (tCB (rLenS K) (tCons (tVar 0) tNil)) (tC (.int 2))) tNil))) [some (.ref l), some (.ref p), some .non, none] H2 ((picks (List.range xs.length) (xs.length / 2)).map nRefs) :=
      ell_callL (vs := [.ref p, .int ((xs.length / 2 : Nat) : Int)]) (ea_cons (ev_var rfl) (ea_cons (ev_is (ev_op (hlen e02 rfl) ev_c (rv_I ⟨by decide, by decide⟩)) (by congr 1; rw [Int.fdiv_eq_ediv_of_nonneg _ (by decide)]; omega)) ea_nil)) fun H3 e3 Q' q' => ⟨p, List.range xs.length, xs.length / 2, rfl, sq_of ((e2.trans e3) _ _ h1), by rw [List.length_range]; omega, by omega, q'⟩
    have hin : ∀ g ∈ picks (List.range xs.length) (xs.length / 2), g.length ≤ 20 ∧ ∀ n ∈ g, n < xs.length := fun g hg => by
      obtain ⟨i1, i2⟩ := picks_sub hg
      exact ⟨by omega, fun n hn => List.mem_range.mp (i2 n hn)⟩
    refine q_forLs hev (fun H3 i σ' H' => Ex H3 H' ∧ Ex H2 H3 ∧ ∃ v x, HAt H' v (((picks (List.range xs.length) (xs.length / 2)).take i).foldl (pickH xs) none) ∧ σ' = [some (.ref l), some (.ref p), some v, x]) (fun H3 e3 => ⟨Ex.refl _, e3, .non, none, rfl, rfl⟩) (fun H3 i σ' H' pv => pv.1) ?_ ?_
    · rintro H3 i zs b σ' H' e3 hi hb ⟨e4, _, v, x, ho, rfl⟩
      rw [List.getElem?_map] at hi
      cases hq : (picks (List.range xs.length) (xs.length / 2))[i]? with
      | none => rw [hq] at hi; cases hi
      | some half =>
        rw [hq] at hi
        cases hi
        have hhm : half ∈ picks (List.range xs.length) (xs.length / 2) := List.mem_of_getElem? hq
        have e04 := (e02.trans e3).trans e4
        have hb' := e4 _ _ hb
        generalize hB : ((picks (List.range xs.length) (xs.length / 2)).take i).foldl (pickH xs) none = B at ho
        have hBm : ∀ y, B = some y → y ∈ picks (List.range xs.length) (xs.length / 2) := fun y hy => by
          have key : ∀ (r : List (List Nat)) (b0 : Option (List Nat)) (y : List Nat), (∀ z, b0 = some z → z ∈ picks (List.range xs.length) (xs.length / 2)) → (∀ z ∈ r, z ∈ picks (List.range xs.length) (xs.length / 2)) → r.foldl (pickH xs) b0 = some y → y ∈ picks (List.range xs.length) (xs.length / 2) := by
            intro r
            induction r with
            | nil => intro b0 y h1 _ h3; exact h1 y h3
            | cons a r ih =>
              intro b0 y h1 h2 h3
              rw [List.foldl_cons] at h3
              refine ih _ y (fun z hz => ?_) (fun z hz => h2 z (List.mem_cons_of_mem _ hz)) h3
              cases b0 with
              | none =>
                have : a = z := Option.some.inj hz
                rw [← this]
                exact h2 a List.mem_cons_self
              | some b0 =>
                have hz' : (if apartI xs a < apartI xs b0 then some a else some b0) = some z := hz
                split at hz'
                · rw [← Option.some.inj hz']
                  exact h2 a List.mem_cons_self
                · rw [← Option.some.inj hz']
                  exact h1 b0 rfl
          exact key _ none y (fun z hz => by cases hz) (fun z hz => List.mem_of_mem_take hz) (hB.trans hy)
        show tIfS _ _ _ _ [some (.ref l), some (.ref p), some v, some (.ref b)] H'
        cases B with
        | none =>
          have hv : v = .non := ho
          subst hv
          refine s_when (b := true) (et_is (et_or (a := true) (b := true) (et_test (ev_op (ev_var rfl) ev_c (fun H4 _ Q' q' => ⟨rfl, q' H4 (Ex.refl H4)⟩))) (fun z => by cases z)) rfl) (fun _ H5 e5 => ?_) (fun z => by cases z)
          refine s_asg (ev_var rfl) fun H6 e6 => ⟨e4.trans (e5.trans e6), e3, .ref b, some (.ref b), ?_, rfl⟩
          rw [take_more hq, List.foldl_append, hB]
          exact ⟨b, rfl, (e5.trans e6) _ _ hb'⟩
        | some y =>
          obtain ⟨g2, hv, hg2⟩ := ho
          subst hv
          have hym := hBm y rfl
          have ap : ∀ {σ' : L2.St} {j : Nat} {g : Addr} {h : List Nat}, h ∈ picks (List.range xs.length) (xs.length / 2) → H' g = some (.lst (nRefs h)) → σ'[0]? = some (some (.ref l)) → σ'[j]? = some (some (.ref g)) → Ev (tCall (sp_halves_apart K) [] E0 (tCons (tVar 0) (tCons (tVar j) tNil))) σ' H' (.int (apartI xs h)) := fun {σ' j g h} hm hg hs0 hsj =>
            ev_callV (vs := [.ref l, .ref g]) (ea_cons (ev_var hs0) (ea_cons (ev_var hsj) ea_nil)) fun H5 e5 Q' q' => ⟨l, g, xs, h, rfl, ex_l (e04.trans e5) hl, sq_of (e5 _ _ hg), (hin h hm).1, (hin h hm).2, q'⟩
          refine s_when (b := decide (apartI xs half < apartI xs y)) (et_is (et_or (a := false) (et_test (ev_op (ev_var rfl) ev_c (fun H4 _ Q' q' => ⟨rfl, q' H4 (Ex.refl H4)⟩))) (fun _ => et_test (ev_op (ap hhm hb' rfl rfl) (ap hym hg2 rfl rfl) rv_I0))) rfl) (fun hbt H5 e5 => ?_) (fun hbt H5 e5 => ?_)
          · refine s_asg (ev_var rfl) fun H6 e6 => ⟨e4.trans (e5.trans e6), e3, .ref b, some (.ref b), ?_, rfl⟩
            rw [take_more hq, List.foldl_append, hB]
            show HAt H6 (.ref b) (if apartI xs half < apartI xs y then some half else some y)
            rw [if_pos (of_decide_eq_true hbt)]
            exact ⟨b, rfl, (e5.trans e6) _ _ hb'⟩
          · refine ⟨e4.trans e5, e3, .ref g2, some (.ref b), ?_, rfl⟩
            rw [take_more hq, List.foldl_append, hB]
            show HAt H5 (.ref g2) (if apartI xs half < apartI xs y then some half else some y)
            rw [if_neg (of_decide_eq_false hbt)]
            exact ⟨g2, rfl, e5 _ _ hg2⟩
    · rintro H3 σ' H' e3 ⟨e4, _, v, x, ho, rfl⟩
      rw [List.length_map, List.take_length] at ho
      have hh' : (picks (List.range xs.length) (xs.length / 2)).foldl (pickH xs) none = some h := hh
      rw [hh'] at ho
      obtain ⟨g, rfl, hg⟩ := ho
      exact s_ret (ev_var rfl) fun H5 e5 => k g H5 (((e02.trans e3).trans e4).trans e5) (e5 _ _ hg)
/-! ### call 16 -/
def splitOk (xs : List Int) : Bool := decide (((xs.length : Nat) : Int) ≤ 10) && (decide (xs.length % 2 = 0) && rtOk xs)
def sp_is_split_row (K : PySem.W.Frag) : Sp := fun vs H Q _ => ∃ (l : Addr) (xs : List Int), vs = [.ref l] ∧ SqL K H l (xs.map V.int) ∧ xs.length ≤ 20 ∧ RetV (.bl (splitOk xs)) H Q
abbrev s_is_split_row : Stmt := top 97
abbrev n_is_split_row : List Str := ["row"]
abbrev p_is_split_row : List Str := ["row"]
theorem sc_is_split_row : FnScope n_is_split_row p_is_split_row (defScope s_is_split_row) := ⟨rfl, rfl, rfl, by decide +kernel, rfl, by decide +kernel, by decide +kernel⟩

theorem ok_is_split_row (T : TxtK mg) (D : Def K mg "is_split_row" s_is_split_row p_is_split_row) (G_are_ratings : Has P w K mg base 2 "are_ratings" p_are_ratings (sp_are_ratings K)) : Has P w K mg base 3 "is_split_row" p_is_split_row (sp_is_split_row K) := by
  refine D.has sc_is_split_row (fun vs H Q E h => ?_) (fun f cdv A outer sh H vs Q E hr h => ?_)
  · obtain ⟨l, xs, rfl, _⟩ := h
    rfl
  · obtain ⟨l, xs, rfl, hs, hz, k⟩ := h
    refine ⟨_, (pss_one (ps_ret (pe_and (pe_cmpR op_le (pe_callB call_len_seq (by rfl) T.len PySem.boot_len (pa_cons (pv 0) pa_nil)) (pe_const T.MOST_SPLIT rfl) (nomark _)) (pe_and (pe_cmpR op_eq (pe_op op_modN (pe_callB call_len_seq (by rfl) T.len PySem.boot_len (pa_cons (pv 0) pa_nil)) pe_int) pe_int (nomark _)) (pe_one (pe_has G_are_ratings (hr.mono (by decide)) rfl (pa_cons (pv 0) pa_nil))))))), ?_⟩
    have hlen : Ev (tCB (rLenS K) (tCons (tVar 0) tNil)) (start n_is_split_row [.ref l]) H (.int (xs.length : Nat)) := ev_is (ev_len (ev_var rfl) hs) (by rw [List.length_map])
    refine s_ret (ev_is (ev_andV (a := decide (((xs.length : Nat) : Int) ≤ 10)) (b := decide (xs.length % 2 = 0) && rtOk xs) (ev_op hlen ev_c rv_I0) fun _ => ev_andV (a := decide (xs.length % 2 = 0)) (b := rtOk xs) (ev_is (ev_op (ev_op hlen ev_c (rv_I (by decide))) ev_c (rv_eq rfl)) ?_) fun _ => ev_callV (vs := [.ref l]) (ea_cons (ev_var rfl) ea_nil) fun H1 e1 Q' q' => ⟨l, xs, rfl, ex_l e1 hs, hz, q'⟩) rfl) k
    congr 1
    rw [Bool.eq_iff_iff, decide_eq_true_eq, decide_eq_true_eq]
    rw [Int.fmod_eq_emod_of_nonneg _ (by decide)]
    constructor
    · intro h
      injection h with h
      omega
    · intro h
      congr 1
      omega
abbrev s_call_split : Stmt := top 98
abbrev n_call_split : List Str := ["world", "reader", "row", "half"]
abbrev p_call_split : List Str := ["world", "reader"]
theorem sc_call_split : FnScope n_call_split p_call_split (defScope s_call_split) := ⟨rfl, rfl, rfl, by decide +kernel, rfl, by decide +kernel, by decide +kernel⟩

theorem ok_call_split (T : TxtK mg) (CC : CT K c) (D : Def K mg "call_split" s_call_split p_call_split) (M_take_row : HasM P w K mg base 2 c.D "take_row" p_Reader_take_row (sp_take_row K c)) (G_is_split_row : Has P w K mg base 3 "is_split_row" p_is_split_row (sp_is_split_row K))
    (G_out_of_range : Has P w K mg base 1 "out_of_range" p_out_of_range (sp_no (-1))) (G_most_even_half : Has P w K mg base 12 "most_even_half" p_most_even_half (sp_most_even_half K)) (G_halves_apart : Has P w K mg base 1 "halves_apart" p_halves_apart (sp_halves_apart K)) :
    Has P w K mg base 13 "call_split" p_call_split (sp_call K c (tk_row .split)) := by
  refine D.has sc_call_split (fun vs H Q E h => ?_) (fun f cdv A outer sh H vs Q E hr h => ?_)
  · obtain ⟨γ, s, rd, l, i, n, ns, x, rfl, _⟩ := h
    rfl
  · obtain ⟨γ, s, rd, l, i, n, ns, x, rfl, a, ht, k⟩ := h
    refine ⟨_, (pss_cons (ps_set (i := 2) sc_call_split.nd rfl (Or.inl rfl) (pe_hasM0 (pv 1) M_take_row (hr.mono (by decide))))
 (pss_cons (ps_if (pt_not (pt_val (pe_has G_is_split_row (hr.mono (by decide)) rfl (pa_cons (pv 2) pa_nil))))
  (pss_one (ps_ret (pe_has0 G_out_of_range (hr.mono (by decide)) rfl))) pss_nil)
 (pss_cons (ps_set (i := 3) sc_call_split.nd rfl (Or.inl rfl) (pe_has G_most_even_half (hr.mono (by decide)) rfl (pa_cons (pv 2) pa_nil)))
 (pss_one (ps_ret (pe_op op_cat (pe_lst (pa_cons pe_int (pa_cons (pe_has G_halves_apart (hr.mono (by decide)) rfl (pa_cons (pv 2) (pa_cons (pv 3) pa_nil))) pa_nil))) (pv 3))))))), ?_⟩
    obtain ⟨xs, ht1, rfl⟩ := tk_row_is ht
    refine q_takeR a rfl ht1 fun p H1 hp a1 f1 h1 hxl => ?_
    have k1 := k.mono f1
    refine q_when (b := !splitOk xs) (et_not (et_B (ev_callV (vs := [.ref p]) (ea_cons (ev_var rfl) ea_nil) fun H2 e2 Q' q' => ⟨p, xs, rfl, sq_of (e2 _ _ h1), hxl, q'⟩))) (fun hb H2 e2 => ?_) (fun hb H2 e2 => ?_)
    · have hb' : ¬ splitOk xs = true := fun z => by rw [z] at hb; cases hb
      have e0 : Vbwsap.step s (.split xs) = (s, [-((1 : Nat) : Int)]) := if_pos (Classical.byContradiction fun z => hb' (by
        rw [not_or, not_or] at z
        obtain ⟨z1, z2, z3⟩ := z
        have z3' : (xs.all fun r => Vbwsap.from_ r 0 (Vbwsap.TOP : Int)) = true := by simpa using z3
        unfold splitOk
        rw [rtOk_from, z3', decide_eq_true (by omega), decide_eq_true (by omega)]
        rfl))
      rw [e0] at k1
      exact s_no (k := 1) (a1.mono e2) (k1.mono (.of e2)) rfl
    · have hb' : splitOk xs = true := by simpa using hb
      unfold splitOk at hb'
      simp only [Bool.and_eq_true, decide_eq_true_eq] at hb'
      obtain ⟨q1, q2, q3⟩ := hb'
      obtain ⟨h, hh, hhm, d, hd1, hd2⟩ := split_spec q3 q2
      have e0 : Vbwsap.step s (.split xs) = (s, 0 :: (d : Int) :: Vbwsap.ints h) := by
        have e1 : Vbwsap.step s (.split xs) = (match Vbwsap.splitOf (xs.map Int.toNat) with | none => Vbwsap.no s 1 | some x => Vbwsap.yes s ((x.1 : Int) :: Vbwsap.ints x.2)) := if_neg (by
          rw [← rtOk_from, q3]
          simp
          omega)
        rw [e1, hd2]
        rfl
      rw [e0] at k1
      have a2 := a1.mono e2
      have k2 := k1.mono (.of e2)
      have hp2 := e2 _ _ h1
      refine q_asgC (vs := [.ref p]) (ea_cons (ev_var rfl) ea_nil) fun H3 e3 => ?_
      refine ⟨p, xs, h, rfl, sq_of (e3 _ _ hp2), by omega, hh, fun g H4 e4 h4 => ?_⟩
      have e24 := e3.trans e4
      obtain ⟨i1, i2⟩ := picks_sub hhm
      have hcat := el_catL (σ := [some (.ref γ.w), some (.ref rd), some (.ref p), some (.ref g)]) (ys := nRefs h) (el_lst (ea_cons (ev_c (v := .int 0)) (ea_cons (ev_callV (sp := sp_halves_apart K) (z := .int (apartI xs h)) (vs := [.ref p, .ref g]) (ea_cons (ev_var (i := 2) rfl) (ea_cons (ev_var (i := 3) rfl) ea_nil)) fun H5 e5 Q' q' => ⟨p, g, xs, h, rfl, sq_of ((e24.trans e5) _ _ hp2), sq_of (e5 _ _ h4), by omega, fun n hn => List.mem_range.mp (i2 n hn), q'⟩) ea_nil)) (by show 2 ≤ 100000; decide)) (ev_var (i := 3) rfl) h4 (by unfold nRefs; rw [List.length_map]; show 2 + _ ≤ _; omega)
      refine s_retL hcat fun r H5 hr e5 h5 => k2.same a2 (fresh_back e24 hr) (e24.trans e5) ?_
      rw [h5, hd1]
      show some (HO.lst (V.int 0 :: V.int (d : Int) :: nRefs h)) = some (HO.lst (V.int 0 :: V.int (d : Int) :: (Vbwsap.ints h).map V.int))
      rw [ints_map]
      rfl
end
end EM

namespace EM
open Vbwsap (Rules Player Match sumOf membersOf gap State TOP halfway giveFirst ladder seasonEnd)
/-! ### a season's end -/
def sumL (s : State) : Nat := sumOf ((ladder s).map fun p => p.rating)
def nL (s : State) : Nat := (ladder s).length
def hwP (s : State) (p : Player) : Player := { p with rating := halfway (sumL s) (nL s) p.rating, games := 0, wins := 0 }
def outS (s : State) : Nat := min s.pool (nL s * TOP - sumL s)
def hwSum (s : State) : Nat := sumOf (((ladder s).map (hwP s)).map fun p => p.rating)
def restS (s : State) : Nat := sumL s + outS s - hwSum s
def moreS (s : State) : List Player := giveFirst (restS s % nL s) (((ladder s).map (hwP s)).map fun p => { p with rating := p.rating + restS s / nL s })
def capP (p : Player) : Player := { p with rating := min p.rating TOP }
def cappedS (s : State) : List Player := (moreS s).map capP
def overS (s : State) : Nat := sumOf ((moreS s).map fun p => p.rating) - sumOf ((cappedS s).map fun p => p.rating)
def newS (s : State) (p : Player) : Player := ((cappedS s).find? fun q => q.num == p.num).getD p
def doneS (s : State) : State := { s with players := s.players.map (newS s), pool := s.pool - outS s + overS s }
theorem seasonEnd_is {s : State} (h : nL s ≠ 0) : seasonEnd s = { doneS s with season := s.season + 1 } := if_neg h
theorem seasonEnd_none {s : State} (h : nL s = 0) : seasonEnd s = { s with season := s.season + 1 } := if_pos h
theorem giveFirst_get : ∀ (k : Nat) (l : List Player) (i : Nat), (giveFirst k l)[i]? = (l[i]?).map fun p => if i < k then { p with rating := p.rating + 1 } else p
  | k, [], i => by
    have e : giveFirst k [] = [] := by cases k <;> rfl
    rw [e]
    rfl
  | 0, p :: r, i => by
    have e : giveFirst 0 (p :: r) = p :: r := rfl
    rw [e]
    cases (p :: r)[i]? <;> rfl
  | k + 1, p :: r, i => by
    have e : giveFirst (k + 1) (p :: r) = { p with rating := p.rating + 1 } :: giveFirst k r := rfl
    rw [e]
    cases i with
    | zero => simp
    | succ i =>
      rw [List.getElem?_cons_succ, List.getElem?_cons_succ, giveFirst_get k r i]
      congr 1
      funext p
      by_cases h : i < k
      · rw [if_pos h, if_pos (by omega)]
      · rw [if_neg h, if_neg (by omega)]
def shareN (s : State) (i : Nat) : Nat := restS s / nL s + if i < restS s % nL s then 1 else 0
def rawN (s : State) (i : Nat) (p : Player) : Nat := halfway (sumL s) (nL s) p.rating + shareN s i
def rawP (s : State) (i : Nat) (p : Player) : Player := { p with rating := rawN s i p, games := 0, wins := 0 }
def endP (s : State) (i : Nat) (p : Player) : Player := { p with rating := min (rawN s i p) TOP, games := 0, wins := 0 }
theorem more_get (s : State) (i : Nat) : (moreS s)[i]? = ((ladder s)[i]?).map (rawP s i) := by
  unfold moreS
  rw [giveFirst_get, List.getElem?_map, List.getElem?_map]
  cases (ladder s)[i]? with
  | none => rfl
  | some p =>
    show some (if i < restS s % nL s then ({ p with rating := halfway (sumL s) (nL s) p.rating + restS s / nL s + 1, games := 0, wins := 0 } : Player) else { p with rating := halfway (sumL s) (nL s) p.rating + restS s / nL s, games := 0, wins := 0 }) = some (rawP s i p)
    unfold rawP rawN shareN
    by_cases h : i < restS s % nL s
    · rw [if_pos h, if_pos h]
      congr 2
    · rw [if_neg h, if_neg h]
      congr 2
theorem capped_get (s : State) (i : Nat) : (cappedS s)[i]? = ((ladder s)[i]?).map (endP s i) := by
  unfold cappedS
  rw [List.getElem?_map, more_get, Option.map_map]
  rfl
theorem more_len (s : State) : (moreS s).length = nL s := by
  have h1 : ∀ i, (moreS s)[i]? = none ↔ (ladder s)[i]? = none := fun i => by
    rw [more_get]
    cases (ladder s)[i]? <;> simp
  have h2 := h1 (nL s)
  have h3 := h1 (moreS s).length
  rw [List.getElem?_eq_none_iff, List.getElem?_eq_none_iff] at h2 h3
  unfold nL at *
  have := h2.mpr (Nat.le_refl _)
  have := h3.mp (Nat.le_refl _)
  omega
theorem capped_nums (s : State) : (cappedS s).map (fun p => p.num) = (ladder s).map fun p => p.num := by
  apply List.ext_getElem?
  intro i
  rw [List.getElem?_map, List.getElem?_map, capped_get]
  cases (ladder s)[i]? <;> rfl
theorem ladder_nums {s : State} (W : Wf s) : ((ladder s).map fun p => p.num).Nodup := ((sortBy_perm (f := Vbwsap.above) s.players).map _).nodup_iff.mpr W.pn
theorem newS_at {s : State} (W : Wf s) {i : Nat} {p : Player} (h : (ladder s)[i]? = some p) : newS s p = endP s i p := by
  have h1 : (cappedS s)[i]? = some (endP s i p) := by rw [capped_get, h]; rfl
  have h2 := find_num (l := cappedS s) (by rw [capped_nums]; exact ladder_nums W) (List.mem_of_getElem? h1)
  unfold newS
  have e : (endP s i p).num = p.num := rfl
  rw [e] at h2
  rw [h2]
  rfl
theorem nL_is (s : State) : nL s = s.players.length := (sortBy_perm (f := Vbwsap.above) s.players).length_eq
theorem ladder_at {s : State} {p : Player} (h : p ∈ s.players) : ∃ i : Nat, (ladder s)[i]? = some p := List.mem_iff_getElem?.mp (Wf.ladder_mem.mpr h)
theorem newS_ok {s : State} (W : Wf s) {p : Player} (h : p ∈ s.players) : (newS s p).num = p.num ∧ (newS s p).rating ≤ TOP := by
  obtain ⟨i, hi⟩ := ladder_at h
  rw [newS_at W hi]
  refine ⟨rfl, ?_⟩
  show min _ TOP ≤ TOP
  omega
theorem Wf.doneS {s : State} (W : Wf s) : Wf (doneS s) := by
  have z := W.change (f := newS s) (q := fun _ => true) (pool := s.pool - outS s + overS s) (season := s.season) fun p hp => newS_ok W hp
  have e0 : s.matches_.filter (fun _ => true) = s.matches_ := List.filter_eq_self.mpr fun _ _ => rfl
  rw [e0] at z
  exact z
theorem Wf.season {s : State} (W : Wf s) (n : Nat) : Wf { s with season := n } := ⟨W.side, W.base, W.step, W.factor, W.range, W.fine, W.pn, W.pl, W.pr, W.en, W.el, W.ew, W.mn, W.ml, W.mem, W.inp, W.now⟩
theorem Wf.seasonEnd {s : State} (W : Wf s) : Wf (seasonEnd s) := by
  by_cases h : nL s = 0
  · rw [seasonEnd_none h]
    exact W.season _
  · rw [seasonEnd_is h]
    exact W.doneS.season _
/-! what is shared out is not below 0 -/
theorem half_le (n S : Nat) : ∀ l : List Nat, sumOf (l.map fun r => (r * n + S) / (2 * n)) * (2 * n) ≤ sumOf l * n + l.length * S
  | [] => by
    show 0 * _ ≤ _
    omega
  | x :: r => by
    have ih := half_le n S r
    have e1 : sumOf ((x :: r).map fun r => (r * n + S) / (2 * n)) = (x * n + S) / (2 * n) + sumOf (r.map fun r => (r * n + S) / (2 * n)) := rfl
    have e2 : sumOf (x :: r) = x + sumOf r := rfl
    have h1 := Nat.div_mul_le_self (x * n + S) (2 * n)
    rw [e1, e2, Nat.add_mul, Nat.add_mul, List.length_cons, Nat.add_mul, Nat.one_mul]
    omega
theorem hwSum_le {s : State} (h : nL s ≠ 0) : hwSum s ≤ sumL s := by
  have z := half_le (nL s) (sumL s) ((ladder s).map fun p => p.rating)
  have e1 : (((ladder s).map fun p => p.rating).map fun r => (r * nL s + sumL s) / (2 * nL s)) = ((ladder s).map (hwP s)).map fun p => p.rating := by
    rw [List.map_map, List.map_map]
    rfl
  rw [e1] at z
  have z' : hwSum s * (2 * nL s) ≤ sumL s * nL s + nL s * sumL s := by
    have e2 : ((ladder s).map fun p => p.rating).length = nL s := by rw [List.length_map]; rfl
    rw [e2] at z
    exact z
  have e3 : sumL s * nL s + nL s * sumL s = sumL s * (2 * nL s) := by
    rw [Nat.mul_comm (nL s) (sumL s), ← Nat.mul_add]
    congr 1
    omega
  rw [e3] at z'
  exact Nat.le_of_mul_le_mul_right z' (by omega)
theorem sum_le_top {T : Nat} : ∀ {l : List Nat}, (∀ x ∈ l, x ≤ T) → sumOf l ≤ l.length * T
  | [], _ => by
    show 0 ≤ _
    omega
  | x :: r, h => by
    have ih := sum_le_top (l := r) fun y hy => h y (List.mem_cons_of_mem _ hy)
    have hx := h x List.mem_cons_self
    have e2 : sumOf (x :: r) = x + sumOf r := rfl
    rw [e2, List.length_cons, Nat.add_mul, Nat.one_mul]
    omega
theorem sumL_le {s : State} (W : Wf s) : sumL s ≤ nL s * TOP := by
  have z := sum_le_top (T := TOP) (l := (ladder s).map fun p => p.rating) fun x hx => by
    obtain ⟨p, hp, rfl⟩ := List.mem_map.mp hx
    exact (W.pr p (Wf.ladder_mem.mp hp)).1
  rw [List.length_map] at z
  exact z
/-! what goes back to the pool, player by player -/
def ovN (s : State) (i : Nat) : Nat := sumOf (((moreS s).take i).map fun p => p.rating - min p.rating TOP)
theorem ov_zero (s : State) : ovN s 0 = 0 := by
  unfold ovN
  rw [List.take_zero]
  rfl
theorem ov_next {s : State} {i : Nat} {p : Player} (h : (ladder s)[i]? = some p) : ovN s (i + 1) = ovN s i + (rawN s i p - min (rawN s i p) TOP) := by
  have h1 : (moreS s)[i]? = some (rawP s i p) := by rw [more_get, h]; rfl
  unfold ovN
  rw [take_more h1, List.map_append, sumOf_append]
  rfl
theorem sum_diff {f g : Player → Nat} : ∀ {l : List Player}, (∀ p ∈ l, g p ≤ f p) → sumOf (l.map fun p => f p - g p) = sumOf (l.map f) - sumOf (l.map g) ∧ sumOf (l.map g) ≤ sumOf (l.map f)
  | [], _ => ⟨rfl, Nat.le_refl _⟩
  | x :: r, h => by
    obtain ⟨i1, i2⟩ := sum_diff (l := r) fun y hy => h y (List.mem_cons_of_mem _ hy)
    have hx := h x List.mem_cons_self
    have e : ∀ k : Player → Nat, sumOf ((x :: r).map k) = k x + sumOf (r.map k) := fun _ => rfl
    rw [e, e, e, i1]
    omega
theorem ov_all (s : State) : ovN s (nL s) = overS s := by
  unfold ovN overS cappedS
  rw [← more_len, List.take_length, List.map_map]
  exact (sum_diff (f := fun p => p.rating) (g := fun p => min p.rating TOP) (l := moreS s) fun p _ => by show min p.rating TOP ≤ p.rating; omega).1
end EM

namespace EM
open PySem PySem.Spec PyProof.Rows L2 Evl
open Vbwsap (Rules Player Match sumOf membersOf gap State)
section
variable {K : PySem.W.Frag} {σ : L2.St} {H : Hp} {D : Ends} {tu tz : TS} {tb tc : TE} {r r' : R2}
/-- for i, x in enumerate(xs) -/
theorem s_forEnum {a : Addr} {xs : List V} {ta : TA} {i1 i2 : Nat} (h : EvA ta σ H [.ref a]) (hx : SqL K H a xs) (Pv : Nat → L2.St → Hp → Prop) (h0 : ∀ H1, Ex H H1 → Pv 0 σ H1) (hl : ∀ i σ' H', i ≤ xs.length → Pv i σ' H' → SqL K H' a xs)
    (hs : ∀ i x σ' H' H2, xs[i]? = some x → Pv i σ' H' → Ex H' H2 → tu { D with nx := Pv (i + 1), ct := Pv (i + 1), bk := D.nx } ((σ'.set i1 (some (.int (i : Nat)))).set i2 (some x)) H2) (hd : ∀ σ' H', Pv xs.length σ' H' → D.nx σ' H') :
    tFor (iEnum K ta) (gTup K 2 (gCons (gName i1) (gCons (gName i2) gNil))) tu D σ H := by
  refine h H (Ex.refl H) _ fun H1 e1 => ⟨a, xs, rfl, ex_l e1 hx, for_it walk_enum Pv (h0 H1 e1) hl (fun i x σ' H' H2 hi pv y => ?_) hd⟩
  obtain ⟨T, x', y', rfl, hT, rfl, h1, h2⟩ := y
  cases h1
  exact ⟨T, _, rfl, st_of upd_same, rfl, _, _, rfl, _, _, rfl, rfl, hs i y' σ' H' _ h2 pv (Ex.new hT)⟩
/-- x = f(..) + b - c -/
theorem q_opC {sp : Sp} {vs : List V} {ta : TA} {n : Nat} (ha : EvA ta σ H vs) (k : ∀ H1, Ex H H1 → sp vs H1 (fun x H2 => tb σ H2 fun y H3 => r' x y H3 fun z H4 => tc σ H4 fun u H5 => r z u H5 fun v H6 => tz D (σ.set n (some v)) H6) E0) :
    tSeq (tAsg (tOp r (tOp r' (tCall sp [] E0 ta) tb) tc) (gName n)) tz D σ H := by
  refine ha H (Ex.refl H) _ fun H2 e2 => ?_
  show sp (vs ++ []) H2 _ _
  rw [List.append_nil]
  exact k H2 e2
theorem s_dropC {sp : Sp} {vs : List V} {ta : TA} (ha : EvA ta σ H vs) (k : ∀ H1, Ex H H1 → sp vs H1 (fun _ H2 => D.nx σ H2) E0) : tDrop (tCall sp [] E0 ta) D σ H := by
  refine ha H (Ex.refl H) _ fun H2 e2 => ?_
  show sp (vs ++ []) H2 _ _
  rw [List.append_nil]
  exact k H2 e2
end
theorem nRefs_is (l : List Nat) : nRefs l = (l.map fun (n : Nat) => (n : Int)).map V.int := by
  rw [List.map_map]
  rfl
theorem worldF_putSeason {r pd ed md : Addr} {a b d e i : Int} : putF "season" (.int i) (worldF r a b d e pd ed md) = worldF r a b i e pd ed md := by
  unfold worldF
  rw [pf_past (by decide +kernel), pf_past (by decide +kernel), pf_past (by decide +kernel), pf_here]
theorem playerF_setR {p : Player} {n : Nat} : putF "rating" (.int (n : Nat)) (playerF p) = playerF { p with rating := n } := by
  unfold playerF
  rw [pf_past (by decide +kernel), pf_here]
theorem playerF_setG {p : Player} : putF "games" (.int 0) (playerF p) = playerF { p with games := 0 } := by
  unfold playerF
  rw [pf_past (by decide +kernel), pf_past (by decide +kernel), pf_here]
  rfl
theorem playerF_setW {p : Player} : putF "wins" (.int 0) (playerF p) = playerF { p with wins := 0 } := by
  unfold playerF
  rw [pf_past (by decide +kernel), pf_past (by decide +kernel), pf_past (by decide +kernel), pf_here]
  rfl
section
variable {P : Program} {w : World} {K : PySem.W.Frag} {mg : Str → Option Value} {base : Heap} {c : Cs}
def sp_halfway_to_mean (K : PySem.W.Frag) : Sp := fun vs H Q _ => ∃ (l : Addr) (ys : List Nat) (n : Nat), vs = [.int (n : Nat), .ref l] ∧ SqL K H l (nRefs ys) ∧ 1 ≤ ys.length ∧ ys.length ≤ 24 ∧ RetV (.int (Vbwsap.halfway (sumOf ys) ys.length n : Nat)) H Q
abbrev s_halfway_to_mean : Stmt := top 59
abbrev n_halfway_to_mean : List Str := ["rating", "ratings", "size"]
abbrev p_halfway_to_mean : List Str := ["rating", "ratings"]
theorem sc_halfway_to_mean : FnScope n_halfway_to_mean p_halfway_to_mean (defScope s_halfway_to_mean) := ⟨rfl, rfl, rfl, by decide +kernel, rfl, by decide +kernel, by decide +kernel⟩

theorem ok_halfway_to_mean (T : Txt mg) (D : Def K mg "halfway_to_mean" s_halfway_to_mean p_halfway_to_mean) : Has P w K mg base 1 "halfway_to_mean" p_halfway_to_mean (sp_halfway_to_mean K) := by
  refine D.has sc_halfway_to_mean (fun vs H Q E h => ?_) (fun f cdv A outer sh H vs Q E hr h => ?_)
  · obtain ⟨l, ys, n, rfl, _⟩ := h
    rfl
  · obtain ⟨l, ys, n, rfl, hs, h1, h2, k⟩ := h
    refine ⟨_, (pss_cons (ps_set (i := 2) sc_halfway_to_mean.nd rfl (Or.inl rfl) (pe_callB call_len_seq (by rfl) T.len PySem.boot_len (pa_cons (pv 1) pa_nil)))
 (pss_one (ps_ret (pe_op op_fdivN (pe_op op_add (pe_op op_mul (pv 0) (pv 2)) (pe_callB (cr_sum rfl) (by rfl) T.sum (by decide +kernel) (pa_cons (pv 1) pa_nil))) (pe_op op_mul pe_int (pv 2)))))), ?_⟩
    refine q_asg (v := .int (ys.length : Nat)) (ev_is (ev_len (ev_var rfl) hs) (by unfold nRefs; rw [List.length_map])) fun H1 e1 => ?_
    have hs1 := ex_l e1 hs
    rw [nRefs_is] at hs1
    refine s_ret (ev_is (ev_op (ev_op (ev_op (ev_var rfl) (ev_var rfl) (rv_I (Or.inr (by omega)))) (ev_sumA (ev_var rfl) hs1) rv_I0) (ev_op ev_c (ev_var rfl) (rv_I (Or.inl (by decide)))) (rv_I ⟨by omega, by omega⟩)) ?_) fun H2 e2 => k H2 (e1.trans e2)
    congr 1
    rw [sum_ints, Int.fdiv_eq_ediv_of_nonneg _ (by omega)]
    unfold Vbwsap.halfway
    rw [Int.natCast_ediv, Int.natCast_add, Int.natCast_mul, Int.natCast_mul]
    rfl
def drawI (pool : Int) (xs : List Int) : Int := minI pool (((xs.length : Nat) : Int) * 10000000 - xs.sum)
def sp_draw_from_pool (K : PySem.W.Frag) (c : Cs) : Sp := fun vs H Q _ => ∃ (a dx ra pd ed md l : Addr) (i1 pool i3 i4 : Int) (xs : List Int), vs = [.ref a, .ref l] ∧ H a = some (.ins c.W dx (worldF ra i1 pool i3 i4 pd ed md)) ∧ SqL K H l (xs.map V.int) ∧
  ∀ H', ExB (· = a) H H' → H' a = some (.ins c.W dx (worldF ra i1 (pool - drawI pool xs) i3 i4 pd ed md)) → Q (.int (drawI pool xs)) H'
abbrev s_draw_from_pool : Stmt := top 60
abbrev n_draw_from_pool : List Str := ["world", "ratings", "drawn"]
abbrev p_draw_from_pool : List Str := ["world", "ratings"]
theorem sc_draw_from_pool : FnScope n_draw_from_pool p_draw_from_pool (defScope s_draw_from_pool) := ⟨rfl, rfl, rfl, by decide +kernel, rfl, by decide +kernel, by decide +kernel⟩

theorem ok_draw_from_pool (T : Txt mg) (CC : CT K c) (D : Def K mg "draw_from_pool" s_draw_from_pool p_draw_from_pool) : Has P w K mg base 1 "draw_from_pool" p_draw_from_pool (sp_draw_from_pool K c) := by
  refine D.has sc_draw_from_pool (fun vs H Q E h => ?_) (fun f cdv A outer sh H vs Q E hr h => ?_)
  · obtain ⟨a, dx, ra, pd, ed, md, l, i1, pool, i3, i4, xs, rfl, _⟩ := h
    rfl
  · obtain ⟨a, dx, ra, pd, ed, md, l, i1, pool, i3, i4, xs, rfl, hw, hs, k⟩ := h
    refine ⟨_, (pss_cons (ps_set (i := 2) sc_draw_from_pool.nd rfl (Or.inl rfl) (pe_callB (call_min2 rfl) (by rfl) T.min (by decide +kernel) (pa_cons (pe_fld (pv 0) rfl) (pa_cons (pe_op op_sub (pe_op op_mul (pe_callB call_len_seq (by rfl) T.len PySem.boot_len (pa_cons (pv 1) pa_nil)) (pe_const T.TOP rfl)) (pe_callB (cr_sum rfl) (by rfl) T.sum (by decide +kernel) (pa_cons (pv 1) pa_nil))) pa_nil))))
 (pss_cons (ps_fldaug (pv 0) (pv 2) in_sub)
 (pss_one (ps_ret (pv 2))))), ?_⟩
    refine q_asg (v := .int (drawI pool xs)) (ev_is (ev_min2 (ev_W CC (ev_var rfl) hw (worldF_pool ..)) (ev_op (ev_op (ev_len (ev_var rfl) hs) ev_c (rv_I (Or.inr (by decide)))) (ev_sumA (ev_var rfl) hs) rv_I0)) (by rw [List.length_map]; rfl)) fun H1 e1 => ?_
    refine q_fldaug (g := fun i j => i - j) (ev_var rfl) (e1 _ _ hw) CC.W.cl (CC.W.na _ (by decide +kernel)) (worldF_pool ..) (ev_var rfl) (by show 8 < 1000; decide) fun H2 e2 => ?_
    rw [worldF_putPool]
    exact s_ret (ev_var rfl) fun H3 e3 => k H3 ((exB_one (ExB.of (e1.trans e2))).ex e3) (e3 _ _ upd_same)
def sp_share_at : Sp := fun vs H Q _ => ∃ i m n : Nat, vs = [.int (i : Nat), .int (m : Nat), .int (n : Nat)] ∧ 0 < n ∧ n < 1000 ∧ RetV (.int ((m / n + if i < m % n then 1 else 0 : Nat) : Nat)) H Q
abbrev s_share_at : Stmt := top 61
abbrev n_share_at : List Str := ["place", "spare", "size", "even"]
abbrev p_share_at : List Str := ["place", "spare", "size"]
theorem sc_share_at : FnScope n_share_at p_share_at (defScope s_share_at) := ⟨rfl, rfl, rfl, by decide +kernel, rfl, by decide +kernel, by decide +kernel⟩

theorem ok_share_at (D : Def K mg "share_at" s_share_at p_share_at) : Has P w K mg base 1 "share_at" p_share_at sp_share_at := by
  refine D.has sc_share_at (fun vs H Q E h => ?_) (fun f cdv A outer sh H vs Q E hr h => ?_)
  · obtain ⟨i, m, n, rfl, _⟩ := h
    rfl
  · obtain ⟨i, m, n, rfl, h1, h2, k⟩ := h
    refine ⟨_, (pss_cons (ps_set (i := 3) sc_share_at.nd rfl (Or.inl rfl) (pe_op op_fdivN (pv 1) (pv 2)))
 (pss_cons (ps_if (pt_cmpR op_lt (pv 0) (pe_op op_modN (pv 1) (pv 2)) (nomark _))
  (pss_one (ps_ret (pe_op op_add (pv 3) pe_int))) pss_nil)
 (pss_one (ps_ret (pv 3))))), ?_⟩
    refine q_asg (v := .int ((m / n : Nat) : Nat)) (ev_is (ev_op (ev_var rfl) (ev_var rfl) (rv_I ⟨by omega, by omega⟩)) (by congr 1; rw [Int.fdiv_eq_ediv_of_nonneg _ (by omega)]; rfl)) fun H1 e1 => ?_
    refine q_when (b := decide (i < m % n)) (et_is (et_test (ev_op (ev_var rfl) (ev_op (ev_var rfl) (ev_var rfl) (rv_I (by omega))) rv_I0)) (by rw [Int.fmod_eq_emod_of_nonneg _ (by omega)]; exact decide_eq_decide.mpr (by omega))) (fun hb H2 e2 => ?_) (fun hb H2 e2 => ?_)
    · rw [if_pos (of_decide_eq_true hb)] at k
      exact s_ret (ev_op (ev_var rfl) ev_c rv_I0) fun H3 e3 => k H3 ((e1.trans e2).trans e3)
    · rw [if_neg (of_decide_eq_false hb)] at k
      exact s_ret (ev_var rfl) fun H3 e3 => k H3 ((e1.trans e2).trans e3)
def sp_give_rating (c : Cs) : Sp := fun vs H Q _ => ∃ (a dw ra pd ed md y dy : Addr) (i1 i3 i4 : Int) (pool : Nat) (p : Player) (n : Nat), vs = [.ref a, .ref y, .int (n : Nat)] ∧ H a = some (.ins c.W dw (worldF ra i1 (pool : Nat) i3 i4 pd ed md)) ∧ H y = some (.ins c.P dy (playerF p)) ∧
  ∀ H', ExB (fun b => b = a ∨ b = y) H H' → H' a = some (.ins c.W dw (worldF ra i1 ((pool + (n - min n Vbwsap.TOP) : Nat) : Nat) i3 i4 pd ed md)) → H' y = some (.ins c.P dy (playerF { p with rating := min n Vbwsap.TOP })) → Q .non H'
abbrev s_give_rating : Stmt := top 62
abbrev n_give_rating : List Str := ["world", "player", "rating"]
abbrev p_give_rating : List Str := ["world", "player", "rating"]
theorem sc_give_rating : FnScope n_give_rating p_give_rating (defScope s_give_rating) := ⟨rfl, rfl, rfl, by decide +kernel, rfl, by decide +kernel, by decide +kernel⟩

theorem ok_give_rating (T : Txt mg) (CC : CT K c) (D : Def K mg "give_rating" s_give_rating p_give_rating) : Has P w K mg base 1 "give_rating" p_give_rating (sp_give_rating c) := by
  refine D.has sc_give_rating (fun vs H Q E h => ?_) (fun f cdv A outer sh H vs Q E hr h => ?_)
  · obtain ⟨a, dw, ra, pd, ed, md, y, dy, i1, i3, i4, pool, p, n, rfl, _⟩ := h
    rfl
  · obtain ⟨a, dw, ra, pd, ed, md, y, dy, i1, i3, i4, pool, p, n, rfl, hw, hy, k⟩ := h
    refine ⟨_, (pss_cons (ps_fld (pv 1) (pe_callB (call_min2 rfl) (by rfl) T.min (by decide +kernel) (pa_cons (pv 2) (pa_cons (pe_const T.TOP rfl) pa_nil))) rfl)
 (pss_one (ps_fldaug (pv 0) (pe_op op_sub (pv 2) (pe_fld (pv 1) rfl)) in_add))), ?_⟩
    have nay : a ≠ y := fun z => by
      rw [z, hy] at hw
      have := Option.some.inj hw
      injection this with _ _ h3
      exact absurd (congrArg List.length h3) (by show ¬ (5 = 8); decide)
    refine q_fld (y := .int ((min n Vbwsap.TOP : Nat) : Int)) (ev_is (ev_min2 (ev_var rfl) ev_c) (by
      unfold minI Vbwsap.TOP
      congr 1
      split <;> omega)) (ev_var rfl) hy CC.P.cl (CC.P.na _ (by decide +kernel)) (by show 5 < 1000; decide) fun H1 e1 => ?_
    rw [playerF_setR]
    have hw1 : upd H1 y (.ins c.P dy (playerF { p with rating := min n Vbwsap.TOP })) a = some (.ins c.W dw (worldF ra i1 (pool : Nat) i3 i4 pd ed md)) := by
      rw [upd_ne nay]
      exact e1 _ _ hw
    refine s_fldaug (g := fun i j => i + j) (ev_var rfl) hw1 CC.W.cl (CC.W.na _ (by decide +kernel)) (worldF_pool ..) (ev_op (ev_var rfl) (ev_P CC (ev_var rfl) upd_same (playerF_rating _)) rv_I0) (by show 8 < 1000; decide) fun H2 e2 => ?_
    rw [worldF_putPool]
    have e0 : ((pool : Nat) : Int) + (((n : Nat) : Int) - ((min n Vbwsap.TOP : Nat) : Int)) = ((pool + (n - min n Vbwsap.TOP) : Nat) : Int) := by omega
    show Q .non (upd H2 a (.ins c.W dw (worldF ra i1 (((pool : Nat) : Int) + (((n : Nat) : Int) - ((min n Vbwsap.TOP : Nat) : Int))) i3 i4 pd ed md)))
    rw [e0]
    refine k _ ?_ upd_same ?_
    · exact (((ExB.of e1).trans (ExB.upd (.inr rfl))).ex e2).trans (ExB.upd (.inl rfl))
    · rw [upd_ne nay.symm]
      exact e2 _ _ upd_same
/-! ### all players -/
def sp_settle_players (c : Cs) : Sp := fun vs H Q _ => ∃ (γ : Gh) (s : State), vs = [.ref γ.w] ∧ WS c H γ s ∧ Wf s ∧ Un3 H γ s ∧ nL s ≠ 0 ∧ ∀ H', WS c H' γ (doneS s) → Un3 H' γ (doneS s) → ExB (S4 γ s) H H' → Q .non H'
theorem upd_back {H : Hp} {a : Addr} {o o' : HO} (h : H a = some o) : upd (upd H a o') a o = H := by
  funext b
  by_cases z : b = a
  · rw [z, upd_same, h]
  · rw [upd_ne z, upd_ne z]
abbrev s_settle_players : Stmt := top 63
abbrev n_settle_players : List Str := ["world", "ladder", "ratings", "size", "settled", "spare", "place", "player", "rating"]
abbrev p_settle_players : List Str := ["world"]
theorem sc_settle_players : FnScope n_settle_players p_settle_players (defScope s_settle_players) := ⟨rfl, rfl, rfl, by decide +kernel, rfl, by decide +kernel, by decide +kernel⟩

theorem ok_settle_players (T : TxtK mg) (CC : CT K c) (D : Def K mg "settle_players" s_settle_players p_settle_players) (G_ladder_of : Has P w K mg base 4 "ladder_of" p_ladder_of (sp_ladder_of c)) (G_ratings_of : Has P w K mg base 1 "ratings_of" p_ratings_of (sp_ratings_of K c))
    (G_halfway_to_mean : Has P w K mg base 1 "halfway_to_mean" p_halfway_to_mean (sp_halfway_to_mean K)) (G_draw_from_pool : Has P w K mg base 1 "draw_from_pool" p_draw_from_pool (sp_draw_from_pool K c)) (G_share_at : Has P w K mg base 1 "share_at" p_share_at sp_share_at) (G_give_rating : Has P w K mg base 1 "give_rating" p_give_rating (sp_give_rating c)) :
    Has P w K mg base 5 "settle_players" p_settle_players (sp_settle_players c) := by
  refine D.has sc_settle_players (fun vs H Q E h => ?_) (fun f cdv A outer sh H vs Q E hr h => ?_)
  · obtain ⟨γ, s, rfl, _⟩ := h
    rfl
  · obtain ⟨γ, s, rfl, ws, W, un, hne, k⟩ := h
    refine ⟨_, (pss_cons (ps_set (i := 1) sc_settle_players.nd rfl (Or.inl rfl) (pe_has G_ladder_of (hr.mono (by decide)) rfl (pa_cons (pv 0) pa_nil)))
 (pss_cons (ps_set (i := 2) sc_settle_players.nd rfl (Or.inr rfl) (pe_has G_ratings_of (hr.mono (by decide)) rfl (pa_cons (pv 1) pa_nil)))
 (pss_cons (ps_set (i := 3) sc_settle_players.nd rfl (Or.inl rfl) (pe_callB call_len_seq (by rfl) T.len PySem.boot_len (pa_cons (pv 1) pa_nil)))
 (pss_cons (ps_setLc (i := 4) (own := [("rating", 8)]) (g := gName 8) (tt := tYes) (te := (tCall (sp_halfway_to_mean K) [] E0 (tCons (tVar 8) (tCons (tVar 2) tNil)))) rfl sc_settle_players.nd rfl rfl (sw_true rfl rfl rfl (by decide +kernel)) (pi_list (pv 2)) (blkOk_by (N := n_settle_players) (sc := defScope s_settle_players) (by decide +kernel)) (fun _ _ _ _ _ => pg_name (i := 8) sc_settle_players.nd rfl (Or.inl rfl)) (fun _ _ _ _ _ => pts_nil) (fun _ _ _ _ _ => (pe_has G_halfway_to_mean (hr.mono (by decide)) rfl (pa_cons (pv 8) (pa_cons (pv 2) pa_nil)))))
 (pss_cons (ps_set (i := 5) sc_settle_players.nd rfl (Or.inl rfl) (pe_op op_sub (pe_op op_add (pe_has G_draw_from_pool (hr.mono (by decide)) rfl (pa_cons (pv 0) (pa_cons (pv 2) pa_nil))) (pe_callB (cr_sum rfl) (by rfl) T.sum (by decide +kernel) (pa_cons (pv 2) pa_nil))) (pe_callB (cr_sum rfl) (by rfl) T.sum (by decide +kernel) (pa_cons (pv 4) pa_nil))))
 (pss_one (ps_for PassesOwn.never rfl (pi_enum rfl T.enumerate (pa_cons (pv 1) pa_nil)) (pg_tup rfl (pgs_cons (pg_name (i := 6) sc_settle_players.nd rfl (Or.inl rfl)) (pgs_cons (pg_name (i := 7) sc_settle_players.nd rfl (Or.inl rfl)) pgs_nil)))
  (pss_cons (ps_expr (pe_has G_give_rating (hr.mono (by decide)) rfl (pa_cons (pv 0) (pa_cons (pv 7) (pa_cons (pe_op op_add (pe_ix ix_list (pv 4) (pv 6) (fun _ _ => rfl)) (pe_has G_share_at (hr.mono (by decide)) rfl (pa_cons (pv 6) (pa_cons (pv 5) (pa_cons (pv 3) pa_nil))))) pa_nil)))))
 (pss_cons (ps_fld (pv 7) pe_int rfl)
 (pss_one (ps_fld (pv 7) pe_int rfl))))))))))), ?_⟩
    obtain ⟨dw, hw⟩ := ws.wo
    have hL : ∀ p ∈ Vbwsap.ladder s, p ∈ s.players := fun p hp => Wf.ladder_mem.mp hp
    have hLl : (Vbwsap.ladder s).length = nL s := rfl
    have hL24 : nL s ≤ 24 := by rw [nL_is]; exact W.pl
    -- ladder, ratings, size
    refine q_asgL (el_callL (vs := [.ref γ.w]) (ea_cons (ev_var rfl) ea_nil) fun H1 e1 Q' q' => ⟨γ, s, rfl, ws.mono e1, W, q'⟩) fun la H1 hla e1 h1 => ?_
    have hwho : (Vbwsap.ladder s).map (fun p => V.ref (γ.pa p.num)) = pRefs γ.pa ((Vbwsap.ladder s).map fun p => p.num) := by
      unfold pRefs
      rw [List.map_map]
      rfl
    have hrat : (((Vbwsap.ladder s).map fun p => p.num).map fun n => V.int (((plOf s n).rating : Nat) : Int)) = nRefs ((Vbwsap.ladder s).map fun p => p.rating) := by
      unfold nRefs
      rw [List.map_map, List.map_map]
      apply List.map_congr_left
      intro p hp
      simp only [Function.comp]
      rw [W.player (hL p hp)]
    refine q_asgL (xs := nRefs ((Vbwsap.ladder s).map fun p => p.rating)) (el_callL (vs := [.ref la]) (ea_cons (ev_var rfl) ea_nil) fun H2 e2 Q' q' => ⟨la, γ.pa, plOf s, (Vbwsap.ladder s).map fun p => p.num, rfl, by rw [← hwho]; exact sq_of (e2 _ _ h1), (ws.pls W (fun n hn => by
      obtain ⟨p, hp, rfl⟩ := List.mem_map.mp hn
      exact ⟨p, hL p hp, rfl⟩)).mono (e1.trans e2), by rw [List.length_map]; omega, by rw [hrat]; exact q'⟩) fun lr H2 hlr e2 h2 => ?_
    refine q_asg (v := .int (nL s : Nat)) (ev_is (ev_len (ev_var rfl) (sq_of (e2 _ _ h1))) (by rw [List.length_map, hLl])) fun H3 e3 => ?_
    have h2' := e3 _ _ h2
    -- settled
    have hset : ((Vbwsap.ladder s).map fun p => V.int (Vbwsap.halfway (sumL s) (nL s) p.rating : Nat)) = nRefs (((Vbwsap.ladder s).map (hwP s)).map fun p => p.rating) := by
      unfold nRefs
      rw [List.map_map, List.map_map]
      rfl
    refine q_asgL (xs := nRefs (((Vbwsap.ladder s).map (hwP s)).map fun p => p.rating)) (by
      rw [← hset]
      refine el_mapT (l := Vbwsap.ladder s) (fun p => V.int ((p.rating : Nat) : Int)) (fun p => V.int (Vbwsap.halfway (sumL s) (nL s) p.rating : Nat)) (ev_var rfl) (by
        have z := sq_of (K := K) h2'
        unfold nRefs at z
        rw [List.map_map] at z
        exact z) (by omega) (fun _ => rfl) fun p hp H4 e4 => ?_
      exact ev_callV (vs := [.int (p.rating : Nat), .ref lr]) (ea_cons (ev_var rfl) (ea_cons (ev_var rfl) ea_nil)) fun H5 e5 Q' q' => ⟨lr, (Vbwsap.ladder s).map fun p => p.rating, p.rating, rfl, sq_of ((e4.trans e5) _ _ h2'), by rw [List.length_map]; omega, by rw [List.length_map]; omega, by rw [List.length_map]; exact q'⟩) fun ls H4 hls e4 h4 => ?_
    have e04 := e1.trans (e2.trans (e3.trans e4))
    have h1' := (e2.trans (e3.trans e4)) _ _ h1
    have h2'' := e4 _ _ h2'
    -- spare
    have hr4 : SqL K H4 lr ((((Vbwsap.ladder s).map fun p => p.rating).map fun (n : Nat) => (n : Int)).map V.int) := by
      rw [← nRefs_is]
      exact sq_of h2''
    have hdraw : drawI (s.pool : Nat) (((Vbwsap.ladder s).map fun p => p.rating).map fun (n : Nat) => (n : Int)) = ((outS s : Nat) : Int) := by
      unfold drawI outS minI
      rw [sum_ints, List.length_map, List.length_map, hLl]
      have z := sumL_le W
      have z2 : ((nL s * Vbwsap.TOP : Nat) : Int) = ((nL s : Nat) : Int) * 10000000 := by
        rw [Int.natCast_mul]
        rfl
      have z3 : sumOf ((Vbwsap.ladder s).map fun p => p.rating) = sumL s := rfl
      rw [z3, ← z2]
      generalize nL s * Vbwsap.TOP = A at *
      split <;> omega
    refine q_opC (vs := [.ref γ.w, .ref lr]) (ea_cons (ev_var rfl) (ea_cons (ev_var rfl) ea_nil)) fun H5 e5 => ?_
    refine ⟨γ.w, dw, γ.r, γ.pd, γ.ed, γ.md, lr, _, (s.pool : Nat), _, _, _, rfl, (e04.trans e5) _ _ hw, ex_l e5 hr4, fun H6 e6 hw6 => ?_⟩
    rw [hdraw] at hw6 ⊢
    have nw : ∀ {b : Addr} {xs : List V}, H5 b = some (.lst xs) → b ≠ γ.w := fun {b xs} hb z => by
      rw [z, (e04.trans e5) _ _ hw] at hb
      cases hb
    have h1a := e6 _ _ (e5 _ _ h1') (nw (e5 _ _ h1'))
    have h2a := e6 _ _ (e5 _ _ h2'') (nw (e5 _ _ h2''))
    have h4a := e6 _ _ (e5 _ _ h4) (nw (e5 _ _ h4))
    have s2 : SqL K H6 lr ((((Vbwsap.ladder s).map fun p => p.rating).map fun (n : Nat) => (n : Int)).map V.int) := by
      rw [← nRefs_is]
      exact sq_of h2a
    have s4 : SqL K H6 ls (((((Vbwsap.ladder s).map (hwP s)).map fun p => p.rating).map fun (n : Nat) => (n : Int)).map V.int) := by
      rw [← nRefs_is]
      exact sq_of h4a
    refine ev_sumA (ev_var rfl) s2 H6 (Ex.refl _) _ fun H7 e7 => ?_
    refine rv_I0 (H := H7) H7 (Ex.refl _) _ fun H8 e8 => ?_
    refine ev_sumA (ev_var rfl) (ex_l (e7.trans e8) s4) H8 (Ex.refl _) _ fun H9 e9 => ?_
    refine rv_I0 (H := H9) H9 (Ex.refl _) _ fun H10 e10 => ?_
    have e6X := (e7.trans e8).trans (e9.trans e10)
    have hspare : ((outS s : Nat) : Int) + (((Vbwsap.ladder s).map fun p => p.rating).map fun (n : Nat) => (n : Int)).sum - ((((Vbwsap.ladder s).map (hwP s)).map fun p => p.rating).map fun (n : Nat) => (n : Int)).sum = ((restS s : Nat) : Int) := by
      rw [sum_ints, sum_ints]
      have z := hwSum_le hne
      have z1 : sumOf ((Vbwsap.ladder s).map fun p => p.rating) = sumL s := rfl
      have z2 : sumOf (((Vbwsap.ladder s).map (hwP s)).map fun p => p.rating) = hwSum s := rfl
      rw [z1, z2]
      unfold restS
      omega
    rw [hspare]
    -- the loop
    have eX : ExB (· = γ.w) H H10 := ((ExB.of (e04.trans e5)).trans e6).ex e6X
    have hwX : H10 γ.w = some (.ins c.W dw (worldF γ.r (s.now : Nat) ((s.pool - outS s : Nat) : Nat) (s.season : Nat) (s.next : Nat) γ.pd γ.ed γ.md)) := by
      have z := e6X _ _ hw6
      have z2 : ((s.pool : Nat) : Int) - ((outS s : Nat) : Int) = ((s.pool - outS s : Nat) : Int) := by
        unfold outS
        omega
      rw [z2] at z
      exact z
    have h1X := e6X _ _ h1a
    have h4X := e6X _ _ h4a
    have hpX : ∀ p ∈ s.players, PlayerAt c H10 (γ.pa p.num) p := fun p hp => by
      obtain ⟨dx, z⟩ := ws.ps p hp
      exact ⟨dx, eX _ _ z fun y => off3 ws un z (by show 5 ≠ 8; decide) (.inl y)⟩
    have ninj : ∀ {p q : Player}, p ∈ s.players → q ∈ s.players → γ.pa p.num = γ.pa q.num → p.num = q.num := fun hp hq e => ws.inj hp hq e
    have npw : ∀ {p : Player}, p ∈ s.players → γ.pa p.num ≠ γ.w := fun {p} hp z => by
      obtain ⟨dx, q⟩ := ws.ps p hp
      exact off3 ws un q (by show 5 ≠ 8; decide) (.inl z)
    have nol : ∀ {b : Addr} {xs : List V} {H' : Hp}, H10 b = some (.lst xs) → ExB (fun b => b = γ.w ∨ ∃ p ∈ s.players, b = γ.pa p.num) H10 H' → H' b = some (.lst xs) := fun {b xs H'} hb e => e _ _ hb fun z => by
      rcases z with z | ⟨p, hp, z⟩
      · rw [z, hwX] at hb
        cases hb
      · obtain ⟨dx, q⟩ := hpX p hp
        rw [z, q] at hb
        cases hb
    refine s_forEnum (xs := (Vbwsap.ladder s).map fun p => V.ref (γ.pa p.num)) (ea_cons (ev_var rfl) ea_nil) (sq_of h1X)
      (fun i σ' H' => ExB (fun b => b = γ.w ∨ ∃ p ∈ (Vbwsap.ladder s).take i, b = γ.pa p.num) H10 H' ∧ (∀ (j : Nat) (p : Player), j < i → (Vbwsap.ladder s)[j]? = some p → PlayerAt c H' (γ.pa p.num) (endP s j p)) ∧
        H' γ.w = some (.ins c.W dw (worldF γ.r (s.now : Nat) ((s.pool - outS s + ovN s i : Nat) : Nat) (s.season : Nat) (s.next : Nat) γ.pd γ.ed γ.md)) ∧
        ∃ x y, σ' = [some (.ref γ.w), some (.ref la), some (.ref lr), some (.int (nL s : Nat)), some (.ref ls), some (.int (restS s : Nat)), x, y, none])
      (fun H11 e11 => ⟨.of e11, fun j p hj _ => by omega, by rw [ov_zero]; exact e11 _ _ hwX, none, none, rfl⟩)
      (fun i σ' H' _ pv => sq_of (nol h1X (pv.1.mono fun b hb => by
        rcases hb with z | ⟨p, hp, z⟩
        · exact .inl z
        · exact .inr ⟨p, hL p (List.mem_of_mem_take hp), z⟩))) ?_ ?_
    · rintro i v σ' H11 H12 hi ⟨eI, hI, hwI, x, y, rfl⟩ e12
      rw [List.getElem?_map] at hi
      cases hq : (Vbwsap.ladder s)[i]? with
      | none => rw [hq] at hi; cases hi
      | some p =>
        rw [hq] at hi
        cases hi
        have hpm : p ∈ Vbwsap.ladder s := List.mem_of_getElem? hq
        have hps := hL p hpm
        have hnt : ∀ q ∈ (Vbwsap.ladder s).take i, q.num ≠ p.num := fun q hq' z => by
          have nd := ladder_nums W
          rw [← List.take_append_drop (i + 1) (Vbwsap.ladder s), take_more hq, List.append_assoc, List.map_append, List.nodup_append] at nd
          exact nd.2.2 q.num (List.mem_map.mpr ⟨q, hq', rfl⟩) p.num (List.mem_map.mpr ⟨p, List.mem_append_left _ (by simp), rfl⟩) z
        have eI' : ExB (fun b => b = γ.w ∨ ∃ p ∈ s.players, b = γ.pa p.num) H10 H11 := eI.mono fun b hb => by
          rcases hb with z | ⟨q, hq, z⟩
          · exact .inl z
          · exact .inr ⟨q, hL q (List.mem_of_mem_take hq), z⟩
        obtain ⟨dp, hp10⟩ := hpX p hps
        have hp11 : H11 (γ.pa p.num) = some (.ins c.P dp (playerF p)) := eI _ _ hp10 fun z => by
          rcases z with z | ⟨q, hq', z⟩
          · exact npw hps z
          · exact hnt q hq' (ninj (hL q (List.mem_of_mem_take hq')) hps z.symm)
        have h4b := e12 _ _ (nol h4X eI')
        have hsz : (((Vbwsap.ladder s).map (hwP s)).map fun p => p.rating)[i]? = some (Vbwsap.halfway (sumL s) (nL s) p.rating) := by
          rw [List.getElem?_map, List.getElem?_map, hq]
          rfl
        refine q_dropC (vs := [.ref γ.w, .ref (γ.pa p.num), .int (rawN s i p : Nat)]) (ea_cons (ev_var rfl) (ea_cons (ev_var rfl) (ea_cons (ev_is (ev_op (ev_op (ev_var rfl) (ev_var rfl) (rv_ixL (v := .int (Vbwsap.halfway (sumL s) (nL s) p.rating : Nat)) (sq_of h4b) (at_of (j := i) rfl (by unfold nRefs; rw [List.getElem?_map, hsz]; rfl)))) (ev_callV (z := .int (shareN s i : Nat)) (vs := [.int (i : Nat), .int (restS s : Nat), .int (nL s : Nat)]) (ea_cons (ev_var rfl) (ea_cons (ev_var rfl) (ea_cons (ev_var rfl) ea_nil))) fun H13 e13 Q' q' => ⟨i, restS s, nL s, rfl, by omega, by omega, q'⟩) rv_I0) (by unfold rawN; rfl)) ea_nil))) fun H13 e13 => ?_
        have e1213 := e12.trans e13
        refine ⟨γ.w, dw, γ.r, γ.pd, γ.ed, γ.md, γ.pa p.num, dp, _, _, _, s.pool - outS s + ovN s i, p, rawN s i p, rfl, e1213 _ _ hwI, e1213 _ _ hp11, fun H14 e14 hw14 hp14 => ?_⟩
        refine q_fld ev_c (ev_var rfl) hp14 CC.P.cl (CC.P.na _ (by decide +kernel)) (by show 5 < 1000; decide) fun H15 e15 => ?_
        rw [playerF_setG]
        refine s_fld ev_c (ev_var rfl) upd_same CC.P.cl (CC.P.na _ (by decide +kernel)) (by show 5 < 1000; decide) fun H16 e16 => ?_
        rw [playerF_setW]
        have eP : (({ p with rating := min (rawN s i p) Vbwsap.TOP, games := 0, wins := 0 } : Player)) = endP s i p := rfl
        have eT : ExB (fun b => b = γ.w ∨ b = γ.pa p.num) H11 (upd H16 (γ.pa p.num) (.ins c.P dp (playerF (endP s i p)))) :=
          ((((ExB.of e1213).trans e14).ex e15).trans (ExB.trans (H1 := upd H15 (γ.pa p.num) (.ins c.P dp (playerF { p with rating := min (rawN s i p) Vbwsap.TOP, games := 0 }))) (ExB.upd (.inr rfl)) (.of e16))).trans (ExB.upd (.inr rfl))
        refine ⟨?_, fun j q hj hjq => ?_, ?_, _, _, rfl⟩
        · rw [take_more hq]
          refine (eI.mono fun b hb => ?_).trans (eT.mono fun b hb => ?_)
          · rcases hb with z | ⟨q, hq', z⟩
            · exact .inl z
            · exact .inr ⟨q, List.mem_append_left _ hq', z⟩
          · rcases hb with z | z
            · exact .inl z
            · exact .inr ⟨p, List.mem_append_right _ (by simp), z⟩
        · by_cases z : j = i
          · subst z
            rw [hq] at hjq
            cases hjq
            exact ⟨dp, upd_same⟩
          · have hji : j < i := by omega
            obtain ⟨dq, hdq⟩ := hI j q hji hjq
            have hqt : q ∈ (Vbwsap.ladder s).take i := List.mem_of_getElem? (i := j) (by rw [List.getElem?_take_of_lt hji]; exact hjq)
            have hqs := hL q (List.mem_of_mem_take hqt)
            refine ⟨dq, eT _ _ hdq fun y => ?_⟩
            rcases y with y | y
            · exact npw hqs y
            · exact hnt q hqt (ninj hqs hps y)
        · rw [ov_next hq]
          rw [upd_ne (npw hps).symm]
          refine e16 _ _ ?_
          rw [upd_ne (npw hps).symm, ← Nat.add_assoc]
          exact e15 _ _ hw14
    · rintro σ' H11 ⟨eI, hI, hwI, x, y, rfl⟩
      rw [List.length_map, hLl] at eI hI hwI
      rw [ov_all] at hwI
      have eI' : ExB (fun b => b = γ.w ∨ ∃ p ∈ s.players, b = γ.pa p.num) H10 H11 := eI.mono fun b hb => by
        rcases hb with z | ⟨q, hq, z⟩
        · exact .inl z
        · exact .inr ⟨q, hL q (List.mem_of_mem_take hq), z⟩
      have eAll : ExB (fun b => b = γ.w ∨ ∃ p ∈ s.players, b = γ.pa p.num) H H11 := (eX.mono fun b hb => .inl hb).trans eI'
      have hS : ExB (SP γ s) H (upd H11 γ.w (.ins c.W dw (wF γ s))) := fun b o hb hn => by
        by_cases z : b = γ.w
        · rw [z, hw] at hb
          cases hb
          rw [z]
          exact upd_same
        · rw [upd_ne z]
          exact eAll _ _ hb fun y => by
            rcases y with y | y
            · exact z y
            · exact hn y
      obtain ⟨ws11, un11⟩ := WS.remap (f := newS s) ws un hS (fun p hp => (newS_ok W hp).1) (fun p hp => by
        obtain ⟨j, hj⟩ := ladder_at hp
        have hjl : j < nL s := (List.getElem?_eq_some_iff.mp hj).1
        obtain ⟨dq, hdq⟩ := hI j p hjl hj
        rw [newS_at W hj]
        exact ⟨dq, by rw [upd_ne (npw hp)]; exact hdq⟩)
      obtain ⟨ws12, un12⟩ := ws_own (dx := dw) (now := s.now) (pool := s.pool - outS s + overS s) (season := s.season) (next := s.next) ws11 un11
      rw [upd_back hwI] at ws12 un12
      exact k H11 ws12 un12 (eAll.mono fun b hb => by
        rcases hb with z | z
        · exact .inl (.inl z)
        · exact .inr z)
/-! ### the season's end -/
def sp_end_season (c : Cs) : Sp := fun vs H Q _ => ∃ (γ : Gh) (s : State), vs = [.ref γ.w] ∧ WS c H γ s ∧ Wf s ∧ Un3 H γ s ∧ ∀ H', WS c H' γ (Vbwsap.seasonEnd s) → Un3 H' γ (Vbwsap.seasonEnd s) → ExB (S4 γ s) H H' → Q .non H'
abbrev s_end_season : Stmt := top 64
abbrev n_end_season : List Str := ["world"]
abbrev p_end_season : List Str := ["world"]
theorem sc_end_season : FnScope n_end_season p_end_season (defScope s_end_season) := ⟨rfl, rfl, rfl, by decide +kernel, rfl, by decide +kernel, by decide +kernel⟩

theorem ok_end_season (T : TxtK mg) (CC : CT K c) (D : Def K mg "end_season" s_end_season p_end_season) (G_settle_players : Has P w K mg base 5 "settle_players" p_settle_players (sp_settle_players c)) : Has P w K mg base 6 "end_season" p_end_season (sp_end_season c) := by
  refine D.has sc_end_season (fun vs H Q E h => ?_) (fun f cdv A outer sh H vs Q E hr h => ?_)
  · obtain ⟨γ, s, rfl, _⟩ := h
    rfl
  · obtain ⟨γ, s, rfl, ws, W, un, k⟩ := h
    refine ⟨_, (pss_cons (ps_if (pt_cmpR op_gt (pe_callB call_lenD (by rfl) T.len PySem.boot_len (pa_cons (pe_fld (pv 0) rfl) pa_nil)) pe_int (nomark _))
  (pss_one (ps_expr (pe_has G_settle_players (hr.mono (by decide)) rfl (pa_cons (pv 0) pa_nil)))) pss_nil)
 (pss_one (ps_fldaug (pv 0) pe_int in_add))), ?_⟩
    obtain ⟨dw, hw⟩ := ws.wo
    have hlen : (pKv γ.pa s.players).length = nL s := by
      unfold pKv
      rw [List.length_map, nL_is]
    refine q_when (b := decide (0 < nL s)) (et_is (et_test (ev_op (ev_lenD (ev_W CC (ev_var rfl) hw (worldF_players ..)) un.pd) ev_c rv_I0)) (by rw [hlen]; exact decide_eq_decide.mpr (by omega))) (fun hb H1 e1 => ?_) (fun hb H1 e1 => ?_)
    · have hpos : 0 < nL s := of_decide_eq_true hb
      refine s_dropC (vs := [.ref γ.w]) (ea_cons (ev_var rfl) ea_nil) fun H2 e2 => ?_
      have e12 := e1.trans e2
      refine ⟨γ, s, rfl, ws.mono e12, W, un.mono e12, by omega, fun H3 ws3 un3 e3 => ?_⟩
      obtain ⟨dw3, hw3⟩ := ws3.wo
      refine s_fldaug (g := fun i j => i + j) (ev_var rfl) hw3 CC.W.cl (CC.W.na _ (by decide +kernel)) (worldF_season ..) ev_c (by show 8 < 1000; decide) fun H5 e5 => ?_
      rw [worldF_putSeason]
      obtain ⟨ws6, un6⟩ := ws_own (dx := dw3) (now := (doneS s).now) (pool := (doneS s).pool) (season := (doneS s).season + 1) (next := (doneS s).next) (ws3.mono e5) (un3.mono e5)
      rw [seasonEnd_is (by omega)] at k
      exact k _ ws6 un6 ((((ExB.of e12).trans e3).ex e5).trans (ExB.upd (.inl (.inl rfl))))
    · have hz : nL s = 0 := by
        have := of_decide_eq_false hb
        omega
      refine s_fldaug (g := fun i j => i + j) (ev_var rfl) (e1 _ _ hw) CC.W.cl (CC.W.na _ (by decide +kernel)) (worldF_season ..) ev_c (by show 8 < 1000; decide) fun H5 e5 => ?_
      rw [worldF_putSeason]
      obtain ⟨ws6, un6⟩ := ws_own (dx := dw) (now := s.now) (pool := s.pool) (season := s.season + 1) (next := s.next) (ws.mono (e1.trans e5)) (un.mono (e1.trans e5))
      rw [seasonEnd_none hz] at k
      exact k _ ws6 un6 ((ExB.of (e1.trans e5)).trans (ExB.upd (.inl (.inl rfl))))
theorem season_nums {s : State} (W : Wf s) : ∀ p ∈ s.players, ∃ p' ∈ (Vbwsap.seasonEnd s).players, p'.num = p.num := fun p hp => by
  by_cases h : nL s = 0
  · rw [seasonEnd_none h]
    exact ⟨p, hp, rfl⟩
  · rw [seasonEnd_is h]
    exact ⟨newS s p, List.mem_map.mpr ⟨p, hp, rfl⟩, (newS_ok W hp).1⟩
abbrev s_call_season : Stmt := top 95
abbrev n_call_season : List Str := ["world", "reader"]
abbrev p_call_season : List Str := ["world", "reader"]
theorem sc_call_season : FnScope n_call_season p_call_season (defScope s_call_season) := ⟨rfl, rfl, rfl, by decide +kernel, rfl, by decide +kernel, by decide +kernel⟩

theorem ok_call_season (T : TxtK mg) (CC : CT K c) (D : Def K mg "call_season" s_call_season p_call_season) (G_not_the_time : Has P w K mg base 1 "not_the_time" p_not_the_time (sp_no (-3))) (G_end_season : Has P w K mg base 6 "end_season" p_end_season (sp_end_season c)) :
    Has P w K mg base 7 "call_season" p_call_season (sp_call K c (tk_non .season)) := by
  refine D.has sc_call_season (fun vs H Q E h => ?_) (fun f cdv A outer sh H vs Q E hr h => ?_)
  · obtain ⟨γ, s, rd, l, i, n, ns, x, rfl, _⟩ := h
    rfl
  · obtain ⟨γ, s, rd, l, i, n, ns, x, rfl, a, ht, k⟩ := h
    refine ⟨_, (pss_cons (ps_if (pt_cmpR op_gt (pe_callB call_lenD (by rfl) T.len PySem.boot_len (pa_cons (pe_fld (pv 0) rfl) pa_nil)) pe_int (nomark _))
  (pss_one (ps_ret (pe_has0 G_not_the_time (hr.mono (by decide)) rfl))) pss_nil)
 (pss_cons (ps_expr (pe_has G_end_season (hr.mono (by decide)) rfl (pa_cons (pv 0) pa_nil)))
 (pss_one (ps_ret (pe_lst (pa_cons pe_int (pa_cons (pe_fld (pv 0) rfl) (pa_cons (pe_fld (pv 0) rfl) pa_nil)))))))), ?_⟩
    cases ht
    have e0 : Vbwsap.step s .season = (if s.matches_.isEmpty = false then Vbwsap.no s 3 else Vbwsap.yes (Vbwsap.seasonEnd s) [((Vbwsap.seasonEnd s).season : Int), ((Vbwsap.seasonEnd s).pool : Int)]) := rfl
    rw [e0] at k
    obtain ⟨dw, hw⟩ := a.ws.wo
    refine q_when (b := !s.matches_.isEmpty) (et_is (et_test (ev_op (ev_lenD (ev_W CC (ev_var rfl) hw (worldF_matches ..)) a.un.md) ev_c rv_I0)) (by
      unfold mKv
      rw [List.length_map]
      cases s.matches_ with
      | nil => rfl
      | cons m r =>
        show decide _ = true
        apply decide_eq_true
        rw [List.length_cons]
        omega)) (fun hb H1 e1 => ?_) (fun hb H1 e1 => ?_)
    · rw [if_pos (by simpa using hb)] at k
      exact s_no (k := 3) (a.mono e1) (k.mono (.of e1)) rfl
    · have hb' : s.matches_.isEmpty = true := by
        cases hq : s.matches_.isEmpty with
        | true => rfl
        | false => rw [hq] at hb; cases hb
      rw [if_neg (by rw [hb']; exact Bool.noConfusion)] at k
      refine q_dropC (vs := [.ref γ.w]) (ea_cons (ev_var rfl) ea_nil) fun H2 e2 => ?_
      have a2 := a.mono (e1.trans e2)
      have k2 := k.mono (.of (e1.trans e2))
      refine ⟨γ, s, rfl, a2.ws, a2.W, a2.un, fun H3 ws3 un3 e3 => ?_⟩
      obtain ⟨a3, f3⟩ := a2.four e3 ws3 un3 a2.W.seasonEnd (season_nums a2.W)
      obtain ⟨dw3, hw3⟩ := ws3.wo
      refine s_retL (xs := [0, ((Vbwsap.seasonEnd s).season : Int), ((Vbwsap.seasonEnd s).pool : Int)].map V.int) (el_lst (ea_cons ev_c (ea_cons (ev_W CC (ev_var rfl) hw3 (worldF_season ..)) (ea_cons (ev_W CC (ev_var rfl) hw3 (worldF_pool ..)) ea_nil))) (by show 3 ≤ 100000; decide)) fun p H4 hp e4 h4 => ?_
      exact k2 γ p H4 rfl (a3.mono e4) (f3.trans (.of e4)) (f3.dm p hp) h4
end
end EM

namespace EM
open PySem PySem.Spec PyProof.Rows L2 Evl
open Vbwsap (Rules Player Match sumOf membersOf gap State)
/-! ### what the top has written -/
section
variable {K : PySem.W.Frag} {h : Heap} {mg : Str → Option Value}
theorem mk_numbers_of (X : K.In h) (G : h.Ns mainGlobals mg) {f : Addr} {od an : Option Addr} {sl : Array (Option Value)} {oc kV dc pm cd ct : Value} (a : PySem.W.nsIn K mainGlobals "numbers_of" = some (some (.ref f))) (l : K.lookup f = some ⟨oc, od, .func (PySem.W.fnOf "numbers_of" "numbers_of" (defArgs s_numbers_of) (defBody s_numbers_of) (defScope s_numbers_of) .none kV dc pm an cd ct), sl⟩) (c : PySem.W.codeIn K cd "numbers_of" = true) (k : PySem.W.keepIn K (.ref f) = true) : Def K mg "numbers_of" s_numbers_of p_numbers_of := ⟨f, _, fun_mk (st := s_numbers_of) l c k, PySem.W.mg_of X G a, (fun_mk (st := s_numbers_of) l c k).binds (ps := p_numbers_of) fun _ _ _ _ _ _ us hl => match us, hl with | [_], _ => rfl⟩
theorem mk_ratings_of (X : K.In h) (G : h.Ns mainGlobals mg) {f : Addr} {od an : Option Addr} {sl : Array (Option Value)} {oc kV dc pm cd ct : Value} (a : PySem.W.nsIn K mainGlobals "ratings_of" = some (some (.ref f))) (l : K.lookup f = some ⟨oc, od, .func (PySem.W.fnOf "ratings_of" "ratings_of" (defArgs s_ratings_of) (defBody s_ratings_of) (defScope s_ratings_of) .none kV dc pm an cd ct), sl⟩) (c : PySem.W.codeIn K cd "ratings_of" = true) (k : PySem.W.keepIn K (.ref f) = true) : Def K mg "ratings_of" s_ratings_of p_ratings_of := ⟨f, _, fun_mk (st := s_ratings_of) l c k, PySem.W.mg_of X G a, (fun_mk (st := s_ratings_of) l c k).binds (ps := p_ratings_of) fun _ _ _ _ _ _ us hl => match us, hl with | [_], _ => rfl⟩
theorem mk_rating_sum (X : K.In h) (G : h.Ns mainGlobals mg) {f : Addr} {od an : Option Addr} {sl : Array (Option Value)} {oc kV dc pm cd ct : Value} (a : PySem.W.nsIn K mainGlobals "rating_sum" = some (some (.ref f))) (l : K.lookup f = some ⟨oc, od, .func (PySem.W.fnOf "rating_sum" "rating_sum" (defArgs s_rating_sum) (defBody s_rating_sum) (defScope s_rating_sum) .none kV dc pm an cd ct), sl⟩) (c : PySem.W.codeIn K cd "rating_sum" = true) (k : PySem.W.keepIn K (.ref f) = true) : Def K mg "rating_sum" s_rating_sum p_rating_sum := ⟨f, _, fun_mk (st := s_rating_sum) l c k, PySem.W.mg_of X G a, (fun_mk (st := s_rating_sum) l c k).binds (ps := p_rating_sum) fun _ _ _ _ _ _ us hl => match us, hl with | [_], _ => rfl⟩
theorem mk_members_of (X : K.In h) (G : h.Ns mainGlobals mg) {f : Addr} {od an : Option Addr} {sl : Array (Option Value)} {oc kV dc pm cd ct : Value} (a : PySem.W.nsIn K mainGlobals "members_of" = some (some (.ref f))) (l : K.lookup f = some ⟨oc, od, .func (PySem.W.fnOf "members_of" "members_of" (defArgs s_members_of) (defBody s_members_of) (defScope s_members_of) .none kV dc pm an cd ct), sl⟩) (c : PySem.W.codeIn K cd "members_of" = true) (k : PySem.W.keepIn K (.ref f) = true) : Def K mg "members_of" s_members_of p_members_of := ⟨f, _, fun_mk (st := s_members_of) l c k, PySem.W.mg_of X G a, (fun_mk (st := s_members_of) l c k).binds (ps := p_members_of) fun _ _ _ _ _ _ us hl => match us, hl with | [_], _ => rfl⟩
theorem mk_parties_without (X : K.In h) (G : h.Ns mainGlobals mg) {f : Addr} {od an : Option Addr} {sl : Array (Option Value)} {oc kV dc pm cd ct : Value} (a : PySem.W.nsIn K mainGlobals "parties_without" = some (some (.ref f))) (l : K.lookup f = some ⟨oc, od, .func (PySem.W.fnOf "parties_without" "parties_without" (defArgs s_parties_without) (defBody s_parties_without) (defScope s_parties_without) .none kV dc pm an cd ct), sl⟩) (c : PySem.W.codeIn K cd "parties_without" = true) (k : PySem.W.keepIn K (.ref f) = true) : Def K mg "parties_without" s_parties_without p_parties_without := ⟨f, _, fun_mk (st := s_parties_without) l c k, PySem.W.mg_of X G a, (fun_mk (st := s_parties_without) l c k).binds (ps := p_parties_without) fun _ _ _ _ _ _ us hl => match us, hl with | [_, _], _ => rfl⟩
theorem mk_ways_to_take (X : K.In h) (G : h.Ns mainGlobals mg) {f : Addr} {od an : Option Addr} {sl : Array (Option Value)} {oc kV dc pm cd ct : Value} (a : PySem.W.nsIn K mainGlobals "ways_to_take" = some (some (.ref f))) (l : K.lookup f = some ⟨oc, od, .func (PySem.W.fnOf "ways_to_take" "ways_to_take" (defArgs s_ways_to_take) (defBody s_ways_to_take) (defScope s_ways_to_take) .none kV dc pm an cd ct), sl⟩) (c : PySem.W.codeIn K cd "ways_to_take" = true) (k : PySem.W.keepIn K (.ref f) = true) : Def K mg "ways_to_take" s_ways_to_take p_ways_to_take := ⟨f, _, fun_mk (st := s_ways_to_take) l c k, PySem.W.mg_of X G a, (fun_mk (st := s_ways_to_take) l c k).binds (ps := p_ways_to_take) fun _ _ _ _ _ _ us hl => match us, hl with | [_, _], _ => rfl⟩
theorem mk_window_of (X : K.In h) (G : h.Ns mainGlobals mg) {f : Addr} {od an : Option Addr} {sl : Array (Option Value)} {oc kV dc pm cd ct : Value} (a : PySem.W.nsIn K mainGlobals "window_of" = some (some (.ref f))) (l : K.lookup f = some ⟨oc, od, .func (PySem.W.fnOf "window_of" "window_of" (defArgs s_window_of) (defBody s_window_of) (defScope s_window_of) .none kV dc pm an cd ct), sl⟩) (c : PySem.W.codeIn K cd "window_of" = true) (k : PySem.W.keepIn K (.ref f) = true) : Def K mg "window_of" s_window_of p_window_of := ⟨f, _, fun_mk (st := s_window_of) l c k, PySem.W.mg_of X G a, (fun_mk (st := s_window_of) l c k).binds (ps := p_window_of) fun _ _ _ _ _ _ us hl => match us, hl with | [_, _], _ => rfl⟩
theorem mk_waits (X : K.In h) (G : h.Ns mainGlobals mg) {f : Addr} {od an : Option Addr} {sl : Array (Option Value)} {oc kV dc pm cd ct : Value} (a : PySem.W.nsIn K mainGlobals "waits" = some (some (.ref f))) (l : K.lookup f = some ⟨oc, od, .func (PySem.W.fnOf "waits" "waits" (defArgs s_waits) (defBody s_waits) (defScope s_waits) .none kV dc pm an cd ct), sl⟩) (c : PySem.W.codeIn K cd "waits" = true) (k : PySem.W.keepIn K (.ref f) = true) : Def K mg "waits" s_waits p_waits := ⟨f, _, fun_mk (st := s_waits) l c k, PySem.W.mg_of X G a, (fun_mk (st := s_waits) l c k).binds (ps := p_waits) fun _ _ _ _ _ _ us hl => match us, hl with | [_, _], _ => rfl⟩
theorem mk_Pairing___init__ {C : Addr} (cl : Cls K C) {f : Addr} {od an : Option Addr} {sl : Array (Option Value)} {oc kV dc pm cd ct : Value} (a : PySem.W.findIn K (.ref C) "__init__" = some (some (.ref f))) (i : PySem.W.isFn K (.ref f) = true) (l : K.lookup f = some ⟨oc, od, .func (PySem.W.fnOf "__init__" "Pairing.__init__" (defArgs s_Pairing___init__) (defBody s_Pairing___init__) (defScope s_Pairing___init__) .none kV dc pm an cd ct), sl⟩) (c : PySem.W.codeIn K cd "Pairing.__init__" = true) (k : PySem.W.keepIn K (.ref f) = true) : DefM K C "__init__" "Pairing.__init__" s_Pairing___init__ p_Pairing___init__ := ⟨⟨f, _, fun_mk (st := s_Pairing___init__) l c k, ⟨a, i, k⟩, (fun_mk (st := s_Pairing___init__) l c k).binds (ps := p_Pairing___init__) fun _ _ _ _ _ _ us hl => match us, hl with | [_, _, _, _], _ => rfl⟩, cl⟩
theorem mk_is_better (X : K.In h) (G : h.Ns mainGlobals mg) {f : Addr} {od an : Option Addr} {sl : Array (Option Value)} {oc kV dc pm cd ct : Value} (a : PySem.W.nsIn K mainGlobals "is_better" = some (some (.ref f))) (l : K.lookup f = some ⟨oc, od, .func (PySem.W.fnOf "is_better" "is_better" (defArgs s_is_better) (defBody s_is_better) (defScope s_is_better) .none kV dc pm an cd ct), sl⟩) (c : PySem.W.codeIn K cd "is_better" = true) (k : PySem.W.keepIn K (.ref f) = true) : Def K mg "is_better" s_is_better p_is_better := ⟨f, _, fun_mk (st := s_is_better) l c k, PySem.W.mg_of X G a, (fun_mk (st := s_is_better) l c k).binds (ps := p_is_better) fun _ _ _ _ _ _ us hl => match us, hl with | [_, _], _ => rfl⟩
theorem mk_rounded_up (X : K.In h) (G : h.Ns mainGlobals mg) {f : Addr} {od an : Option Addr} {sl : Array (Option Value)} {oc kV dc pm cd ct : Value} (a : PySem.W.nsIn K mainGlobals "rounded_up" = some (some (.ref f))) (l : K.lookup f = some ⟨oc, od, .func (PySem.W.fnOf "rounded_up" "rounded_up" (defArgs s_rounded_up) (defBody s_rounded_up) (defScope s_rounded_up) .none kV dc pm an cd ct), sl⟩) (c : PySem.W.codeIn K cd "rounded_up" = true) (k : PySem.W.keepIn K (.ref f) = true) : Def K mg "rounded_up" s_rounded_up p_rounded_up := ⟨f, _, fun_mk (st := s_rounded_up) l c k, PySem.W.mg_of X G a, (fun_mk (st := s_rounded_up) l c k).binds (ps := p_rounded_up) fun _ _ _ _ _ _ us hl => match us, hl with | [_, _], _ => rfl⟩
theorem mk_taken_since (X : K.In h) (G : h.Ns mainGlobals mg) {f : Addr} {od an : Option Addr} {sl : Array (Option Value)} {oc kV dc pm cd ct : Value} (a : PySem.W.nsIn K mainGlobals "taken_since" = some (some (.ref f))) (l : K.lookup f = some ⟨oc, od, .func (PySem.W.fnOf "taken_since" "taken_since" (defArgs s_taken_since) (defBody s_taken_since) (defScope s_taken_since) .none kV dc pm an cd ct), sl⟩) (c : PySem.W.codeIn K cd "taken_since" = true) (k : PySem.W.keepIn K (.ref f) = true) : Def K mg "taken_since" s_taken_since p_taken_since := ⟨f, _, fun_mk (st := s_taken_since) l c k, PySem.W.mg_of X G a, (fun_mk (st := s_taken_since) l c k).binds (ps := p_taken_since) fun _ _ _ _ _ _ us hl => match us, hl with | [_, _, _], _ => rfl⟩
theorem mk_playable_since (X : K.In h) (G : h.Ns mainGlobals mg) {f : Addr} {od an : Option Addr} {sl : Array (Option Value)} {oc kV dc pm cd ct : Value} (a : PySem.W.nsIn K mainGlobals "playable_since" = some (some (.ref f))) (l : K.lookup f = some ⟨oc, od, .func (PySem.W.fnOf "playable_since" "playable_since" (defArgs s_playable_since) (defBody s_playable_since) (defScope s_playable_since) .none kV dc pm an cd ct), sl⟩) (c : PySem.W.codeIn K cd "playable_since" = true) (k : PySem.W.keepIn K (.ref f) = true) : Def K mg "playable_since" s_playable_since p_playable_since := ⟨f, _, fun_mk (st := s_playable_since) l c k, PySem.W.mg_of X G a, (fun_mk (st := s_playable_since) l c k).binds (ps := p_playable_since) fun _ _ _ _ _ _ us hl => match us, hl with | [_, _], _ => rfl⟩
theorem mk_first_unwilling (X : K.In h) (G : h.Ns mainGlobals mg) {f : Addr} {od an : Option Addr} {sl : Array (Option Value)} {oc kV dc pm cd ct : Value} (a : PySem.W.nsIn K mainGlobals "first_unwilling" = some (some (.ref f))) (l : K.lookup f = some ⟨oc, od, .func (PySem.W.fnOf "first_unwilling" "first_unwilling" (defArgs s_first_unwilling) (defBody s_first_unwilling) (defScope s_first_unwilling) .none kV dc pm an cd ct), sl⟩) (c : PySem.W.codeIn K cd "first_unwilling" = true) (k : PySem.W.keepIn K (.ref f) = true) : Def K mg "first_unwilling" s_first_unwilling p_first_unwilling := ⟨f, _, fun_mk (st := s_first_unwilling) l c k, PySem.W.mg_of X G a, (fun_mk (st := s_first_unwilling) l c k).binds (ps := p_first_unwilling) fun _ _ _ _ _ _ us hl => match us, hl with | [_, _], _ => rfl⟩
theorem mk_pairings_of (X : K.In h) (G : h.Ns mainGlobals mg) {f : Addr} {od an : Option Addr} {sl : Array (Option Value)} {oc kV dc pm cd ct : Value} (a : PySem.W.nsIn K mainGlobals "pairings_of" = some (some (.ref f))) (l : K.lookup f = some ⟨oc, od, .func (PySem.W.fnOf "pairings_of" "pairings_of" (defArgs s_pairings_of) (defBody s_pairings_of) (defScope s_pairings_of) .none kV dc pm an cd ct), sl⟩) (c : PySem.W.codeIn K cd "pairings_of" = true) (k : PySem.W.keepIn K (.ref f) = true) : Def K mg "pairings_of" s_pairings_of p_pairings_of := ⟨f, _, fun_mk (st := s_pairings_of) l c k, PySem.W.mg_of X G a, (fun_mk (st := s_pairings_of) l c k).binds (ps := p_pairings_of) fun _ _ _ _ _ _ us hl => match us, hl with | [_, _], _ => rfl⟩
theorem mk_Match___init__ {C : Addr} (cl : Cls K C) {f : Addr} {od an : Option Addr} {sl : Array (Option Value)} {oc kV dc pm cd ct : Value} (a : PySem.W.findIn K (.ref C) "__init__" = some (some (.ref f))) (i : PySem.W.isFn K (.ref f) = true) (l : K.lookup f = some ⟨oc, od, .func (PySem.W.fnOf "__init__" "Match.__init__" (defArgs s_Match___init__) (defBody s_Match___init__) (defScope s_Match___init__) .none kV dc pm an cd ct), sl⟩) (c : PySem.W.codeIn K cd "Match.__init__" = true) (k : PySem.W.keepIn K (.ref f) = true) : DefM K C "__init__" "Match.__init__" s_Match___init__ p_Match___init__ := ⟨⟨f, _, fun_mk (st := s_Match___init__) l c k, ⟨a, i, k⟩, (fun_mk (st := s_Match___init__) l c k).binds (ps := p_Match___init__) fun _ _ _ _ _ _ us hl => match us, hl with | [_, _, _, _], _ => rfl⟩, cl⟩
theorem mk_Party___init__ {C : Addr} (cl : Cls K C) {f : Addr} {od an : Option Addr} {sl : Array (Option Value)} {oc kV dc pm cd ct : Value} (a : PySem.W.findIn K (.ref C) "__init__" = some (some (.ref f))) (i : PySem.W.isFn K (.ref f) = true) (l : K.lookup f = some ⟨oc, od, .func (PySem.W.fnOf "__init__" "Party.__init__" (defArgs s_Party___init__) (defBody s_Party___init__) (defScope s_Party___init__) .none kV dc pm an cd ct), sl⟩) (c : PySem.W.codeIn K cd "Party.__init__" = true) (k : PySem.W.keepIn K (.ref f) = true) : DefM K C "__init__" "Party.__init__" s_Party___init__ p_Party___init__ := ⟨⟨f, _, fun_mk (st := s_Party___init__) l c k, ⟨a, i, k⟩, (fun_mk (st := s_Party___init__) l c k).binds (ps := p_Party___init__) fun _ _ _ _ _ _ us hl => match us, hl with | [_, _, _, _], _ => rfl⟩, cl⟩
theorem mk_Player___init__ {C : Addr} (cl : Cls K C) {f : Addr} {od an : Option Addr} {sl : Array (Option Value)} {oc kV dc pm cd ct : Value} (a : PySem.W.findIn K (.ref C) "__init__" = some (some (.ref f))) (i : PySem.W.isFn K (.ref f) = true) (l : K.lookup f = some ⟨oc, od, .func (PySem.W.fnOf "__init__" "Player.__init__" (defArgs s_Player___init__) (defBody s_Player___init__) (defScope s_Player___init__) .none kV dc pm an cd ct), sl⟩) (c : PySem.W.codeIn K cd "Player.__init__" = true) (k : PySem.W.keepIn K (.ref f) = true) : DefM K C "__init__" "Player.__init__" s_Player___init__ p_Player___init__ := ⟨⟨f, _, fun_mk (st := s_Player___init__) l c k, ⟨a, i, k⟩, (fun_mk (st := s_Player___init__) l c k).binds (ps := p_Player___init__) fun _ _ _ _ _ _ us hl => match us, hl with | [_, _, _], _ => rfl⟩, cl⟩
theorem mk_Rules___init__ {C : Addr} (cl : Cls K C) {f : Addr} {od an : Option Addr} {sl : Array (Option Value)} {oc kV dc pm cd ct : Value} (a : PySem.W.findIn K (.ref C) "__init__" = some (some (.ref f))) (i : PySem.W.isFn K (.ref f) = true) (l : K.lookup f = some ⟨oc, od, .func (PySem.W.fnOf "__init__" "Rules.__init__" (defArgs s_Rules___init__) (defBody s_Rules___init__) (defScope s_Rules___init__) .none kV dc pm an cd ct), sl⟩) (c : PySem.W.codeIn K cd "Rules.__init__" = true) (k : PySem.W.keepIn K (.ref f) = true) : DefM K C "__init__" "Rules.__init__" s_Rules___init__ p_Rules___init__ := ⟨⟨f, _, fun_mk (st := s_Rules___init__) l c k, ⟨a, i, k⟩, (fun_mk (st := s_Rules___init__) l c k).binds (ps := p_Rules___init__) fun _ _ _ _ _ _ us hl => match us, hl with | [_, _, _, _, _, _, _], _ => rfl⟩, cl⟩
theorem mk_World_take_number {C : Addr} (cl : Cls K C) {f : Addr} {od an : Option Addr} {sl : Array (Option Value)} {oc kV dc pm cd ct : Value} (a : PySem.W.findIn K (.ref C) "take_number" = some (some (.ref f))) (i : PySem.W.isFn K (.ref f) = true) (l : K.lookup f = some ⟨oc, od, .func (PySem.W.fnOf "take_number" "World.take_number" (defArgs s_World_take_number) (defBody s_World_take_number) (defScope s_World_take_number) .none kV dc pm an cd ct), sl⟩) (c : PySem.W.codeIn K cd "World.take_number" = true) (k : PySem.W.keepIn K (.ref f) = true) : DefM K C "take_number" "World.take_number" s_World_take_number p_World_take_number := ⟨⟨f, _, fun_mk (st := s_World_take_number) l c k, ⟨a, i, k⟩, (fun_mk (st := s_World_take_number) l c k).binds (ps := p_World_take_number) fun _ _ _ _ _ _ us hl => match us, hl with | [_], _ => rfl⟩, cl⟩
theorem mk_World_start_over {C : Addr} (cl : Cls K C) {f : Addr} {od an : Option Addr} {sl : Array (Option Value)} {oc kV dc pm cd ct : Value} (a : PySem.W.findIn K (.ref C) "start_over" = some (some (.ref f))) (i : PySem.W.isFn K (.ref f) = true) (l : K.lookup f = some ⟨oc, od, .func (PySem.W.fnOf "start_over" "World.start_over" (defArgs s_World_start_over) (defBody s_World_start_over) (defScope s_World_start_over) .none kV dc pm an cd ct), sl⟩) (c : PySem.W.codeIn K cd "World.start_over" = true) (k : PySem.W.keepIn K (.ref f) = true) : DefM K C "start_over" "World.start_over" s_World_start_over p_World_start_over := ⟨⟨f, _, fun_mk (st := s_World_start_over) l c k, ⟨a, i, k⟩, (fun_mk (st := s_World_start_over) l c k).binds (ps := p_World_start_over) fun _ _ _ _ _ _ us hl => match us, hl with | [_, _], _ => rfl⟩, cl⟩
theorem mk_World___init__ {C : Addr} (cl : Cls K C) {f : Addr} {od an : Option Addr} {sl : Array (Option Value)} {oc kV dc pm cd ct : Value} (a : PySem.W.findIn K (.ref C) "__init__" = some (some (.ref f))) (i : PySem.W.isFn K (.ref f) = true) (l : K.lookup f = some ⟨oc, od, .func (PySem.W.fnOf "__init__" "World.__init__" (defArgs s_World___init__) (defBody s_World___init__) (defScope s_World___init__) .none kV dc pm an cd ct), sl⟩) (c : PySem.W.codeIn K cd "World.__init__" = true) (k : PySem.W.keepIn K (.ref f) = true) : DefM K C "__init__" "World.__init__" s_World___init__ p_World___init__ := ⟨⟨f, _, fun_mk (st := s_World___init__) l c k, ⟨a, i, k⟩, (fun_mk (st := s_World___init__) l c k).binds (ps := p_World___init__) fun _ _ _ _ _ _ us hl => match us, hl with | [_], _ => rfl⟩, cl⟩
theorem mk_Reader___init__ {C : Addr} (cl : Cls K C) {f : Addr} {od an : Option Addr} {sl : Array (Option Value)} {oc kV dc pm cd ct : Value} (a : PySem.W.findIn K (.ref C) "__init__" = some (some (.ref f))) (i : PySem.W.isFn K (.ref f) = true) (l : K.lookup f = some ⟨oc, od, .func (PySem.W.fnOf "__init__" "Reader.__init__" (defArgs s_Reader___init__) (defBody s_Reader___init__) (defScope s_Reader___init__) .none kV dc pm an cd ct), sl⟩) (c : PySem.W.codeIn K cd "Reader.__init__" = true) (k : PySem.W.keepIn K (.ref f) = true) : DefM K C "__init__" "Reader.__init__" s_Reader___init__ p_Reader___init__ := ⟨⟨f, _, fun_mk (st := s_Reader___init__) l c k, ⟨a, i, k⟩, (fun_mk (st := s_Reader___init__) l c k).binds (ps := p_Reader___init__) fun _ _ _ _ _ _ us hl => match us, hl with | [_, _], _ => rfl⟩, cl⟩
theorem mk_Reader_has_more {C : Addr} (cl : Cls K C) {f : Addr} {od an : Option Addr} {sl : Array (Option Value)} {oc kV dc pm cd ct : Value} (a : PySem.W.findIn K (.ref C) "has_more" = some (some (.ref f))) (i : PySem.W.isFn K (.ref f) = true) (l : K.lookup f = some ⟨oc, od, .func (PySem.W.fnOf "has_more" "Reader.has_more" (defArgs s_Reader_has_more) (defBody s_Reader_has_more) (defScope s_Reader_has_more) .none kV dc pm an cd ct), sl⟩) (c : PySem.W.codeIn K cd "Reader.has_more" = true) (k : PySem.W.keepIn K (.ref f) = true) : DefM K C "has_more" "Reader.has_more" s_Reader_has_more p_Reader_has_more := ⟨⟨f, _, fun_mk (st := s_Reader_has_more) l c k, ⟨a, i, k⟩, (fun_mk (st := s_Reader_has_more) l c k).binds (ps := p_Reader_has_more) fun _ _ _ _ _ _ us hl => match us, hl with | [_], _ => rfl⟩, cl⟩
theorem mk_Reader_take_whole {C : Addr} (cl : Cls K C) {f : Addr} {od an : Option Addr} {sl : Array (Option Value)} {oc kV dc pm cd ct : Value} (a : PySem.W.findIn K (.ref C) "take_whole" = some (some (.ref f))) (i : PySem.W.isFn K (.ref f) = true) (l : K.lookup f = some ⟨oc, od, .func (PySem.W.fnOf "take_whole" "Reader.take_whole" (defArgs s_Reader_take_whole) (defBody s_Reader_take_whole) (defScope s_Reader_take_whole) .none kV dc pm an cd ct), sl⟩) (c : PySem.W.codeIn K cd "Reader.take_whole" = true) (k : PySem.W.keepIn K (.ref f) = true) : DefM K C "take_whole" "Reader.take_whole" s_Reader_take_whole p_Reader_take_whole := ⟨⟨f, _, fun_mk (st := s_Reader_take_whole) l c k, ⟨a, i, k⟩, (fun_mk (st := s_Reader_take_whole) l c k).binds (ps := p_Reader_take_whole) fun _ _ _ _ _ _ us hl => match us, hl with | [_], _ => rfl⟩, cl⟩
theorem mk_Reader_take_row {C : Addr} (cl : Cls K C) {f : Addr} {od an : Option Addr} {sl : Array (Option Value)} {oc kV dc pm cd ct : Value} (a : PySem.W.findIn K (.ref C) "take_row" = some (some (.ref f))) (i : PySem.W.isFn K (.ref f) = true) (l : K.lookup f = some ⟨oc, od, .func (PySem.W.fnOf "take_row" "Reader.take_row" (defArgs s_Reader_take_row) (defBody s_Reader_take_row) (defScope s_Reader_take_row) .none kV dc pm an cd ct), sl⟩) (c : PySem.W.codeIn K cd "Reader.take_row" = true) (k : PySem.W.keepIn K (.ref f) = true) : DefM K C "take_row" "Reader.take_row" s_Reader_take_row p_Reader_take_row := ⟨⟨f, _, fun_mk (st := s_Reader_take_row) l c k, ⟨a, i, k⟩, (fun_mk (st := s_Reader_take_row) l c k).binds (ps := p_Reader_take_row) fun _ _ _ _ _ _ us hl => match us, hl with | [_], _ => rfl⟩, cl⟩
theorem mk_best_match (X : K.In h) (G : h.Ns mainGlobals mg) {f : Addr} {od an : Option Addr} {sl : Array (Option Value)} {oc kV dc pm cd ct : Value} (a : PySem.W.nsIn K mainGlobals "best_match" = some (some (.ref f))) (l : K.lookup f = some ⟨oc, od, .func (PySem.W.fnOf "best_match" "best_match" (defArgs s_best_match) (defBody s_best_match) (defScope s_best_match) .none kV dc pm an cd ct), sl⟩) (c : PySem.W.codeIn K cd "best_match" = true) (k : PySem.W.keepIn K (.ref f) = true) : Def K mg "best_match" s_best_match p_best_match := ⟨f, _, fun_mk (st := s_best_match) l c k, PySem.W.mg_of X G a, (fun_mk (st := s_best_match) l c k).binds (ps := p_best_match) fun _ _ _ _ _ _ us hl => match us, hl with | [_, _], _ => rfl⟩
theorem mk_match_in_turn (X : K.In h) (G : h.Ns mainGlobals mg) {f : Addr} {od an : Option Addr} {sl : Array (Option Value)} {oc kV dc pm cd ct : Value} (a : PySem.W.nsIn K mainGlobals "match_in_turn" = some (some (.ref f))) (l : K.lookup f = some ⟨oc, od, .func (PySem.W.fnOf "match_in_turn" "match_in_turn" (defArgs s_match_in_turn) (defBody s_match_in_turn) (defScope s_match_in_turn) .none kV dc pm an cd ct), sl⟩) (c : PySem.W.codeIn K cd "match_in_turn" = true) (k : PySem.W.keepIn K (.ref f) = true) : Def K mg "match_in_turn" s_match_in_turn p_match_in_turn := ⟨f, _, fun_mk (st := s_match_in_turn) l c k, PySem.W.mg_of X G a, (fun_mk (st := s_match_in_turn) l c k).binds (ps := p_match_in_turn) fun _ _ _ _ _ _ us hl => match us, hl with | [_], _ => rfl⟩
theorem mk_begin_match (X : K.In h) (G : h.Ns mainGlobals mg) {f : Addr} {od an : Option Addr} {sl : Array (Option Value)} {oc kV dc pm cd ct : Value} (a : PySem.W.nsIn K mainGlobals "begin_match" = some (some (.ref f))) (l : K.lookup f = some ⟨oc, od, .func (PySem.W.fnOf "begin_match" "begin_match" (defArgs s_begin_match) (defBody s_begin_match) (defScope s_begin_match) .none kV dc pm an cd ct), sl⟩) (c : PySem.W.codeIn K cd "begin_match" = true) (k : PySem.W.keepIn K (.ref f) = true) : Def K mg "begin_match" s_begin_match p_begin_match := ⟨f, _, fun_mk (st := s_begin_match) l c k, PySem.W.mg_of X G a, (fun_mk (st := s_begin_match) l c k).binds (ps := p_begin_match) fun _ _ _ _ _ _ us hl => match us, hl with | [_, _], _ => rfl⟩
theorem mk_make_matches (X : K.In h) (G : h.Ns mainGlobals mg) {f : Addr} {od an : Option Addr} {sl : Array (Option Value)} {oc kV dc pm cd ct : Value} (a : PySem.W.nsIn K mainGlobals "make_matches" = some (some (.ref f))) (l : K.lookup f = some ⟨oc, od, .func (PySem.W.fnOf "make_matches" "make_matches" (defArgs s_make_matches) (defBody s_make_matches) (defScope s_make_matches) .none kV dc pm an cd ct), sl⟩) (c : PySem.W.codeIn K cd "make_matches" = true) (k : PySem.W.keepIn K (.ref f) = true) : Def K mg "make_matches" s_make_matches p_make_matches := ⟨f, _, fun_mk (st := s_make_matches) l c k, PySem.W.mg_of X G a, (fun_mk (st := s_make_matches) l c k).binds (ps := p_make_matches) fun _ _ _ _ _ _ us hl => match us, hl with | [_], _ => rfl⟩
theorem mk_next_play (X : K.In h) (G : h.Ns mainGlobals mg) {f : Addr} {od an : Option Addr} {sl : Array (Option Value)} {oc kV dc pm cd ct : Value} (a : PySem.W.nsIn K mainGlobals "next_play" = some (some (.ref f))) (l : K.lookup f = some ⟨oc, od, .func (PySem.W.fnOf "next_play" "next_play" (defArgs s_next_play) (defBody s_next_play) (defScope s_next_play) .none kV dc pm an cd ct), sl⟩) (c : PySem.W.codeIn K cd "next_play" = true) (k : PySem.W.keepIn K (.ref f) = true) : Def K mg "next_play" s_next_play p_next_play := ⟨f, _, fun_mk (st := s_next_play) l c k, PySem.W.mg_of X G a, (fun_mk (st := s_next_play) l c k).binds (ps := p_next_play) fun _ _ _ _ _ _ us hl => match us, hl with | [_], _ => rfl⟩
theorem mk_let_ticks_go_by (X : K.In h) (G : h.Ns mainGlobals mg) {f : Addr} {od an : Option Addr} {sl : Array (Option Value)} {oc kV dc pm cd ct : Value} (a : PySem.W.nsIn K mainGlobals "let_ticks_go_by" = some (some (.ref f))) (l : K.lookup f = some ⟨oc, od, .func (PySem.W.fnOf "let_ticks_go_by" "let_ticks_go_by" (defArgs s_let_ticks_go_by) (defBody s_let_ticks_go_by) (defScope s_let_ticks_go_by) .none kV dc pm an cd ct), sl⟩) (c : PySem.W.codeIn K cd "let_ticks_go_by" = true) (k : PySem.W.keepIn K (.ref f) = true) : Def K mg "let_ticks_go_by" s_let_ticks_go_by p_let_ticks_go_by := ⟨f, _, fun_mk (st := s_let_ticks_go_by) l c k, PySem.W.mg_of X G a, (fun_mk (st := s_let_ticks_go_by) l c k).binds (ps := p_let_ticks_go_by) fun _ _ _ _ _ _ us hl => match us, hl with | [_, _], _ => rfl⟩
theorem mk_out_of_range (X : K.In h) (G : h.Ns mainGlobals mg) {f : Addr} {od an : Option Addr} {sl : Array (Option Value)} {oc kV dc pm cd ct : Value} (a : PySem.W.nsIn K mainGlobals "out_of_range" = some (some (.ref f))) (l : K.lookup f = some ⟨oc, od, .func (PySem.W.fnOf "out_of_range" "out_of_range" (defArgs s_out_of_range) (defBody s_out_of_range) (defScope s_out_of_range) .none kV dc pm an cd ct), sl⟩) (c : PySem.W.codeIn K cd "out_of_range" = true) (k : PySem.W.keepIn K (.ref f) = true) : Def K mg "out_of_range" s_out_of_range p_out_of_range := ⟨f, _, fun_mk (st := s_out_of_range) l c k, PySem.W.mg_of X G a, (fun_mk (st := s_out_of_range) l c k).binds (ps := p_out_of_range) fun _ _ _ _ _ _ us hl => match us, hl with | [], _ => rfl⟩
theorem mk_none_of_that_number (X : K.In h) (G : h.Ns mainGlobals mg) {f : Addr} {od an : Option Addr} {sl : Array (Option Value)} {oc kV dc pm cd ct : Value} (a : PySem.W.nsIn K mainGlobals "none_of_that_number" = some (some (.ref f))) (l : K.lookup f = some ⟨oc, od, .func (PySem.W.fnOf "none_of_that_number" "none_of_that_number" (defArgs s_none_of_that_number) (defBody s_none_of_that_number) (defScope s_none_of_that_number) .none kV dc pm an cd ct), sl⟩) (c : PySem.W.codeIn K cd "none_of_that_number" = true) (k : PySem.W.keepIn K (.ref f) = true) : Def K mg "none_of_that_number" s_none_of_that_number p_none_of_that_number := ⟨f, _, fun_mk (st := s_none_of_that_number) l c k, PySem.W.mg_of X G a, (fun_mk (st := s_none_of_that_number) l c k).binds (ps := p_none_of_that_number) fun _ _ _ _ _ _ us hl => match us, hl with | [], _ => rfl⟩
theorem mk_not_the_time (X : K.In h) (G : h.Ns mainGlobals mg) {f : Addr} {od an : Option Addr} {sl : Array (Option Value)} {oc kV dc pm cd ct : Value} (a : PySem.W.nsIn K mainGlobals "not_the_time" = some (some (.ref f))) (l : K.lookup f = some ⟨oc, od, .func (PySem.W.fnOf "not_the_time" "not_the_time" (defArgs s_not_the_time) (defBody s_not_the_time) (defScope s_not_the_time) .none kV dc pm an cd ct), sl⟩) (c : PySem.W.codeIn K cd "not_the_time" = true) (k : PySem.W.keepIn K (.ref f) = true) : Def K mg "not_the_time" s_not_the_time p_not_the_time := ⟨f, _, fun_mk (st := s_not_the_time) l c k, PySem.W.mg_of X G a, (fun_mk (st := s_not_the_time) l c k).binds (ps := p_not_the_time) fun _ _ _ _ _ _ us hl => match us, hl with | [], _ => rfl⟩
theorem mk_not_so (X : K.In h) (G : h.Ns mainGlobals mg) {f : Addr} {od an : Option Addr} {sl : Array (Option Value)} {oc kV dc pm cd ct : Value} (a : PySem.W.nsIn K mainGlobals "not_so" = some (some (.ref f))) (l : K.lookup f = some ⟨oc, od, .func (PySem.W.fnOf "not_so" "not_so" (defArgs s_not_so) (defBody s_not_so) (defScope s_not_so) .none kV dc pm an cd ct), sl⟩) (c : PySem.W.codeIn K cd "not_so" = true) (k : PySem.W.keepIn K (.ref f) = true) : Def K mg "not_so" s_not_so p_not_so := ⟨f, _, fun_mk (st := s_not_so) l c k, PySem.W.mg_of X G a, (fun_mk (st := s_not_so) l c k).binds (ps := p_not_so) fun _ _ _ _ _ _ us hl => match us, hl with | [], _ => rfl⟩
theorem mk_no_place (X : K.In h) (G : h.Ns mainGlobals mg) {f : Addr} {od an : Option Addr} {sl : Array (Option Value)} {oc kV dc pm cd ct : Value} (a : PySem.W.nsIn K mainGlobals "no_place" = some (some (.ref f))) (l : K.lookup f = some ⟨oc, od, .func (PySem.W.fnOf "no_place" "no_place" (defArgs s_no_place) (defBody s_no_place) (defScope s_no_place) .none kV dc pm an cd ct), sl⟩) (c : PySem.W.codeIn K cd "no_place" = true) (k : PySem.W.keepIn K (.ref f) = true) : Def K mg "no_place" s_no_place p_no_place := ⟨f, _, fun_mk (st := s_no_place) l c k, PySem.W.mg_of X G a, (fun_mk (st := s_no_place) l c k).binds (ps := p_no_place) fun _ _ _ _ _ _ us hl => match us, hl with | [], _ => rfl⟩
theorem mk_within (X : K.In h) (G : h.Ns mainGlobals mg) {f : Addr} {od an : Option Addr} {sl : Array (Option Value)} {oc kV dc pm cd ct : Value} (a : PySem.W.nsIn K mainGlobals "within" = some (some (.ref f))) (l : K.lookup f = some ⟨oc, od, .func (PySem.W.fnOf "within" "within" (defArgs s_within) (defBody s_within) (defScope s_within) .none kV dc pm an cd ct), sl⟩) (c : PySem.W.codeIn K cd "within" = true) (k : PySem.W.keepIn K (.ref f) = true) : Def K mg "within" s_within p_within := ⟨f, _, fun_mk (st := s_within) l c k, PySem.W.mg_of X G a, (fun_mk (st := s_within) l c k).binds (ps := p_within) fun _ _ _ _ _ _ us hl => match us, hl with | [_, _, _], _ => rfl⟩
theorem mk_are_rules (X : K.In h) (G : h.Ns mainGlobals mg) {f : Addr} {od an : Option Addr} {sl : Array (Option Value)} {oc kV dc pm cd ct : Value} (a : PySem.W.nsIn K mainGlobals "are_rules" = some (some (.ref f))) (l : K.lookup f = some ⟨oc, od, .func (PySem.W.fnOf "are_rules" "are_rules" (defArgs s_are_rules) (defBody s_are_rules) (defScope s_are_rules) .none kV dc pm an cd ct), sl⟩) (c : PySem.W.codeIn K cd "are_rules" = true) (k : PySem.W.keepIn K (.ref f) = true) : Def K mg "are_rules" s_are_rules p_are_rules := ⟨f, _, fun_mk (st := s_are_rules) l c k, PySem.W.mg_of X G a, (fun_mk (st := s_are_rules) l c k).binds (ps := p_are_rules) fun _ _ _ _ _ _ us hl => match us, hl with | [_], _ => rfl⟩
theorem mk_call_begin (X : K.In h) (G : h.Ns mainGlobals mg) {f : Addr} {od an : Option Addr} {sl : Array (Option Value)} {oc kV dc pm cd ct : Value} (a : PySem.W.nsIn K mainGlobals "call_begin" = some (some (.ref f))) (l : K.lookup f = some ⟨oc, od, .func (PySem.W.fnOf "call_begin" "call_begin" (defArgs s_call_begin) (defBody s_call_begin) (defScope s_call_begin) .none kV dc pm an cd ct), sl⟩) (c : PySem.W.codeIn K cd "call_begin" = true) (k : PySem.W.keepIn K (.ref f) = true) : Def K mg "call_begin" s_call_begin p_call_begin := ⟨f, _, fun_mk (st := s_call_begin) l c k, PySem.W.mg_of X G a, (fun_mk (st := s_call_begin) l c k).binds (ps := p_call_begin) fun _ _ _ _ _ _ us hl => match us, hl with | [_, _], _ => rfl⟩
theorem mk_call_player (X : K.In h) (G : h.Ns mainGlobals mg) {f : Addr} {od an : Option Addr} {sl : Array (Option Value)} {oc kV dc pm cd ct : Value} (a : PySem.W.nsIn K mainGlobals "call_player" = some (some (.ref f))) (l : K.lookup f = some ⟨oc, od, .func (PySem.W.fnOf "call_player" "call_player" (defArgs s_call_player) (defBody s_call_player) (defScope s_call_player) .none kV dc pm an cd ct), sl⟩) (c : PySem.W.codeIn K cd "call_player" = true) (k : PySem.W.keepIn K (.ref f) = true) : Def K mg "call_player" s_call_player p_call_player := ⟨f, _, fun_mk (st := s_call_player) l c k, PySem.W.mg_of X G a, (fun_mk (st := s_call_player) l c k).binds (ps := p_call_player) fun _ _ _ _ _ _ us hl => match us, hl with | [_, _], _ => rfl⟩
theorem mk_call_unqueue (X : K.In h) (G : h.Ns mainGlobals mg) {f : Addr} {od an : Option Addr} {sl : Array (Option Value)} {oc kV dc pm cd ct : Value} (a : PySem.W.nsIn K mainGlobals "call_unqueue" = some (some (.ref f))) (l : K.lookup f = some ⟨oc, od, .func (PySem.W.fnOf "call_unqueue" "call_unqueue" (defArgs s_call_unqueue) (defBody s_call_unqueue) (defScope s_call_unqueue) .none kV dc pm an cd ct), sl⟩) (c : PySem.W.codeIn K cd "call_unqueue" = true) (k : PySem.W.keepIn K (.ref f) = true) : Def K mg "call_unqueue" s_call_unqueue p_call_unqueue := ⟨f, _, fun_mk (st := s_call_unqueue) l c k, PySem.W.mg_of X G a, (fun_mk (st := s_call_unqueue) l c k).binds (ps := p_call_unqueue) fun _ _ _ _ _ _ us hl => match us, hl with | [_, _], _ => rfl⟩
theorem mk_shown_matches (X : K.In h) (G : h.Ns mainGlobals mg) {f : Addr} {od an : Option Addr} {sl : Array (Option Value)} {oc kV dc pm cd ct : Value} (a : PySem.W.nsIn K mainGlobals "shown_matches" = some (some (.ref f))) (l : K.lookup f = some ⟨oc, od, .func (PySem.W.fnOf "shown_matches" "shown_matches" (defArgs s_shown_matches) (defBody s_shown_matches) (defScope s_shown_matches) .none kV dc pm an cd ct), sl⟩) (c : PySem.W.codeIn K cd "shown_matches" = true) (k : PySem.W.keepIn K (.ref f) = true) : Def K mg "shown_matches" s_shown_matches p_shown_matches := ⟨f, _, fun_mk (st := s_shown_matches) l c k, PySem.W.mg_of X G a, (fun_mk (st := s_shown_matches) l c k).binds (ps := p_shown_matches) fun _ _ _ _ _ _ us hl => match us, hl with | [_], _ => rfl⟩
theorem mk_call_tick (X : K.In h) (G : h.Ns mainGlobals mg) {f : Addr} {od an : Option Addr} {sl : Array (Option Value)} {oc kV dc pm cd ct : Value} (a : PySem.W.nsIn K mainGlobals "call_tick" = some (some (.ref f))) (l : K.lookup f = some ⟨oc, od, .func (PySem.W.fnOf "call_tick" "call_tick" (defArgs s_call_tick) (defBody s_call_tick) (defScope s_call_tick) .none kV dc pm an cd ct), sl⟩) (c : PySem.W.codeIn K cd "call_tick" = true) (k : PySem.W.keepIn K (.ref f) = true) : Def K mg "call_tick" s_call_tick p_call_tick := ⟨f, _, fun_mk (st := s_call_tick) l c k, PySem.W.mg_of X G a, (fun_mk (st := s_call_tick) l c k).binds (ps := p_call_tick) fun _ _ _ _ _ _ us hl => match us, hl with | [_, _], _ => rfl⟩
theorem mk_far_of (X : K.In h) (G : h.Ns mainGlobals mg) {f : Addr} {od an : Option Addr} {sl : Array (Option Value)} {oc kV dc pm cd ct : Value} (a : PySem.W.nsIn K mainGlobals "far_of" = some (some (.ref f))) (l : K.lookup f = some ⟨oc, od, .func (PySem.W.fnOf "far_of" "far_of" (defArgs s_far_of) (defBody s_far_of) (defScope s_far_of) .none kV dc pm an cd ct), sl⟩) (c : PySem.W.codeIn K cd "far_of" = true) (k : PySem.W.keepIn K (.ref f) = true) : Def K mg "far_of" s_far_of p_far_of := ⟨f, _, fun_mk (st := s_far_of) l c k, PySem.W.mg_of X G a, (fun_mk (st := s_far_of) l c k).binds (ps := p_far_of) fun _ _ _ _ _ _ us hl => match us, hl with | [_], _ => rfl⟩
theorem mk_expected (X : K.In h) (G : h.Ns mainGlobals mg) {f : Addr} {od an : Option Addr} {sl : Array (Option Value)} {oc kV dc pm cd ct : Value} (a : PySem.W.nsIn K mainGlobals "expected" = some (some (.ref f))) (l : K.lookup f = some ⟨oc, od, .func (PySem.W.fnOf "expected" "expected" (defArgs s_expected) (defBody s_expected) (defScope s_expected) .none kV dc pm an cd ct), sl⟩) (c : PySem.W.codeIn K cd "expected" = true) (k : PySem.W.keepIn K (.ref f) = true) : Def K mg "expected" s_expected p_expected := ⟨f, _, fun_mk (st := s_expected) l c k, PySem.W.mg_of X G a, (fun_mk (st := s_expected) l c k).binds (ps := p_expected) fun _ _ _ _ _ _ us hl => match us, hl with | [_, _, _], _ => rfl⟩
theorem mk_free_move (X : K.In h) (G : h.Ns mainGlobals mg) {f : Addr} {od an : Option Addr} {sl : Array (Option Value)} {oc kV dc pm cd ct : Value} (a : PySem.W.nsIn K mainGlobals "free_move" = some (some (.ref f))) (l : K.lookup f = some ⟨oc, od, .func (PySem.W.fnOf "free_move" "free_move" (defArgs s_free_move) (defBody s_free_move) (defScope s_free_move) .none kV dc pm an cd ct), sl⟩) (c : PySem.W.codeIn K cd "free_move" = true) (k : PySem.W.keepIn K (.ref f) = true) : Def K mg "free_move" s_free_move p_free_move := ⟨f, _, fun_mk (st := s_free_move) l c k, PySem.W.mg_of X G a, (fun_mk (st := s_free_move) l c k).binds (ps := p_free_move) fun _ _ _ _ _ _ us hl => match us, hl with | [_, _, _, _], _ => rfl⟩
theorem mk_held_move (X : K.In h) (G : h.Ns mainGlobals mg) {f : Addr} {od an : Option Addr} {sl : Array (Option Value)} {oc kV dc pm cd ct : Value} (a : PySem.W.nsIn K mainGlobals "held_move" = some (some (.ref f))) (l : K.lookup f = some ⟨oc, od, .func (PySem.W.fnOf "held_move" "held_move" (defArgs s_held_move) (defBody s_held_move) (defScope s_held_move) .none kV dc pm an cd ct), sl⟩) (c : PySem.W.codeIn K cd "held_move" = true) (k : PySem.W.keepIn K (.ref f) = true) : Def K mg "held_move" s_held_move p_held_move := ⟨f, _, fun_mk (st := s_held_move) l c k, PySem.W.mg_of X G a, (fun_mk (st := s_held_move) l c k).binds (ps := p_held_move) fun _ _ _ _ _ _ us hl => match us, hl with | [_, _, _, _], _ => rfl⟩
theorem mk_play_out (X : K.In h) (G : h.Ns mainGlobals mg) {f : Addr} {od an : Option Addr} {sl : Array (Option Value)} {oc kV dc pm cd ct : Value} (a : PySem.W.nsIn K mainGlobals "play_out" = some (some (.ref f))) (l : K.lookup f = some ⟨oc, od, .func (PySem.W.fnOf "play_out" "play_out" (defArgs s_play_out) (defBody s_play_out) (defScope s_play_out) .none kV dc pm an cd ct), sl⟩) (c : PySem.W.codeIn K cd "play_out" = true) (k : PySem.W.keepIn K (.ref f) = true) : Def K mg "play_out" s_play_out p_play_out := ⟨f, _, fun_mk (st := s_play_out) l c k, PySem.W.mg_of X G a, (fun_mk (st := s_play_out) l c k).binds (ps := p_play_out) fun _ _ _ _ _ _ us hl => match us, hl with | [_, _, _], _ => rfl⟩
theorem mk_end_match (X : K.In h) (G : h.Ns mainGlobals mg) {f : Addr} {od an : Option Addr} {sl : Array (Option Value)} {oc kV dc pm cd ct : Value} (a : PySem.W.nsIn K mainGlobals "end_match" = some (some (.ref f))) (l : K.lookup f = some ⟨oc, od, .func (PySem.W.fnOf "end_match" "end_match" (defArgs s_end_match) (defBody s_end_match) (defScope s_end_match) .none kV dc pm an cd ct), sl⟩) (c : PySem.W.codeIn K cd "end_match" = true) (k : PySem.W.keepIn K (.ref f) = true) : Def K mg "end_match" s_end_match p_end_match := ⟨f, _, fun_mk (st := s_end_match) l c k, PySem.W.mg_of X G a, (fun_mk (st := s_end_match) l c k).binds (ps := p_end_match) fun _ _ _ _ _ _ us hl => match us, hl with | [_, _, _], _ => rfl⟩
theorem mk_loss_of (X : K.In h) (G : h.Ns mainGlobals mg) {f : Addr} {od an : Option Addr} {sl : Array (Option Value)} {oc kV dc pm cd ct : Value} (a : PySem.W.nsIn K mainGlobals "loss_of" = some (some (.ref f))) (l : K.lookup f = some ⟨oc, od, .func (PySem.W.fnOf "loss_of" "loss_of" (defArgs s_loss_of) (defBody s_loss_of) (defScope s_loss_of) .none kV dc pm an cd ct), sl⟩) (c : PySem.W.codeIn K cd "loss_of" = true) (k : PySem.W.keepIn K (.ref f) = true) : Def K mg "loss_of" s_loss_of p_loss_of := ⟨f, _, fun_mk (st := s_loss_of) l c k, PySem.W.mg_of X G a, (fun_mk (st := s_loss_of) l c k).binds (ps := p_loss_of) fun _ _ _ _ _ _ us hl => match us, hl with | [_, _], _ => rfl⟩
theorem mk_pay_fine (X : K.In h) (G : h.Ns mainGlobals mg) {f : Addr} {od an : Option Addr} {sl : Array (Option Value)} {oc kV dc pm cd ct : Value} (a : PySem.W.nsIn K mainGlobals "pay_fine" = some (some (.ref f))) (l : K.lookup f = some ⟨oc, od, .func (PySem.W.fnOf "pay_fine" "pay_fine" (defArgs s_pay_fine) (defBody s_pay_fine) (defScope s_pay_fine) .none kV dc pm an cd ct), sl⟩) (c : PySem.W.codeIn K cd "pay_fine" = true) (k : PySem.W.keepIn K (.ref f) = true) : Def K mg "pay_fine" s_pay_fine p_pay_fine := ⟨f, _, fun_mk (st := s_pay_fine) l c k, PySem.W.mg_of X G a, (fun_mk (st := s_pay_fine) l c k).binds (ps := p_pay_fine) fun _ _ _ _ _ _ us hl => match us, hl with | [_, _], _ => rfl⟩
theorem mk_call_result (X : K.In h) (G : h.Ns mainGlobals mg) {f : Addr} {od an : Option Addr} {sl : Array (Option Value)} {oc kV dc pm cd ct : Value} (a : PySem.W.nsIn K mainGlobals "call_result" = some (some (.ref f))) (l : K.lookup f = some ⟨oc, od, .func (PySem.W.fnOf "call_result" "call_result" (defArgs s_call_result) (defBody s_call_result) (defScope s_call_result) .none kV dc pm an cd ct), sl⟩) (c : PySem.W.codeIn K cd "call_result" = true) (k : PySem.W.keepIn K (.ref f) = true) : Def K mg "call_result" s_call_result p_call_result := ⟨f, _, fun_mk (st := s_call_result) l c k, PySem.W.mg_of X G a, (fun_mk (st := s_call_result) l c k).binds (ps := p_call_result) fun _ _ _ _ _ _ us hl => match us, hl with | [_, _], _ => rfl⟩
theorem mk_call_leave (X : K.In h) (G : h.Ns mainGlobals mg) {f : Addr} {od an : Option Addr} {sl : Array (Option Value)} {oc kV dc pm cd ct : Value} (a : PySem.W.nsIn K mainGlobals "call_leave" = some (some (.ref f))) (l : K.lookup f = some ⟨oc, od, .func (PySem.W.fnOf "call_leave" "call_leave" (defArgs s_call_leave) (defBody s_call_leave) (defScope s_call_leave) .none kV dc pm an cd ct), sl⟩) (c : PySem.W.codeIn K cd "call_leave" = true) (k : PySem.W.keepIn K (.ref f) = true) : Def K mg "call_leave" s_call_leave p_call_leave := ⟨f, _, fun_mk (st := s_call_leave) l c k, PySem.W.mg_of X G a, (fun_mk (st := s_call_leave) l c k).binds (ps := p_call_leave) fun _ _ _ _ _ _ us hl => match us, hl with | [_, _], _ => rfl⟩
theorem mk_plays (X : K.In h) (G : h.Ns mainGlobals mg) {f : Addr} {od an : Option Addr} {sl : Array (Option Value)} {oc kV dc pm cd ct : Value} (a : PySem.W.nsIn K mainGlobals "plays" = some (some (.ref f))) (l : K.lookup f = some ⟨oc, od, .func (PySem.W.fnOf "plays" "plays" (defArgs s_plays) (defBody s_plays) (defScope s_plays) .none kV dc pm an cd ct), sl⟩) (c : PySem.W.codeIn K cd "plays" = true) (k : PySem.W.keepIn K (.ref f) = true) : Def K mg "plays" s_plays p_plays := ⟨f, _, fun_mk (st := s_plays) l c k, PySem.W.mg_of X G a, (fun_mk (st := s_plays) l c k).binds (ps := p_plays) fun _ _ _ _ _ _ us hl => match us, hl with | [_, _], _ => rfl⟩
theorem mk_whereabouts (X : K.In h) (G : h.Ns mainGlobals mg) {f : Addr} {od an : Option Addr} {sl : Array (Option Value)} {oc kV dc pm cd ct : Value} (a : PySem.W.nsIn K mainGlobals "whereabouts" = some (some (.ref f))) (l : K.lookup f = some ⟨oc, od, .func (PySem.W.fnOf "whereabouts" "whereabouts" (defArgs s_whereabouts) (defBody s_whereabouts) (defScope s_whereabouts) .none kV dc pm an cd ct), sl⟩) (c : PySem.W.codeIn K cd "whereabouts" = true) (k : PySem.W.keepIn K (.ref f) = true) : Def K mg "whereabouts" s_whereabouts p_whereabouts := ⟨f, _, fun_mk (st := s_whereabouts) l c k, PySem.W.mg_of X G a, (fun_mk (st := s_whereabouts) l c k).binds (ps := p_whereabouts) fun _ _ _ _ _ _ us hl => match us, hl with | [_, _], _ => rfl⟩
theorem mk_call_rating (X : K.In h) (G : h.Ns mainGlobals mg) {f : Addr} {od an : Option Addr} {sl : Array (Option Value)} {oc kV dc pm cd ct : Value} (a : PySem.W.nsIn K mainGlobals "call_rating" = some (some (.ref f))) (l : K.lookup f = some ⟨oc, od, .func (PySem.W.fnOf "call_rating" "call_rating" (defArgs s_call_rating) (defBody s_call_rating) (defScope s_call_rating) .none kV dc pm an cd ct), sl⟩) (c : PySem.W.codeIn K cd "call_rating" = true) (k : PySem.W.keepIn K (.ref f) = true) : Def K mg "call_rating" s_call_rating p_call_rating := ⟨f, _, fun_mk (st := s_call_rating) l c k, PySem.W.mg_of X G a, (fun_mk (st := s_call_rating) l c k).binds (ps := p_call_rating) fun _ _ _ _ _ _ us hl => match us, hl with | [_, _], _ => rfl⟩
theorem mk_ladder_place (X : K.In h) (G : h.Ns mainGlobals mg) {f : Addr} {od an : Option Addr} {sl : Array (Option Value)} {oc kV dc pm cd ct : Value} (a : PySem.W.nsIn K mainGlobals "ladder_place" = some (some (.ref f))) (l : K.lookup f = some ⟨oc, od, .func (PySem.W.fnOf "ladder_place" "ladder_place" (defArgs s_ladder_place) (defBody s_ladder_place) (defScope s_ladder_place) .none kV dc pm an cd ct), sl⟩) (c : PySem.W.codeIn K cd "ladder_place" = true) (k : PySem.W.keepIn K (.ref f) = true) : Def K mg "ladder_place" s_ladder_place p_ladder_place := ⟨f, _, fun_mk (st := s_ladder_place) l c k, PySem.W.mg_of X G a, (fun_mk (st := s_ladder_place) l c k).binds (ps := p_ladder_place) fun _ _ _ _ _ _ us hl => match us, hl with | [_], _ => rfl⟩
theorem mk_ladder_of (X : K.In h) (G : h.Ns mainGlobals mg) {f : Addr} {od an : Option Addr} {sl : Array (Option Value)} {oc kV dc pm cd ct : Value} (a : PySem.W.nsIn K mainGlobals "ladder_of" = some (some (.ref f))) (l : K.lookup f = some ⟨oc, od, .func (PySem.W.fnOf "ladder_of" "ladder_of" (defArgs s_ladder_of) (defBody s_ladder_of) (defScope s_ladder_of) .none kV dc pm an cd ct), sl⟩) (c : PySem.W.codeIn K cd "ladder_of" = true) (k : PySem.W.keepIn K (.ref f) = true) : Def K mg "ladder_of" s_ladder_of p_ladder_of := ⟨f, _, fun_mk (st := s_ladder_of) l c k, PySem.W.mg_of X G a, (fun_mk (st := s_ladder_of) l c k).binds (ps := p_ladder_of) fun _ _ _ _ _ _ us hl => match us, hl with | [_], _ => rfl⟩
theorem mk_call_ladder (X : K.In h) (G : h.Ns mainGlobals mg) {f : Addr} {od an : Option Addr} {sl : Array (Option Value)} {oc kV dc pm cd ct : Value} (a : PySem.W.nsIn K mainGlobals "call_ladder" = some (some (.ref f))) (l : K.lookup f = some ⟨oc, od, .func (PySem.W.fnOf "call_ladder" "call_ladder" (defArgs s_call_ladder) (defBody s_call_ladder) (defScope s_call_ladder) .none kV dc pm an cd ct), sl⟩) (c : PySem.W.codeIn K cd "call_ladder" = true) (k : PySem.W.keepIn K (.ref f) = true) : Def K mg "call_ladder" s_call_ladder p_call_ladder := ⟨f, _, fun_mk (st := s_call_ladder) l c k, PySem.W.mg_of X G a, (fun_mk (st := s_call_ladder) l c k).binds (ps := p_call_ladder) fun _ _ _ _ _ _ us hl => match us, hl with | [_, _], _ => rfl⟩
theorem mk_call_entries (X : K.In h) (G : h.Ns mainGlobals mg) {f : Addr} {od an : Option Addr} {sl : Array (Option Value)} {oc kV dc pm cd ct : Value} (a : PySem.W.nsIn K mainGlobals "call_entries" = some (some (.ref f))) (l : K.lookup f = some ⟨oc, od, .func (PySem.W.fnOf "call_entries" "call_entries" (defArgs s_call_entries) (defBody s_call_entries) (defScope s_call_entries) .none kV dc pm an cd ct), sl⟩) (c : PySem.W.codeIn K cd "call_entries" = true) (k : PySem.W.keepIn K (.ref f) = true) : Def K mg "call_entries" s_call_entries p_call_entries := ⟨f, _, fun_mk (st := s_call_entries) l c k, PySem.W.mg_of X G a, (fun_mk (st := s_call_entries) l c k).binds (ps := p_call_entries) fun _ _ _ _ _ _ us hl => match us, hl with | [_, _], _ => rfl⟩
theorem mk_is_party_row (X : K.In h) (G : h.Ns mainGlobals mg) {f : Addr} {od an : Option Addr} {sl : Array (Option Value)} {oc kV dc pm cd ct : Value} (a : PySem.W.nsIn K mainGlobals "is_party_row" = some (some (.ref f))) (l : K.lookup f = some ⟨oc, od, .func (PySem.W.fnOf "is_party_row" "is_party_row" (defArgs s_is_party_row) (defBody s_is_party_row) (defScope s_is_party_row) .none kV dc pm an cd ct), sl⟩) (c : PySem.W.codeIn K cd "is_party_row" = true) (k : PySem.W.keepIn K (.ref f) = true) : Def K mg "is_party_row" s_is_party_row p_is_party_row := ⟨f, _, fun_mk (st := s_is_party_row) l c k, PySem.W.mg_of X G a, (fun_mk (st := s_is_party_row) l c k).binds (ps := p_is_party_row) fun _ _ _ _ _ _ us hl => match us, hl with | [_, _], _ => rfl⟩
theorem mk_call_queue (X : K.In h) (G : h.Ns mainGlobals mg) {f : Addr} {od an : Option Addr} {sl : Array (Option Value)} {oc kV dc pm cd ct : Value} (a : PySem.W.nsIn K mainGlobals "call_queue" = some (some (.ref f))) (l : K.lookup f = some ⟨oc, od, .func (PySem.W.fnOf "call_queue" "call_queue" (defArgs s_call_queue) (defBody s_call_queue) (defScope s_call_queue) .none kV dc pm an cd ct), sl⟩) (c : PySem.W.codeIn K cd "call_queue" = true) (k : PySem.W.keepIn K (.ref f) = true) : Def K mg "call_queue" s_call_queue p_call_queue := ⟨f, _, fun_mk (st := s_call_queue) l c k, PySem.W.mg_of X G a, (fun_mk (st := s_call_queue) l c k).binds (ps := p_call_queue) fun _ _ _ _ _ _ us hl => match us, hl with | [_, _], _ => rfl⟩
theorem mk_call_matches (X : K.In h) (G : h.Ns mainGlobals mg) {f : Addr} {od an : Option Addr} {sl : Array (Option Value)} {oc kV dc pm cd ct : Value} (a : PySem.W.nsIn K mainGlobals "call_matches" = some (some (.ref f))) (l : K.lookup f = some ⟨oc, od, .func (PySem.W.fnOf "call_matches" "call_matches" (defArgs s_call_matches) (defBody s_call_matches) (defScope s_call_matches) .none kV dc pm an cd ct), sl⟩) (c : PySem.W.codeIn K cd "call_matches" = true) (k : PySem.W.keepIn K (.ref f) = true) : Def K mg "call_matches" s_call_matches p_call_matches := ⟨f, _, fun_mk (st := s_call_matches) l c k, PySem.W.mg_of X G a, (fun_mk (st := s_call_matches) l c k).binds (ps := p_call_matches) fun _ _ _ _ _ _ us hl => match us, hl with | [_, _], _ => rfl⟩
theorem mk_rating_total (X : K.In h) (G : h.Ns mainGlobals mg) {f : Addr} {od an : Option Addr} {sl : Array (Option Value)} {oc kV dc pm cd ct : Value} (a : PySem.W.nsIn K mainGlobals "rating_total" = some (some (.ref f))) (l : K.lookup f = some ⟨oc, od, .func (PySem.W.fnOf "rating_total" "rating_total" (defArgs s_rating_total) (defBody s_rating_total) (defScope s_rating_total) .none kV dc pm an cd ct), sl⟩) (c : PySem.W.codeIn K cd "rating_total" = true) (k : PySem.W.keepIn K (.ref f) = true) : Def K mg "rating_total" s_rating_total p_rating_total := ⟨f, _, fun_mk (st := s_rating_total) l c k, PySem.W.mg_of X G a, (fun_mk (st := s_rating_total) l c k).binds (ps := p_rating_total) fun _ _ _ _ _ _ us hl => match us, hl with | [_], _ => rfl⟩
theorem mk_call_sums (X : K.In h) (G : h.Ns mainGlobals mg) {f : Addr} {od an : Option Addr} {sl : Array (Option Value)} {oc kV dc pm cd ct : Value} (a : PySem.W.nsIn K mainGlobals "call_sums" = some (some (.ref f))) (l : K.lookup f = some ⟨oc, od, .func (PySem.W.fnOf "call_sums" "call_sums" (defArgs s_call_sums) (defBody s_call_sums) (defScope s_call_sums) .none kV dc pm an cd ct), sl⟩) (c : PySem.W.codeIn K cd "call_sums" = true) (k : PySem.W.keepIn K (.ref f) = true) : Def K mg "call_sums" s_call_sums p_call_sums := ⟨f, _, fun_mk (st := s_call_sums) l c k, PySem.W.mg_of X G a, (fun_mk (st := s_call_sums) l c k).binds (ps := p_call_sums) fun _ _ _ _ _ _ us hl => match us, hl with | [_, _], _ => rfl⟩
theorem mk_call_window (X : K.In h) (G : h.Ns mainGlobals mg) {f : Addr} {od an : Option Addr} {sl : Array (Option Value)} {oc kV dc pm cd ct : Value} (a : PySem.W.nsIn K mainGlobals "call_window" = some (some (.ref f))) (l : K.lookup f = some ⟨oc, od, .func (PySem.W.fnOf "call_window" "call_window" (defArgs s_call_window) (defBody s_call_window) (defScope s_call_window) .none kV dc pm an cd ct), sl⟩) (c : PySem.W.codeIn K cd "call_window" = true) (k : PySem.W.keepIn K (.ref f) = true) : Def K mg "call_window" s_call_window p_call_window := ⟨f, _, fun_mk (st := s_call_window) l c k, PySem.W.mg_of X G a, (fun_mk (st := s_call_window) l c k).binds (ps := p_call_window) fun _ _ _ _ _ _ us hl => match us, hl with | [_, _], _ => rfl⟩
theorem mk_call_state (X : K.In h) (G : h.Ns mainGlobals mg) {f : Addr} {od an : Option Addr} {sl : Array (Option Value)} {oc kV dc pm cd ct : Value} (a : PySem.W.nsIn K mainGlobals "call_state" = some (some (.ref f))) (l : K.lookup f = some ⟨oc, od, .func (PySem.W.fnOf "call_state" "call_state" (defArgs s_call_state) (defBody s_call_state) (defScope s_call_state) .none kV dc pm an cd ct), sl⟩) (c : PySem.W.codeIn K cd "call_state" = true) (k : PySem.W.keepIn K (.ref f) = true) : Def K mg "call_state" s_call_state p_call_state := ⟨f, _, fun_mk (st := s_call_state) l c k, PySem.W.mg_of X G a, (fun_mk (st := s_call_state) l c k).binds (ps := p_call_state) fun _ _ _ _ _ _ us hl => match us, hl with | [_, _], _ => rfl⟩
theorem mk_call_remove (X : K.In h) (G : h.Ns mainGlobals mg) {f : Addr} {od an : Option Addr} {sl : Array (Option Value)} {oc kV dc pm cd ct : Value} (a : PySem.W.nsIn K mainGlobals "call_remove" = some (some (.ref f))) (l : K.lookup f = some ⟨oc, od, .func (PySem.W.fnOf "call_remove" "call_remove" (defArgs s_call_remove) (defBody s_call_remove) (defScope s_call_remove) .none kV dc pm an cd ct), sl⟩) (c : PySem.W.codeIn K cd "call_remove" = true) (k : PySem.W.keepIn K (.ref f) = true) : Def K mg "call_remove" s_call_remove p_call_remove := ⟨f, _, fun_mk (st := s_call_remove) l c k, PySem.W.mg_of X G a, (fun_mk (st := s_call_remove) l c k).binds (ps := p_call_remove) fun _ _ _ _ _ _ us hl => match us, hl with | [_, _], _ => rfl⟩
theorem mk_are_ratings (X : K.In h) (G : h.Ns mainGlobals mg) {f : Addr} {od an : Option Addr} {sl : Array (Option Value)} {oc kV dc pm cd ct : Value} (a : PySem.W.nsIn K mainGlobals "are_ratings" = some (some (.ref f))) (l : K.lookup f = some ⟨oc, od, .func (PySem.W.fnOf "are_ratings" "are_ratings" (defArgs s_are_ratings) (defBody s_are_ratings) (defScope s_are_ratings) .none kV dc pm an cd ct), sl⟩) (c : PySem.W.codeIn K cd "are_ratings" = true) (k : PySem.W.keepIn K (.ref f) = true) : Def K mg "are_ratings" s_are_ratings p_are_ratings := ⟨f, _, fun_mk (st := s_are_ratings) l c k, PySem.W.mg_of X G a, (fun_mk (st := s_are_ratings) l c k).binds (ps := p_are_ratings) fun _ _ _ _ _ _ us hl => match us, hl with | [_], _ => rfl⟩
theorem mk_is_side_of_ratings (X : K.In h) (G : h.Ns mainGlobals mg) {f : Addr} {od an : Option Addr} {sl : Array (Option Value)} {oc kV dc pm cd ct : Value} (a : PySem.W.nsIn K mainGlobals "is_side_of_ratings" = some (some (.ref f))) (l : K.lookup f = some ⟨oc, od, .func (PySem.W.fnOf "is_side_of_ratings" "is_side_of_ratings" (defArgs s_is_side_of_ratings) (defBody s_is_side_of_ratings) (defScope s_is_side_of_ratings) .none kV dc pm an cd ct), sl⟩) (c : PySem.W.codeIn K cd "is_side_of_ratings" = true) (k : PySem.W.keepIn K (.ref f) = true) : Def K mg "is_side_of_ratings" s_is_side_of_ratings p_is_side_of_ratings := ⟨f, _, fun_mk (st := s_is_side_of_ratings) l c k, PySem.W.mg_of X G a, (fun_mk (st := s_is_side_of_ratings) l c k).binds (ps := p_is_side_of_ratings) fun _ _ _ _ _ _ us hl => match us, hl with | [_, _], _ => rfl⟩
theorem mk_common_divisor (X : K.In h) (G : h.Ns mainGlobals mg) {f : Addr} {od an : Option Addr} {sl : Array (Option Value)} {oc kV dc pm cd ct : Value} (a : PySem.W.nsIn K mainGlobals "common_divisor" = some (some (.ref f))) (l : K.lookup f = some ⟨oc, od, .func (PySem.W.fnOf "common_divisor" "common_divisor" (defArgs s_common_divisor) (defBody s_common_divisor) (defScope s_common_divisor) .none kV dc pm an cd ct), sl⟩) (c : PySem.W.codeIn K cd "common_divisor" = true) (k : PySem.W.keepIn K (.ref f) = true) : Def K mg "common_divisor" s_common_divisor p_common_divisor := ⟨f, _, fun_mk (st := s_common_divisor) l c k, PySem.W.mg_of X G a, (fun_mk (st := s_common_divisor) l c k).binds (ps := p_common_divisor) fun _ _ _ _ _ _ us hl => match us, hl with | [_, _], _ => rfl⟩
theorem mk_lowest_terms (X : K.In h) (G : h.Ns mainGlobals mg) {f : Addr} {od an : Option Addr} {sl : Array (Option Value)} {oc kV dc pm cd ct : Value} (a : PySem.W.nsIn K mainGlobals "lowest_terms" = some (some (.ref f))) (l : K.lookup f = some ⟨oc, od, .func (PySem.W.fnOf "lowest_terms" "lowest_terms" (defArgs s_lowest_terms) (defBody s_lowest_terms) (defScope s_lowest_terms) .none kV dc pm an cd ct), sl⟩) (c : PySem.W.codeIn K cd "lowest_terms" = true) (k : PySem.W.keepIn K (.ref f) = true) : Def K mg "lowest_terms" s_lowest_terms p_lowest_terms := ⟨f, _, fun_mk (st := s_lowest_terms) l c k, PySem.W.mg_of X G a, (fun_mk (st := s_lowest_terms) l c k).binds (ps := p_lowest_terms) fun _ _ _ _ _ _ us hl => match us, hl with | [_, _], _ => rfl⟩
theorem mk_expectation (X : K.In h) (G : h.Ns mainGlobals mg) {f : Addr} {od an : Option Addr} {sl : Array (Option Value)} {oc kV dc pm cd ct : Value} (a : PySem.W.nsIn K mainGlobals "expectation" = some (some (.ref f))) (l : K.lookup f = some ⟨oc, od, .func (PySem.W.fnOf "expectation" "expectation" (defArgs s_expectation) (defBody s_expectation) (defScope s_expectation) .none kV dc pm an cd ct), sl⟩) (c : PySem.W.codeIn K cd "expectation" = true) (k : PySem.W.keepIn K (.ref f) = true) : Def K mg "expectation" s_expectation p_expectation := ⟨f, _, fun_mk (st := s_expectation) l c k, PySem.W.mg_of X G a, (fun_mk (st := s_expectation) l c k).binds (ps := p_expectation) fun _ _ _ _ _ _ us hl => match us, hl with | [_, _, _], _ => rfl⟩
theorem mk_call_expect (X : K.In h) (G : h.Ns mainGlobals mg) {f : Addr} {od an : Option Addr} {sl : Array (Option Value)} {oc kV dc pm cd ct : Value} (a : PySem.W.nsIn K mainGlobals "call_expect" = some (some (.ref f))) (l : K.lookup f = some ⟨oc, od, .func (PySem.W.fnOf "call_expect" "call_expect" (defArgs s_call_expect) (defBody s_call_expect) (defScope s_call_expect) .none kV dc pm an cd ct), sl⟩) (c : PySem.W.codeIn K cd "call_expect" = true) (k : PySem.W.keepIn K (.ref f) = true) : Def K mg "call_expect" s_call_expect p_call_expect := ⟨f, _, fun_mk (st := s_call_expect) l c k, PySem.W.mg_of X G a, (fun_mk (st := s_call_expect) l c k).binds (ps := p_call_expect) fun _ _ _ _ _ _ us hl => match us, hl with | [_, _], _ => rfl⟩
theorem mk_judgement (X : K.In h) (G : h.Ns mainGlobals mg) {f : Addr} {od an : Option Addr} {sl : Array (Option Value)} {oc kV dc pm cd ct : Value} (a : PySem.W.nsIn K mainGlobals "judgement" = some (some (.ref f))) (l : K.lookup f = some ⟨oc, od, .func (PySem.W.fnOf "judgement" "judgement" (defArgs s_judgement) (defBody s_judgement) (defScope s_judgement) .none kV dc pm an cd ct), sl⟩) (c : PySem.W.codeIn K cd "judgement" = true) (k : PySem.W.keepIn K (.ref f) = true) : Def K mg "judgement" s_judgement p_judgement := ⟨f, _, fun_mk (st := s_judgement) l c k, PySem.W.mg_of X G a, (fun_mk (st := s_judgement) l c k).binds (ps := p_judgement) fun _ _ _ _ _ _ us hl => match us, hl with | [_, _, _], _ => rfl⟩
theorem mk_call_judge (X : K.In h) (G : h.Ns mainGlobals mg) {f : Addr} {od an : Option Addr} {sl : Array (Option Value)} {oc kV dc pm cd ct : Value} (a : PySem.W.nsIn K mainGlobals "call_judge" = some (some (.ref f))) (l : K.lookup f = some ⟨oc, od, .func (PySem.W.fnOf "call_judge" "call_judge" (defArgs s_call_judge) (defBody s_call_judge) (defScope s_call_judge) .none kV dc pm an cd ct), sl⟩) (c : PySem.W.codeIn K cd "call_judge" = true) (k : PySem.W.keepIn K (.ref f) = true) : Def K mg "call_judge" s_call_judge p_call_judge := ⟨f, _, fun_mk (st := s_call_judge) l c k, PySem.W.mg_of X G a, (fun_mk (st := s_call_judge) l c k).binds (ps := p_call_judge) fun _ _ _ _ _ _ us hl => match us, hl with | [_, _], _ => rfl⟩
theorem mk_call_best (X : K.In h) (G : h.Ns mainGlobals mg) {f : Addr} {od an : Option Addr} {sl : Array (Option Value)} {oc kV dc pm cd ct : Value} (a : PySem.W.nsIn K mainGlobals "call_best" = some (some (.ref f))) (l : K.lookup f = some ⟨oc, od, .func (PySem.W.fnOf "call_best" "call_best" (defArgs s_call_best) (defBody s_call_best) (defScope s_call_best) .none kV dc pm an cd ct), sl⟩) (c : PySem.W.codeIn K cd "call_best" = true) (k : PySem.W.keepIn K (.ref f) = true) : Def K mg "call_best" s_call_best p_call_best := ⟨f, _, fun_mk (st := s_call_best) l c k, PySem.W.mg_of X G a, (fun_mk (st := s_call_best) l c k).binds (ps := p_call_best) fun _ _ _ _ _ _ us hl => match us, hl with | [_, _], _ => rfl⟩
theorem mk_ways_to_pick (X : K.In h) (G : h.Ns mainGlobals mg) {f : Addr} {od an : Option Addr} {sl : Array (Option Value)} {oc kV dc pm cd ct : Value} (a : PySem.W.nsIn K mainGlobals "ways_to_pick" = some (some (.ref f))) (l : K.lookup f = some ⟨oc, od, .func (PySem.W.fnOf "ways_to_pick" "ways_to_pick" (defArgs s_ways_to_pick) (defBody s_ways_to_pick) (defScope s_ways_to_pick) .none kV dc pm an cd ct), sl⟩) (c : PySem.W.codeIn K cd "ways_to_pick" = true) (k : PySem.W.keepIn K (.ref f) = true) : Def K mg "ways_to_pick" s_ways_to_pick p_ways_to_pick := ⟨f, _, fun_mk (st := s_ways_to_pick) l c k, PySem.W.mg_of X G a, (fun_mk (st := s_ways_to_pick) l c k).binds (ps := p_ways_to_pick) fun _ _ _ _ _ _ us hl => match us, hl with | [_, _], _ => rfl⟩
theorem mk_halves_apart (X : K.In h) (G : h.Ns mainGlobals mg) {f : Addr} {od an : Option Addr} {sl : Array (Option Value)} {oc kV dc pm cd ct : Value} (a : PySem.W.nsIn K mainGlobals "halves_apart" = some (some (.ref f))) (l : K.lookup f = some ⟨oc, od, .func (PySem.W.fnOf "halves_apart" "halves_apart" (defArgs s_halves_apart) (defBody s_halves_apart) (defScope s_halves_apart) .none kV dc pm an cd ct), sl⟩) (c : PySem.W.codeIn K cd "halves_apart" = true) (k : PySem.W.keepIn K (.ref f) = true) : Def K mg "halves_apart" s_halves_apart p_halves_apart := ⟨f, _, fun_mk (st := s_halves_apart) l c k, PySem.W.mg_of X G a, (fun_mk (st := s_halves_apart) l c k).binds (ps := p_halves_apart) fun _ _ _ _ _ _ us hl => match us, hl with | [_, _], _ => rfl⟩
theorem mk_most_even_half (X : K.In h) (G : h.Ns mainGlobals mg) {f : Addr} {od an : Option Addr} {sl : Array (Option Value)} {oc kV dc pm cd ct : Value} (a : PySem.W.nsIn K mainGlobals "most_even_half" = some (some (.ref f))) (l : K.lookup f = some ⟨oc, od, .func (PySem.W.fnOf "most_even_half" "most_even_half" (defArgs s_most_even_half) (defBody s_most_even_half) (defScope s_most_even_half) .none kV dc pm an cd ct), sl⟩) (c : PySem.W.codeIn K cd "most_even_half" = true) (k : PySem.W.keepIn K (.ref f) = true) : Def K mg "most_even_half" s_most_even_half p_most_even_half := ⟨f, _, fun_mk (st := s_most_even_half) l c k, PySem.W.mg_of X G a, (fun_mk (st := s_most_even_half) l c k).binds (ps := p_most_even_half) fun _ _ _ _ _ _ us hl => match us, hl with | [_], _ => rfl⟩
theorem mk_is_split_row (X : K.In h) (G : h.Ns mainGlobals mg) {f : Addr} {od an : Option Addr} {sl : Array (Option Value)} {oc kV dc pm cd ct : Value} (a : PySem.W.nsIn K mainGlobals "is_split_row" = some (some (.ref f))) (l : K.lookup f = some ⟨oc, od, .func (PySem.W.fnOf "is_split_row" "is_split_row" (defArgs s_is_split_row) (defBody s_is_split_row) (defScope s_is_split_row) .none kV dc pm an cd ct), sl⟩) (c : PySem.W.codeIn K cd "is_split_row" = true) (k : PySem.W.keepIn K (.ref f) = true) : Def K mg "is_split_row" s_is_split_row p_is_split_row := ⟨f, _, fun_mk (st := s_is_split_row) l c k, PySem.W.mg_of X G a, (fun_mk (st := s_is_split_row) l c k).binds (ps := p_is_split_row) fun _ _ _ _ _ _ us hl => match us, hl with | [_], _ => rfl⟩
theorem mk_call_split (X : K.In h) (G : h.Ns mainGlobals mg) {f : Addr} {od an : Option Addr} {sl : Array (Option Value)} {oc kV dc pm cd ct : Value} (a : PySem.W.nsIn K mainGlobals "call_split" = some (some (.ref f))) (l : K.lookup f = some ⟨oc, od, .func (PySem.W.fnOf "call_split" "call_split" (defArgs s_call_split) (defBody s_call_split) (defScope s_call_split) .none kV dc pm an cd ct), sl⟩) (c : PySem.W.codeIn K cd "call_split" = true) (k : PySem.W.keepIn K (.ref f) = true) : Def K mg "call_split" s_call_split p_call_split := ⟨f, _, fun_mk (st := s_call_split) l c k, PySem.W.mg_of X G a, (fun_mk (st := s_call_split) l c k).binds (ps := p_call_split) fun _ _ _ _ _ _ us hl => match us, hl with | [_, _], _ => rfl⟩
theorem mk_halfway_to_mean (X : K.In h) (G : h.Ns mainGlobals mg) {f : Addr} {od an : Option Addr} {sl : Array (Option Value)} {oc kV dc pm cd ct : Value} (a : PySem.W.nsIn K mainGlobals "halfway_to_mean" = some (some (.ref f))) (l : K.lookup f = some ⟨oc, od, .func (PySem.W.fnOf "halfway_to_mean" "halfway_to_mean" (defArgs s_halfway_to_mean) (defBody s_halfway_to_mean) (defScope s_halfway_to_mean) .none kV dc pm an cd ct), sl⟩) (c : PySem.W.codeIn K cd "halfway_to_mean" = true) (k : PySem.W.keepIn K (.ref f) = true) : Def K mg "halfway_to_mean" s_halfway_to_mean p_halfway_to_mean := ⟨f, _, fun_mk (st := s_halfway_to_mean) l c k, PySem.W.mg_of X G a, (fun_mk (st := s_halfway_to_mean) l c k).binds (ps := p_halfway_to_mean) fun _ _ _ _ _ _ us hl => match us, hl with | [_, _], _ => rfl⟩
theorem mk_draw_from_pool (X : K.In h) (G : h.Ns mainGlobals mg) {f : Addr} {od an : Option Addr} {sl : Array (Option Value)} {oc kV dc pm cd ct : Value} (a : PySem.W.nsIn K mainGlobals "draw_from_pool" = some (some (.ref f))) (l : K.lookup f = some ⟨oc, od, .func (PySem.W.fnOf "draw_from_pool" "draw_from_pool" (defArgs s_draw_from_pool) (defBody s_draw_from_pool) (defScope s_draw_from_pool) .none kV dc pm an cd ct), sl⟩) (c : PySem.W.codeIn K cd "draw_from_pool" = true) (k : PySem.W.keepIn K (.ref f) = true) : Def K mg "draw_from_pool" s_draw_from_pool p_draw_from_pool := ⟨f, _, fun_mk (st := s_draw_from_pool) l c k, PySem.W.mg_of X G a, (fun_mk (st := s_draw_from_pool) l c k).binds (ps := p_draw_from_pool) fun _ _ _ _ _ _ us hl => match us, hl with | [_, _], _ => rfl⟩
theorem mk_share_at (X : K.In h) (G : h.Ns mainGlobals mg) {f : Addr} {od an : Option Addr} {sl : Array (Option Value)} {oc kV dc pm cd ct : Value} (a : PySem.W.nsIn K mainGlobals "share_at" = some (some (.ref f))) (l : K.lookup f = some ⟨oc, od, .func (PySem.W.fnOf "share_at" "share_at" (defArgs s_share_at) (defBody s_share_at) (defScope s_share_at) .none kV dc pm an cd ct), sl⟩) (c : PySem.W.codeIn K cd "share_at" = true) (k : PySem.W.keepIn K (.ref f) = true) : Def K mg "share_at" s_share_at p_share_at := ⟨f, _, fun_mk (st := s_share_at) l c k, PySem.W.mg_of X G a, (fun_mk (st := s_share_at) l c k).binds (ps := p_share_at) fun _ _ _ _ _ _ us hl => match us, hl with | [_, _, _], _ => rfl⟩
theorem mk_give_rating (X : K.In h) (G : h.Ns mainGlobals mg) {f : Addr} {od an : Option Addr} {sl : Array (Option Value)} {oc kV dc pm cd ct : Value} (a : PySem.W.nsIn K mainGlobals "give_rating" = some (some (.ref f))) (l : K.lookup f = some ⟨oc, od, .func (PySem.W.fnOf "give_rating" "give_rating" (defArgs s_give_rating) (defBody s_give_rating) (defScope s_give_rating) .none kV dc pm an cd ct), sl⟩) (c : PySem.W.codeIn K cd "give_rating" = true) (k : PySem.W.keepIn K (.ref f) = true) : Def K mg "give_rating" s_give_rating p_give_rating := ⟨f, _, fun_mk (st := s_give_rating) l c k, PySem.W.mg_of X G a, (fun_mk (st := s_give_rating) l c k).binds (ps := p_give_rating) fun _ _ _ _ _ _ us hl => match us, hl with | [_, _, _], _ => rfl⟩
theorem mk_settle_players (X : K.In h) (G : h.Ns mainGlobals mg) {f : Addr} {od an : Option Addr} {sl : Array (Option Value)} {oc kV dc pm cd ct : Value} (a : PySem.W.nsIn K mainGlobals "settle_players" = some (some (.ref f))) (l : K.lookup f = some ⟨oc, od, .func (PySem.W.fnOf "settle_players" "settle_players" (defArgs s_settle_players) (defBody s_settle_players) (defScope s_settle_players) .none kV dc pm an cd ct), sl⟩) (c : PySem.W.codeIn K cd "settle_players" = true) (k : PySem.W.keepIn K (.ref f) = true) : Def K mg "settle_players" s_settle_players p_settle_players := ⟨f, _, fun_mk (st := s_settle_players) l c k, PySem.W.mg_of X G a, (fun_mk (st := s_settle_players) l c k).binds (ps := p_settle_players) fun _ _ _ _ _ _ us hl => match us, hl with | [_], _ => rfl⟩
theorem mk_end_season (X : K.In h) (G : h.Ns mainGlobals mg) {f : Addr} {od an : Option Addr} {sl : Array (Option Value)} {oc kV dc pm cd ct : Value} (a : PySem.W.nsIn K mainGlobals "end_season" = some (some (.ref f))) (l : K.lookup f = some ⟨oc, od, .func (PySem.W.fnOf "end_season" "end_season" (defArgs s_end_season) (defBody s_end_season) (defScope s_end_season) .none kV dc pm an cd ct), sl⟩) (c : PySem.W.codeIn K cd "end_season" = true) (k : PySem.W.keepIn K (.ref f) = true) : Def K mg "end_season" s_end_season p_end_season := ⟨f, _, fun_mk (st := s_end_season) l c k, PySem.W.mg_of X G a, (fun_mk (st := s_end_season) l c k).binds (ps := p_end_season) fun _ _ _ _ _ _ us hl => match us, hl with | [_], _ => rfl⟩
theorem mk_call_season (X : K.In h) (G : h.Ns mainGlobals mg) {f : Addr} {od an : Option Addr} {sl : Array (Option Value)} {oc kV dc pm cd ct : Value} (a : PySem.W.nsIn K mainGlobals "call_season" = some (some (.ref f))) (l : K.lookup f = some ⟨oc, od, .func (PySem.W.fnOf "call_season" "call_season" (defArgs s_call_season) (defBody s_call_season) (defScope s_call_season) .none kV dc pm an cd ct), sl⟩) (c : PySem.W.codeIn K cd "call_season" = true) (k : PySem.W.keepIn K (.ref f) = true) : Def K mg "call_season" s_call_season p_call_season := ⟨f, _, fun_mk (st := s_call_season) l c k, PySem.W.mg_of X G a, (fun_mk (st := s_call_season) l c k).binds (ps := p_call_season) fun _ _ _ _ _ _ us hl => match us, hl with | [_, _], _ => rfl⟩
theorem mk_answer_next (X : K.In h) (G : h.Ns mainGlobals mg) {f : Addr} {od an : Option Addr} {sl : Array (Option Value)} {oc kV dc pm cd ct : Value} (a : PySem.W.nsIn K mainGlobals "answer_next" = some (some (.ref f))) (l : K.lookup f = some ⟨oc, od, .func (PySem.W.fnOf "answer_next" "answer_next" (defArgs s_answer_next) (defBody s_answer_next) (defScope s_answer_next) .none kV dc pm an cd ct), sl⟩) (c : PySem.W.codeIn K cd "answer_next" = true) (k : PySem.W.keepIn K (.ref f) = true) : Def K mg "answer_next" s_answer_next p_answer_next := ⟨f, _, fun_mk (st := s_answer_next) l c k, PySem.W.mg_of X G a, (fun_mk (st := s_answer_next) l c k).binds (ps := p_answer_next) fun _ _ _ _ _ _ us hl => match us, hl with | [_, _], _ => rfl⟩
theorem mk_answers (X : K.In h) (G : h.Ns mainGlobals mg) {fa : Addr} (hfa : mg "answers" = some (.ref fa)) {f : Addr} {od an : Option Addr} {sl : Array (Option Value)} {oc kV dc pm cd ct : Value} (a : PySem.W.nsIn K mainGlobals "answers" = some (some (.ref f))) (l : K.lookup f = some ⟨oc, od, .func (PySem.W.fnOf "answers" "answers" (defArgs s_answers) (defBody s_answers) (defScope s_answers) .none kV dc pm an cd ct), sl⟩) (c : PySem.W.codeIn K cd "answers" = true) (k : PySem.W.keepIn K (.ref f) = true) : ∃ fd : FuncData, (∀ (s : Shared) (us : List Value), us.length = (["calls"] : List Str).length → BindsTo s fd ⟨us, []⟩ ((["calls"] : List Str).zip us)) ∧ Fun K "answers" "answers" s_answers fa fd := by
  have e := hfa.symm.trans (PySem.W.mg_of X G a)
  cases e
  exact ⟨_, fun s us hu => match us, hu with | [_], _ => .of_eq rfl, fun_mk (st := s_answers) l c k⟩
theorem step {A B : Prop} (a : A) (f : A → B) : B := f a
theorem const_mk (X : K.In h) (G : h.Ns mainGlobals mg) {n : Str} {v : Value} {i : Int} (a : PySem.W.nsIn K mainGlobals n = some (some v)) (e : ∃ t, v = .int i t) : ∃ t, mg n = some (.int i t) := by
  obtain ⟨t, rfl⟩ := e
  exact ⟨t, PySem.W.mg_of X G a⟩
theorem mk_CALLS (X : K.In h) (G : h.Ns mainGlobals mg) {Ta f0 f1 f2 f3 f4 f5 f6 f7 f8 f9 f10 f11 f12 f13 f14 f15 f16 f17 f18 f19 : Addr} {dd : Option Addr} {us : Array Value} {n : Nat} {sl : Array (Option Value)} (aT : PySem.W.nsIn K mainGlobals "CALLS" = some (some (.ref Ta))) (lT : K.lookup Ta = some ⟨.type "tuple", dd, .seq us n, sl⟩)
    (a0 : PySem.W.nsIn K mainGlobals "call_begin" = some (some (.ref f0)))
    (a1 : PySem.W.nsIn K mainGlobals "call_player" = some (some (.ref f1)))
    (a2 : PySem.W.nsIn K mainGlobals "call_queue" = some (some (.ref f2)))
    (a3 : PySem.W.nsIn K mainGlobals "call_unqueue" = some (some (.ref f3)))
    (a4 : PySem.W.nsIn K mainGlobals "call_tick" = some (some (.ref f4)))
    (a5 : PySem.W.nsIn K mainGlobals "call_result" = some (some (.ref f5)))
    (a6 : PySem.W.nsIn K mainGlobals "call_leave" = some (some (.ref f6)))
    (a7 : PySem.W.nsIn K mainGlobals "call_rating" = some (some (.ref f7)))
    (a8 : PySem.W.nsIn K mainGlobals "call_ladder" = some (some (.ref f8)))
    (a9 : PySem.W.nsIn K mainGlobals "call_entries" = some (some (.ref f9)))
    (a10 : PySem.W.nsIn K mainGlobals "call_matches" = some (some (.ref f10)))
    (a11 : PySem.W.nsIn K mainGlobals "call_expect" = some (some (.ref f11)))
    (a12 : PySem.W.nsIn K mainGlobals "call_judge" = some (some (.ref f12)))
    (a13 : PySem.W.nsIn K mainGlobals "call_best" = some (some (.ref f13)))
    (a14 : PySem.W.nsIn K mainGlobals "call_season" = some (some (.ref f14)))
    (a15 : PySem.W.nsIn K mainGlobals "call_sums" = some (some (.ref f15)))
    (a16 : PySem.W.nsIn K mainGlobals "call_split" = some (some (.ref f16)))
    (a17 : PySem.W.nsIn K mainGlobals "call_window" = some (some (.ref f17)))
    (a18 : PySem.W.nsIn K mainGlobals "call_state" = some (some (.ref f18)))
    (a19 : PySem.W.nsIn K mainGlobals "call_remove" = some (some (.ref f19)))
    (e : us.toList = [.ref f0, .ref f1, .ref f2, .ref f3, .ref f4, .ref f5, .ref f6, .ref f7, .ref f8, .ref f9, .ref f10, .ref f11, .ref f12, .ref f13, .ref f14, .ref f15, .ref f16, .ref f17, .ref f18, .ref f19]) : ∃ (Ta f0 f1 f2 f3 f4 f5 f6 f7 f8 f9 f10 f11 f12 f13 f14 f15 f16 f17 f18 f19 : Addr), mg "CALLS" = some (.ref Ta) ∧ (∀ H, SqT K H Ta ([f0, f1, f2, f3, f4, f5, f6, f7, f8, f9, f10, f11, f12, f13, f14, f15, f16, f17, f18, f19].map V.ref)) ∧ mg "call_begin" = some (.ref f0) ∧ mg "call_player" = some (.ref f1) ∧ mg "call_queue" = some (.ref f2) ∧ mg "call_unqueue" = some (.ref f3) ∧ mg "call_tick" = some (.ref f4) ∧ mg "call_result" = some (.ref f5) ∧ mg "call_leave" = some (.ref f6) ∧ mg "call_rating" = some (.ref f7) ∧ mg "call_ladder" = some (.ref f8) ∧ mg "call_entries" = some (.ref f9) ∧ mg "call_matches" = some (.ref f10) ∧ mg "call_expect" = some (.ref f11) ∧ mg "call_judge" = some (.ref f12) ∧ mg "call_best" = some (.ref f13) ∧ mg "call_season" = some (.ref f14) ∧ mg "call_sums" = some (.ref f15) ∧ mg "call_split" = some (.ref f16) ∧ mg "call_window" = some (.ref f17) ∧ mg "call_state" = some (.ref f18) ∧ mg "call_remove" = some (.ref f19) := by
  refine ⟨Ta, f0, f1, f2, f3, f4, f5, f6, f7, f8, f9, f10, f11, f12, f13, f14, f15, f16, f17, f18, f19, PySem.W.mg_of X G aT, fun H => .inr ⟨_, us, n, lT, rfl, rfl, ?_, ?_⟩, PySem.W.mg_of X G a0, PySem.W.mg_of X G a1, PySem.W.mg_of X G a2, PySem.W.mg_of X G a3, PySem.W.mg_of X G a4, PySem.W.mg_of X G a5, PySem.W.mg_of X G a6, PySem.W.mg_of X G a7, PySem.W.mg_of X G a8, PySem.W.mg_of X G a9, PySem.W.mg_of X G a10, PySem.W.mg_of X G a11, PySem.W.mg_of X G a12, PySem.W.mg_of X G a13, PySem.W.mg_of X G a14, PySem.W.mg_of X G a15, PySem.W.mg_of X G a16, PySem.W.mg_of X G a17, PySem.W.mg_of X G a18, PySem.W.mg_of X G a19⟩
  · have := congrArg List.length e
    rw [Array.length_toList] at this
    rw [this]
    exact sz_of (by show 20 ≤ 100000; decide)
  · rw [e]
    exact .cons rfl (.cons rfl (.cons rfl (.cons rfl (.cons rfl (.cons rfl (.cons rfl (.cons rfl (.cons rfl (.cons rfl (.cons rfl (.cons rfl (.cons rfl (.cons rfl (.cons rfl (.cons rfl (.cons rfl (.cons rfl (.cons rfl (.cons rfl (.nil))))))))))))))))))))
end
theorem all_ok {P : Program} {w : World} {K : PySem.W.Frag} {mg : Str → Option Value} {base : Heap} {c : Cs} {f : Addr} {fd : FuncData} (T : TxtK mg) (CC : CT K c)
    (D_numbers_of : Def K mg "numbers_of" s_numbers_of p_numbers_of)
    (D_ratings_of : Def K mg "ratings_of" s_ratings_of p_ratings_of)
    (D_rating_sum : Def K mg "rating_sum" s_rating_sum p_rating_sum)
    (D_members_of : Def K mg "members_of" s_members_of p_members_of)
    (D_parties_without : Def K mg "parties_without" s_parties_without p_parties_without)
    (D_ways_to_take : Def K mg "ways_to_take" s_ways_to_take p_ways_to_take)
    (D_window_of : Def K mg "window_of" s_window_of p_window_of)
    (D_waits : Def K mg "waits" s_waits p_waits)
    (D_Pairing___init__ : DefM K c.G "__init__" "Pairing.__init__" s_Pairing___init__ p_Pairing___init__)
    (mk_Pairing : PySem.W.makesIn K c.G = true)
    (kc_Pairing : PySem.W.keepIn K (.ref c.G) = true)
    (gC_Pairing : mg "Pairing" = some (.ref c.G))
    (D_is_better : Def K mg "is_better" s_is_better p_is_better)
    (D_rounded_up : Def K mg "rounded_up" s_rounded_up p_rounded_up)
    (D_taken_since : Def K mg "taken_since" s_taken_since p_taken_since)
    (D_playable_since : Def K mg "playable_since" s_playable_since p_playable_since)
    (D_first_unwilling : Def K mg "first_unwilling" s_first_unwilling p_first_unwilling)
    (D_pairings_of : Def K mg "pairings_of" s_pairings_of p_pairings_of)
    (D_Match___init__ : DefM K c.M "__init__" "Match.__init__" s_Match___init__ p_Match___init__)
    (mk_Match : PySem.W.makesIn K c.M = true)
    (kc_Match : PySem.W.keepIn K (.ref c.M) = true)
    (gC_Match : mg "Match" = some (.ref c.M))
    (D_Party___init__ : DefM K c.E "__init__" "Party.__init__" s_Party___init__ p_Party___init__)
    (mk_Party : PySem.W.makesIn K c.E = true)
    (kc_Party : PySem.W.keepIn K (.ref c.E) = true)
    (gC_Party : mg "Party" = some (.ref c.E))
    (D_Player___init__ : DefM K c.P "__init__" "Player.__init__" s_Player___init__ p_Player___init__)
    (mk_Player : PySem.W.makesIn K c.P = true)
    (kc_Player : PySem.W.keepIn K (.ref c.P) = true)
    (gC_Player : mg "Player" = some (.ref c.P))
    (D_Rules___init__ : DefM K c.R "__init__" "Rules.__init__" s_Rules___init__ p_Rules___init__)
    (mk_Rules : PySem.W.makesIn K c.R = true)
    (kc_Rules : PySem.W.keepIn K (.ref c.R) = true)
    (gC_Rules : mg "Rules" = some (.ref c.R))
    (D_World_take_number : DefM K c.W "take_number" "World.take_number" s_World_take_number p_World_take_number)
    (D_World_start_over : DefM K c.W "start_over" "World.start_over" s_World_start_over p_World_start_over)
    (D_World___init__ : DefM K c.W "__init__" "World.__init__" s_World___init__ p_World___init__)
    (mk_World : PySem.W.makesIn K c.W = true)
    (kc_World : PySem.W.keepIn K (.ref c.W) = true)
    (gC_World : mg "World" = some (.ref c.W))
    (D_Reader___init__ : DefM K c.D "__init__" "Reader.__init__" s_Reader___init__ p_Reader___init__)
    (mk_Reader : PySem.W.makesIn K c.D = true)
    (kc_Reader : PySem.W.keepIn K (.ref c.D) = true)
    (gC_Reader : mg "Reader" = some (.ref c.D))
    (D_Reader_has_more : DefM K c.D "has_more" "Reader.has_more" s_Reader_has_more p_Reader_has_more)
    (D_Reader_take_whole : DefM K c.D "take_whole" "Reader.take_whole" s_Reader_take_whole p_Reader_take_whole)
    (D_Reader_take_row : DefM K c.D "take_row" "Reader.take_row" s_Reader_take_row p_Reader_take_row)
    (D_best_match : Def K mg "best_match" s_best_match p_best_match)
    (D_match_in_turn : Def K mg "match_in_turn" s_match_in_turn p_match_in_turn)
    (D_begin_match : Def K mg "begin_match" s_begin_match p_begin_match)
    (D_make_matches : Def K mg "make_matches" s_make_matches p_make_matches)
    (D_next_play : Def K mg "next_play" s_next_play p_next_play)
    (D_let_ticks_go_by : Def K mg "let_ticks_go_by" s_let_ticks_go_by p_let_ticks_go_by)
    (D_out_of_range : Def K mg "out_of_range" s_out_of_range p_out_of_range)
    (D_none_of_that_number : Def K mg "none_of_that_number" s_none_of_that_number p_none_of_that_number)
    (D_not_the_time : Def K mg "not_the_time" s_not_the_time p_not_the_time)
    (D_not_so : Def K mg "not_so" s_not_so p_not_so)
    (D_no_place : Def K mg "no_place" s_no_place p_no_place)
    (D_within : Def K mg "within" s_within p_within)
    (D_are_rules : Def K mg "are_rules" s_are_rules p_are_rules)
    (D_call_begin : Def K mg "call_begin" s_call_begin p_call_begin)
    (D_call_player : Def K mg "call_player" s_call_player p_call_player)
    (D_call_unqueue : Def K mg "call_unqueue" s_call_unqueue p_call_unqueue)
    (D_shown_matches : Def K mg "shown_matches" s_shown_matches p_shown_matches)
    (D_call_tick : Def K mg "call_tick" s_call_tick p_call_tick)
    (D_far_of : Def K mg "far_of" s_far_of p_far_of)
    (D_expected : Def K mg "expected" s_expected p_expected)
    (D_free_move : Def K mg "free_move" s_free_move p_free_move)
    (D_held_move : Def K mg "held_move" s_held_move p_held_move)
    (D_play_out : Def K mg "play_out" s_play_out p_play_out)
    (D_end_match : Def K mg "end_match" s_end_match p_end_match)
    (D_loss_of : Def K mg "loss_of" s_loss_of p_loss_of)
    (D_pay_fine : Def K mg "pay_fine" s_pay_fine p_pay_fine)
    (D_call_result : Def K mg "call_result" s_call_result p_call_result)
    (D_call_leave : Def K mg "call_leave" s_call_leave p_call_leave)
    (D_plays : Def K mg "plays" s_plays p_plays)
    (D_whereabouts : Def K mg "whereabouts" s_whereabouts p_whereabouts)
    (D_call_rating : Def K mg "call_rating" s_call_rating p_call_rating)
    (D_ladder_place : Def K mg "ladder_place" s_ladder_place p_ladder_place)
    (D_ladder_of : Def K mg "ladder_of" s_ladder_of p_ladder_of)
    (D_call_ladder : Def K mg "call_ladder" s_call_ladder p_call_ladder)
    (D_call_entries : Def K mg "call_entries" s_call_entries p_call_entries)
    (D_is_party_row : Def K mg "is_party_row" s_is_party_row p_is_party_row)
    (D_call_queue : Def K mg "call_queue" s_call_queue p_call_queue)
    (D_call_matches : Def K mg "call_matches" s_call_matches p_call_matches)
    (D_rating_total : Def K mg "rating_total" s_rating_total p_rating_total)
    (D_call_sums : Def K mg "call_sums" s_call_sums p_call_sums)
    (D_call_window : Def K mg "call_window" s_call_window p_call_window)
    (D_call_state : Def K mg "call_state" s_call_state p_call_state)
    (D_call_remove : Def K mg "call_remove" s_call_remove p_call_remove)
    (D_are_ratings : Def K mg "are_ratings" s_are_ratings p_are_ratings)
    (D_is_side_of_ratings : Def K mg "is_side_of_ratings" s_is_side_of_ratings p_is_side_of_ratings)
    (D_common_divisor : Def K mg "common_divisor" s_common_divisor p_common_divisor)
    (D_lowest_terms : Def K mg "lowest_terms" s_lowest_terms p_lowest_terms)
    (D_expectation : Def K mg "expectation" s_expectation p_expectation)
    (D_call_expect : Def K mg "call_expect" s_call_expect p_call_expect)
    (D_judgement : Def K mg "judgement" s_judgement p_judgement)
    (D_call_judge : Def K mg "call_judge" s_call_judge p_call_judge)
    (D_call_best : Def K mg "call_best" s_call_best p_call_best)
    (D_ways_to_pick : Def K mg "ways_to_pick" s_ways_to_pick p_ways_to_pick)
    (D_halves_apart : Def K mg "halves_apart" s_halves_apart p_halves_apart)
    (D_most_even_half : Def K mg "most_even_half" s_most_even_half p_most_even_half)
    (D_is_split_row : Def K mg "is_split_row" s_is_split_row p_is_split_row)
    (D_call_split : Def K mg "call_split" s_call_split p_call_split)
    (D_halfway_to_mean : Def K mg "halfway_to_mean" s_halfway_to_mean p_halfway_to_mean)
    (D_draw_from_pool : Def K mg "draw_from_pool" s_draw_from_pool p_draw_from_pool)
    (D_share_at : Def K mg "share_at" s_share_at p_share_at)
    (D_give_rating : Def K mg "give_rating" s_give_rating p_give_rating)
    (D_settle_players : Def K mg "settle_players" s_settle_players p_settle_players)
    (D_end_season : Def K mg "end_season" s_end_season p_end_season)
    (D_call_season : Def K mg "call_season" s_call_season p_call_season)
    (D_answer_next : Def K mg "answer_next" s_answer_next p_answer_next) (F : Fun K "answers" "answers" s_answers f fd)
    (hT : ∃ (Ta f0 f1 f2 f3 f4 f5 f6 f7 f8 f9 f10 f11 f12 f13 f14 f15 f16 f17 f18 f19 : Addr), mg "CALLS" = some (.ref Ta) ∧ (∀ H, SqT K H Ta ([f0, f1, f2, f3, f4, f5, f6, f7, f8, f9, f10, f11, f12, f13, f14, f15, f16, f17, f18, f19].map V.ref)) ∧ mg "call_begin" = some (.ref f0) ∧ mg "call_player" = some (.ref f1) ∧ mg "call_queue" = some (.ref f2) ∧ mg "call_unqueue" = some (.ref f3) ∧ mg "call_tick" = some (.ref f4) ∧ mg "call_result" = some (.ref f5) ∧ mg "call_leave" = some (.ref f6) ∧ mg "call_rating" = some (.ref f7) ∧ mg "call_ladder" = some (.ref f8) ∧ mg "call_entries" = some (.ref f9) ∧ mg "call_matches" = some (.ref f10) ∧ mg "call_expect" = some (.ref f11) ∧ mg "call_judge" = some (.ref f12) ∧ mg "call_best" = some (.ref f13) ∧ mg "call_season" = some (.ref f14) ∧ mg "call_sums" = some (.ref f15) ∧ mg "call_split" = some (.ref f16) ∧ mg "call_window" = some (.ref f17) ∧ mg "call_state" = some (.ref f18) ∧ mg "call_remove" = some (.ref f19)) : FnOk P w K mg base CX0 22 f fd p_answers (sp_answers K) := by
  have G_numbers_of := ok_numbers_of (P := P) (w := w) (mg := mg) (base := base) T.toTxt CC D_numbers_of
  have G_numbersE := ok_numbersE (P := P) (w := w) (mg := mg) (base := base) T.toTxt CC D_numbers_of
  have G_ratings_of := ok_ratings_of (P := P) (w := w) (mg := mg) (base := base) T.toTxt CC D_ratings_of
  have G_rating_sum := ok_rating_sum (P := P) (w := w) (mg := mg) (base := base) T.toTxt CC D_rating_sum
  have G_members_of := ok_members_of (P := P) (w := w) (mg := mg) (base := base) T.toTxt CC D_members_of
  have G_parties_without := ok_parties_without (P := P) (w := w) (mg := mg) (base := base) T.toTxt CC D_parties_without
  have G_ways_to_take := ok_ways (P := P) (w := w) (mg := mg) (base := base) T.toTxt CC D_ways_to_take 14
  have G_window_of := ok_window_of (P := P) (w := w) (mg := mg) (base := base) T.toTxt CC D_window_of
  have G_waits := ok_waits (P := P) (w := w) (mg := mg) (base := base) T.toTxt CC D_waits G_numbers_of
  have C_Pairing := ok_Pairing (P := P) (w := w) (mg := mg) (base := base) T.toTxt CC D_Pairing___init__ mk_Pairing kc_Pairing gC_Pairing G_rating_sum
  have G_is_better := ok_is_better (P := P) (w := w) (mg := mg) (base := base) CC D_is_better
  have G_rounded_up := ok_rounded_up (P := P) (w := w) (mg := mg) (base := base) D_rounded_up
  have G_taken_since := ok_taken_since (P := P) (w := w) (mg := mg) (base := base) T.toTxt CC D_taken_since G_rating_sum G_rounded_up
  have G_playable_since := ok_playable_since (P := P) (w := w) (mg := mg) (base := base) T.toTxt CC D_playable_since G_rating_sum G_taken_since
  have G_first_unwilling := ok_first_unwilling (P := P) (w := w) (mg := mg) (base := base) T.toTxt CC D_first_unwilling G_rating_sum G_taken_since
  have G_pairings_of := ok_pairings_of (P := P) (w := w) (mg := mg) (base := base) T.toTxt CC D_pairings_of G_parties_without G_ways_to_take G_first_unwilling C_Pairing
  have C_Match := ok_Match (P := P) (w := w) (mg := mg) (base := base) CC D_Match___init__ mk_Match kc_Match gC_Match
  have C_Party := ok_Party (P := P) (w := w) (mg := mg) (base := base) CC D_Party___init__ mk_Party kc_Party gC_Party
  have C_Player := ok_Player (P := P) (w := w) (mg := mg) (base := base) CC D_Player___init__ mk_Player kc_Player gC_Player
  have C_Rules := ok_Rules (P := P) (w := w) (mg := mg) (base := base) CC D_Rules___init__ mk_Rules kc_Rules gC_Rules
  have M_take_number := ok_take_number (P := P) (w := w) (mg := mg) (base := base) CC D_World_take_number
  have M_start_over := ok_start_over (P := P) (w := w) (mg := mg) (base := base) CC D_World_start_over
  have C_World := ok_World (P := P) (w := w) (mg := mg) (base := base) CC D_World___init__ mk_World kc_World gC_World C_Rules M_start_over
  have C_Reader := ok_Reader (P := P) (w := w) (mg := mg) (base := base) CC D_Reader___init__ mk_Reader kc_Reader gC_Reader
  have M_has_more := ok_has_more (P := P) (w := w) (mg := mg) (base := base) T.toTxt CC D_Reader_has_more
  have M_take_whole := ok_take_whole (P := P) (w := w) (mg := mg) (base := base) T.toTxt CC D_Reader_take_whole
  have M_take_row := ok_take_row (P := P) (w := w) (mg := mg) (base := base) T.toTxt CC D_Reader_take_row M_take_whole
  have G_best_match := ok_best_match (P := P) (w := w) (mg := mg) (base := base) T.toTxt CC D_best_match G_pairings_of G_is_better
  have G_match_in_turn := ok_match_in_turn (P := P) (w := w) (mg := mg) (base := base) T.toTxt CC D_match_in_turn G_best_match
  have G_begin_match := ok_begin_match (P := P) (w := w) (mg := mg) (base := base) T.toTxt CC D_begin_match M_take_number G_members_of C_Match
  have G_make_matches := ok_make_matches (P := P) (w := w) (mg := mg) (base := base) T.toTxt CC D_make_matches G_match_in_turn G_begin_match
  have G_next_play := ok_next_play (P := P) (w := w) (mg := mg) (base := base) T.toTxt CC D_next_play G_ways_to_take G_playable_since
  have G_let_ticks_go_by := ok_let_ticks (P := P) (w := w) (mg := mg) (base := base) T.toTxt CC D_let_ticks_go_by G_next_play G_make_matches
  have G_out_of_range := ok_out_of_range (P := P) (w := w) (mg := mg) (base := base) D_out_of_range
  have G_none_of_that_number := ok_none_of_that_number (P := P) (w := w) (mg := mg) (base := base) D_none_of_that_number
  have G_not_the_time := ok_not_the_time (P := P) (w := w) (mg := mg) (base := base) D_not_the_time
  have G_not_so := ok_not_so (P := P) (w := w) (mg := mg) (base := base) D_not_so
  have G_no_place := ok_no_place (P := P) (w := w) (mg := mg) (base := base) D_no_place
  have G_within := ok_within (P := P) (w := w) (mg := mg) (base := base) D_within
  have G_are_rules := ok_are_rules (P := P) (w := w) (mg := mg) (base := base) T CC D_are_rules G_within
  have G_call_begin := ok_call_begin (P := P) (w := w) (mg := mg) (base := base) T CC D_call_begin M_take_whole C_Rules G_are_rules G_out_of_range M_start_over
  have G_call_player := ok_call_player (P := P) (w := w) (mg := mg) (base := base) T CC D_call_player M_take_whole G_within G_out_of_range G_not_the_time G_no_place C_Player
  have G_call_unqueue := ok_call_unqueue (P := P) (w := w) (mg := mg) (base := base) T CC D_call_unqueue M_take_whole G_none_of_that_number
  have G_shown_matches := ok_shown_matches (P := P) (w := w) (mg := mg) (base := base) T CC D_shown_matches G_numbers_of
  have G_call_tick := ok_call_tick (P := P) (w := w) (mg := mg) (base := base) T CC D_call_tick M_take_whole G_within G_out_of_range G_no_place G_let_ticks_go_by G_shown_matches
  have G_far_of := ok_far_of (P := P) (w := w) (mg := mg) (base := base) CC D_far_of
  have G_expected := ok_expected (P := P) (w := w) (mg := mg) (base := base) T CC D_expected G_far_of
  have G_free_move := ok_free_move (P := P) (w := w) (mg := mg) (base := base) T CC D_free_move G_far_of G_expected
  have G_held_move := ok_held_move (P := P) (w := w) (mg := mg) (base := base) T CC D_held_move G_free_move
  have G_play_out := ok_play_out (P := P) (w := w) (mg := mg) (base := base) T CC D_play_out
  have G_end_match := ok_end_match (P := P) (w := w) (mg := mg) (base := base) T CC D_end_match G_ratings_of G_held_move G_play_out
  have G_loss_of := ok_loss_of (P := P) (w := w) (mg := mg) (base := base) T CC D_loss_of G_numbers_of
  have G_pay_fine := ok_pay_fine (P := P) (w := w) (mg := mg) (base := base) T CC D_pay_fine
  have G_call_result := ok_call_result (P := P) (w := w) (mg := mg) (base := base) T CC D_call_result M_take_whole G_within G_out_of_range G_none_of_that_number G_end_match
  have G_call_leave := ok_call_leave (P := P) (w := w) (mg := mg) (base := base) T CC D_call_leave M_take_whole G_numbers_of G_not_so G_none_of_that_number G_end_match G_loss_of G_pay_fine
  have G_plays := ok_plays (P := P) (w := w) (mg := mg) (base := base) T CC D_plays G_numbers_of
  have G_whereabouts := ok_whereabouts (P := P) (w := w) (mg := mg) (base := base) D_whereabouts G_waits G_plays
  have G_call_rating := ok_call_rating (P := P) (w := w) (mg := mg) (base := base) T CC D_call_rating M_take_whole G_none_of_that_number G_whereabouts
  have G_ladder_place := ok_ladder_place (P := P) (w := w) (mg := mg) (base := base) CC D_ladder_place
  have G_ladder_of := ok_ladder_of (P := P) (w := w) (mg := mg) (base := base) T CC D_ladder_of G_ladder_place
  have G_call_ladder := ok_call_ladder (P := P) (w := w) (mg := mg) (base := base) T CC D_call_ladder G_ladder_of
  have G_call_entries := ok_call_entries (P := P) (w := w) (mg := mg) (base := base) T CC D_call_entries G_window_of G_numbers_of
  have G_is_party_row := ok_is_party_row (P := P) (w := w) (mg := mg) (base := base) T D_is_party_row G_within
  have G_call_queue := ok_call_queue (P := P) (w := w) (mg := mg) (base := base) T CC D_call_queue M_take_row M_take_number G_is_party_row G_out_of_range G_none_of_that_number G_not_the_time G_no_place G_waits G_plays C_Party
  have G_call_matches := ok_call_matches (P := P) (w := w) (mg := mg) (base := base) T CC D_call_matches G_shown_matches
  have G_rating_total := ok_rating_total (P := P) (w := w) (mg := mg) (base := base) T CC D_rating_total
  have G_call_sums := ok_call_sums (P := P) (w := w) (mg := mg) (base := base) T CC D_call_sums G_rating_total
  have G_call_window := ok_call_window (P := P) (w := w) (mg := mg) (base := base) T CC D_call_window M_take_whole G_none_of_that_number G_window_of
  have G_call_state := ok_call_state (P := P) (w := w) (mg := mg) (base := base) T CC D_call_state
  have G_call_remove := ok_call_remove (P := P) (w := w) (mg := mg) (base := base) T CC D_call_remove M_take_whole G_none_of_that_number G_not_the_time G_waits G_plays
  have G_are_ratings := ok_are_ratings (P := P) (w := w) (mg := mg) (base := base) T D_are_ratings G_within
  have G_is_side_of_ratings := ok_is_side_of_ratings (P := P) (w := w) (mg := mg) (base := base) T D_is_side_of_ratings G_are_ratings
  have G_common_divisor := ok_common_divisor (P := P) (w := w) (mg := mg) (base := base) D_common_divisor
  have G_lowest_terms := ok_lowest_terms (P := P) (w := w) (mg := mg) (base := base) D_lowest_terms G_common_divisor
  have G_expectation := ok_expectation (P := P) (w := w) (mg := mg) (base := base) T CC D_expectation G_lowest_terms G_expected G_far_of
  have G_call_expect := ok_call_expect (P := P) (w := w) (mg := mg) (base := base) T CC D_call_expect M_take_row G_is_side_of_ratings G_out_of_range G_free_move G_expectation
  have G_judgement := ok_judgement (P := P) (w := w) (mg := mg) (base := base) T CC D_judgement G_members_of G_first_unwilling C_Pairing
  have G_call_judge := ok_call_judge (P := P) (w := w) (mg := mg) (base := base) T CC D_call_judge M_take_row G_none_of_that_number G_not_so G_judgement
  have G_call_best := ok_call_best (P := P) (w := w) (mg := mg) (base := base) T CC D_call_best M_take_whole G_none_of_that_number G_best_match G_numbersE
  have G_ways_to_pick := ok_pick (P := P) (w := w) (mg := mg) (base := base) T.toTxt D_ways_to_pick 11
  have G_halves_apart := ok_halves_apart (P := P) (w := w) (mg := mg) (base := base) T.toTxt D_halves_apart
  have G_most_even_half := ok_most_even_half (P := P) (w := w) (mg := mg) (base := base) T.toTxt D_most_even_half G_ways_to_pick G_halves_apart
  have G_is_split_row := ok_is_split_row (P := P) (w := w) (mg := mg) (base := base) T D_is_split_row G_are_ratings
  have G_call_split := ok_call_split (P := P) (w := w) (mg := mg) (base := base) T CC D_call_split M_take_row G_is_split_row G_out_of_range G_most_even_half G_halves_apart
  have G_halfway_to_mean := ok_halfway_to_mean (P := P) (w := w) (mg := mg) (base := base) T.toTxt D_halfway_to_mean
  have G_draw_from_pool := ok_draw_from_pool (P := P) (w := w) (mg := mg) (base := base) T.toTxt CC D_draw_from_pool
  have G_share_at := ok_share_at (P := P) (w := w) (mg := mg) (base := base) D_share_at
  have G_give_rating := ok_give_rating (P := P) (w := w) (mg := mg) (base := base) T.toTxt CC D_give_rating
  have G_settle_players := ok_settle_players (P := P) (w := w) (mg := mg) (base := base) T CC D_settle_players G_ladder_of G_ratings_of G_halfway_to_mean G_draw_from_pool G_share_at G_give_rating
  have G_end_season := ok_end_season (P := P) (w := w) (mg := mg) (base := base) T CC D_end_season G_settle_players
  have G_call_season := ok_call_season (P := P) (w := w) (mg := mg) (base := base) T CC D_call_season G_not_the_time G_end_season
  obtain ⟨Ta, f0, f1, f2, f3, f4, f5, f6, f7, f8, f9, f10, f11, f12, f13, f14, f15, f16, f17, f18, f19, hT, hS, m0, m1, m2, m3, m4, m5, m6, m7, m8, m9, m10, m11, m12, m13, m14, m15, m16, m17, m18, m19⟩ := hT
  have G_answer_next := ok_answer_next (P := P) (w := w) (base := base) (k := 20) CC D_answer_next M_take_whole hT hS rfl (by decide) (fun j f hf => ?_)
  · exact ok_answers T CC F C_World C_Reader M_has_more G_answer_next
  · match j, hf with
    | 0, hf => cases hf; exact G_call_begin.held m0 (by decide)
    | 1, hf => cases hf; exact G_call_player.held m1 (by decide)
    | 2, hf => cases hf; exact G_call_queue.held m2 (by decide)
    | 3, hf => cases hf; exact G_call_unqueue.held m3 (by decide)
    | 4, hf => cases hf; exact G_call_tick.held m4 (by decide)
    | 5, hf => cases hf; exact G_call_result.held m5 (by decide)
    | 6, hf => cases hf; exact G_call_leave.held m6 (by decide)
    | 7, hf => cases hf; exact G_call_rating.held m7 (by decide)
    | 8, hf => cases hf; exact G_call_ladder.held m8 (by decide)
    | 9, hf => cases hf; exact G_call_entries.held m9 (by decide)
    | 10, hf => cases hf; exact G_call_matches.held m10 (by decide)
    | 11, hf => cases hf; exact G_call_expect.held m11 (by decide)
    | 12, hf => cases hf; exact G_call_judge.held m12 (by decide)
    | 13, hf => cases hf; exact G_call_best.held m13 (by decide)
    | 14, hf => cases hf; exact G_call_season.held m14 (by decide)
    | 15, hf => cases hf; exact G_call_sums.held m15 (by decide)
    | 16, hf => cases hf; exact G_call_split.held m16 (by decide)
    | 17, hf => cases hf; exact G_call_window.held m17 (by decide)
    | 18, hf => cases hf; exact G_call_state.held m18 (by decide)
    | 19, hf => cases hf; exact G_call_remove.held m19 (by decide)
    | j + 20, hf => cases hf
end EM
namespace EM
open PySem PySem.Spec PyProof.Rows L2 Evl
theorem classes_mk {K : PySem.W.Frag} {h : Heap} {mg : Str → Option Value} (X : K.In h) (GG : h.Ns mainGlobals mg)
    {R : Addr} (aR : PySem.W.nsIn K mainGlobals "Rules" = some (some (.ref R))) (pgR : PySem.W.plainGet K R Str.empty = true) (hdR : PySem.W.hasDictIn K R = true) (poR : PySem.W.plainOver K R = true) (saR : PySem.W.findIn K (.ref R) "__setattr__" = some (some (.builtin "object.__setattr__"))) (mkR : PySem.W.makesIn K R = true) (kcR : PySem.W.keepIn K (.ref R) = true)
    (nR0 : PySem.W.findIn K (.ref R) "side" = some none)
    (nR1 : PySem.W.findIn K (.ref R) "base" = some none)
    (nR2 : PySem.W.findIn K (.ref R) "step" = some none)
    (nR3 : PySem.W.findIn K (.ref R) "factor" = some none)
    (nR4 : PySem.W.findIn K (.ref R) "reach" = some none)
    (nR5 : PySem.W.findIn K (.ref R) "fine" = some none)
    {P : Addr} (aP : PySem.W.nsIn K mainGlobals "Player" = some (some (.ref P))) (pgP : PySem.W.plainGet K P Str.empty = true) (hdP : PySem.W.hasDictIn K P = true) (poP : PySem.W.plainOver K P = true) (saP : PySem.W.findIn K (.ref P) "__setattr__" = some (some (.builtin "object.__setattr__"))) (mkP : PySem.W.makesIn K P = true) (kcP : PySem.W.keepIn K (.ref P) = true)
    (nP0 : PySem.W.findIn K (.ref P) "number" = some none)
    (nP1 : PySem.W.findIn K (.ref P) "rating" = some none)
    (nP2 : PySem.W.findIn K (.ref P) "games" = some none)
    (nP3 : PySem.W.findIn K (.ref P) "wins" = some none)
    (nP4 : PySem.W.findIn K (.ref P) "leaves" = some none)
    {E : Addr} (aE : PySem.W.nsIn K mainGlobals "Party" = some (some (.ref E))) (pgE : PySem.W.plainGet K E Str.empty = true) (hdE : PySem.W.hasDictIn K E = true) (poE : PySem.W.plainOver K E = true) (saE : PySem.W.findIn K (.ref E) "__setattr__" = some (some (.builtin "object.__setattr__"))) (mkE : PySem.W.makesIn K E = true) (kcE : PySem.W.keepIn K (.ref E) = true)
    (nE0 : PySem.W.findIn K (.ref E) "number" = some none)
    (nE1 : PySem.W.findIn K (.ref E) "members" = some none)
    (nE2 : PySem.W.findIn K (.ref E) "since" = some none)
    {M : Addr} (aM : PySem.W.nsIn K mainGlobals "Match" = some (some (.ref M))) (pgM : PySem.W.plainGet K M Str.empty = true) (hdM : PySem.W.hasDictIn K M = true) (poM : PySem.W.plainOver K M = true) (saM : PySem.W.findIn K (.ref M) "__setattr__" = some (some (.builtin "object.__setattr__"))) (mkM : PySem.W.makesIn K M = true) (kcM : PySem.W.keepIn K (.ref M) = true)
    (nM0 : PySem.W.findIn K (.ref M) "number" = some none)
    (nM1 : PySem.W.findIn K (.ref M) "first" = some none)
    (nM2 : PySem.W.findIn K (.ref M) "second" = some none)
    {W : Addr} (aW : PySem.W.nsIn K mainGlobals "World" = some (some (.ref W))) (pgW : PySem.W.plainGet K W Str.empty = true) (hdW : PySem.W.hasDictIn K W = true) (poW : PySem.W.plainOver K W = true) (saW : PySem.W.findIn K (.ref W) "__setattr__" = some (some (.builtin "object.__setattr__"))) (mkW : PySem.W.makesIn K W = true) (kcW : PySem.W.keepIn K (.ref W) = true)
    (nW0 : PySem.W.findIn K (.ref W) "rules" = some none)
    (nW1 : PySem.W.findIn K (.ref W) "tick" = some none)
    (nW2 : PySem.W.findIn K (.ref W) "pool" = some none)
    (nW3 : PySem.W.findIn K (.ref W) "season" = some none)
    (nW4 : PySem.W.findIn K (.ref W) "upcoming" = some none)
    (nW5 : PySem.W.findIn K (.ref W) "players" = some none)
    (nW6 : PySem.W.findIn K (.ref W) "parties" = some none)
    (nW7 : PySem.W.findIn K (.ref W) "matches" = some none)
    {G : Addr} (aG : PySem.W.nsIn K mainGlobals "Pairing" = some (some (.ref G))) (pgG : PySem.W.plainGet K G Str.empty = true) (hdG : PySem.W.hasDictIn K G = true) (poG : PySem.W.plainOver K G = true) (saG : PySem.W.findIn K (.ref G) "__setattr__" = some (some (.builtin "object.__setattr__"))) (mkG : PySem.W.makesIn K G = true) (kcG : PySem.W.keepIn K (.ref G) = true)
    (nG0 : PySem.W.findIn K (.ref G) "first" = some none)
    (nG1 : PySem.W.findIn K (.ref G) "second" = some none)
    (nG2 : PySem.W.findIn K (.ref G) "uneven" = some none)
    (nG3 : PySem.W.findIn K (.ref G) "waited" = some none)
    {D : Addr} (aD : PySem.W.nsIn K mainGlobals "Reader" = some (some (.ref D))) (pgD : PySem.W.plainGet K D Str.empty = true) (hdD : PySem.W.hasDictIn K D = true) (poD : PySem.W.plainOver K D = true) (saD : PySem.W.findIn K (.ref D) "__setattr__" = some (some (.builtin "object.__setattr__"))) (mkD : PySem.W.makesIn K D = true) (kcD : PySem.W.keepIn K (.ref D) = true)
    (nD0 : PySem.W.findIn K (.ref D) "calls" = some none)
    (nD1 : PySem.W.findIn K (.ref D) "place" = some none)
    {f0 : Addr} {od0 an0 : Option Addr} {sl0 : Array (Option Value)} {oc0 kV0 dc0 pm0 cd0 ct0 : Value} (b0 : PySem.W.findIn K (.ref G) "__init__" = some (some (.ref f0))) (i0 : PySem.W.isFn K (.ref f0) = true) (l0 : K.lookup f0 = some ⟨oc0, od0, .func (PySem.W.fnOf "__init__" "Pairing.__init__" (defArgs s_Pairing___init__) (defBody s_Pairing___init__) (defScope s_Pairing___init__) .none kV0 dc0 pm0 an0 cd0 ct0), sl0⟩) (c0 : PySem.W.codeIn K cd0 "Pairing.__init__" = true) (k0 : PySem.W.keepIn K (.ref f0) = true)
    {f1 : Addr} {od1 an1 : Option Addr} {sl1 : Array (Option Value)} {oc1 kV1 dc1 pm1 cd1 ct1 : Value} (b1 : PySem.W.findIn K (.ref M) "__init__" = some (some (.ref f1))) (i1 : PySem.W.isFn K (.ref f1) = true) (l1 : K.lookup f1 = some ⟨oc1, od1, .func (PySem.W.fnOf "__init__" "Match.__init__" (defArgs s_Match___init__) (defBody s_Match___init__) (defScope s_Match___init__) .none kV1 dc1 pm1 an1 cd1 ct1), sl1⟩) (c1 : PySem.W.codeIn K cd1 "Match.__init__" = true) (k1 : PySem.W.keepIn K (.ref f1) = true)
    {f2 : Addr} {od2 an2 : Option Addr} {sl2 : Array (Option Value)} {oc2 kV2 dc2 pm2 cd2 ct2 : Value} (b2 : PySem.W.findIn K (.ref E) "__init__" = some (some (.ref f2))) (i2 : PySem.W.isFn K (.ref f2) = true) (l2 : K.lookup f2 = some ⟨oc2, od2, .func (PySem.W.fnOf "__init__" "Party.__init__" (defArgs s_Party___init__) (defBody s_Party___init__) (defScope s_Party___init__) .none kV2 dc2 pm2 an2 cd2 ct2), sl2⟩) (c2 : PySem.W.codeIn K cd2 "Party.__init__" = true) (k2 : PySem.W.keepIn K (.ref f2) = true)
    {f3 : Addr} {od3 an3 : Option Addr} {sl3 : Array (Option Value)} {oc3 kV3 dc3 pm3 cd3 ct3 : Value} (b3 : PySem.W.findIn K (.ref P) "__init__" = some (some (.ref f3))) (i3 : PySem.W.isFn K (.ref f3) = true) (l3 : K.lookup f3 = some ⟨oc3, od3, .func (PySem.W.fnOf "__init__" "Player.__init__" (defArgs s_Player___init__) (defBody s_Player___init__) (defScope s_Player___init__) .none kV3 dc3 pm3 an3 cd3 ct3), sl3⟩) (c3 : PySem.W.codeIn K cd3 "Player.__init__" = true) (k3 : PySem.W.keepIn K (.ref f3) = true)
    {f4 : Addr} {od4 an4 : Option Addr} {sl4 : Array (Option Value)} {oc4 kV4 dc4 pm4 cd4 ct4 : Value} (b4 : PySem.W.findIn K (.ref R) "__init__" = some (some (.ref f4))) (i4 : PySem.W.isFn K (.ref f4) = true) (l4 : K.lookup f4 = some ⟨oc4, od4, .func (PySem.W.fnOf "__init__" "Rules.__init__" (defArgs s_Rules___init__) (defBody s_Rules___init__) (defScope s_Rules___init__) .none kV4 dc4 pm4 an4 cd4 ct4), sl4⟩) (c4 : PySem.W.codeIn K cd4 "Rules.__init__" = true) (k4 : PySem.W.keepIn K (.ref f4) = true)
    {f5 : Addr} {od5 an5 : Option Addr} {sl5 : Array (Option Value)} {oc5 kV5 dc5 pm5 cd5 ct5 : Value} (b5 : PySem.W.findIn K (.ref W) "take_number" = some (some (.ref f5))) (i5 : PySem.W.isFn K (.ref f5) = true) (l5 : K.lookup f5 = some ⟨oc5, od5, .func (PySem.W.fnOf "take_number" "World.take_number" (defArgs s_World_take_number) (defBody s_World_take_number) (defScope s_World_take_number) .none kV5 dc5 pm5 an5 cd5 ct5), sl5⟩) (c5 : PySem.W.codeIn K cd5 "World.take_number" = true) (k5 : PySem.W.keepIn K (.ref f5) = true)
    {f6 : Addr} {od6 an6 : Option Addr} {sl6 : Array (Option Value)} {oc6 kV6 dc6 pm6 cd6 ct6 : Value} (b6 : PySem.W.findIn K (.ref W) "start_over" = some (some (.ref f6))) (i6 : PySem.W.isFn K (.ref f6) = true) (l6 : K.lookup f6 = some ⟨oc6, od6, .func (PySem.W.fnOf "start_over" "World.start_over" (defArgs s_World_start_over) (defBody s_World_start_over) (defScope s_World_start_over) .none kV6 dc6 pm6 an6 cd6 ct6), sl6⟩) (c6 : PySem.W.codeIn K cd6 "World.start_over" = true) (k6 : PySem.W.keepIn K (.ref f6) = true)
    {f7 : Addr} {od7 an7 : Option Addr} {sl7 : Array (Option Value)} {oc7 kV7 dc7 pm7 cd7 ct7 : Value} (b7 : PySem.W.findIn K (.ref W) "__init__" = some (some (.ref f7))) (i7 : PySem.W.isFn K (.ref f7) = true) (l7 : K.lookup f7 = some ⟨oc7, od7, .func (PySem.W.fnOf "__init__" "World.__init__" (defArgs s_World___init__) (defBody s_World___init__) (defScope s_World___init__) .none kV7 dc7 pm7 an7 cd7 ct7), sl7⟩) (c7 : PySem.W.codeIn K cd7 "World.__init__" = true) (k7 : PySem.W.keepIn K (.ref f7) = true)
    {f8 : Addr} {od8 an8 : Option Addr} {sl8 : Array (Option Value)} {oc8 kV8 dc8 pm8 cd8 ct8 : Value} (b8 : PySem.W.findIn K (.ref D) "__init__" = some (some (.ref f8))) (i8 : PySem.W.isFn K (.ref f8) = true) (l8 : K.lookup f8 = some ⟨oc8, od8, .func (PySem.W.fnOf "__init__" "Reader.__init__" (defArgs s_Reader___init__) (defBody s_Reader___init__) (defScope s_Reader___init__) .none kV8 dc8 pm8 an8 cd8 ct8), sl8⟩) (c8 : PySem.W.codeIn K cd8 "Reader.__init__" = true) (k8 : PySem.W.keepIn K (.ref f8) = true)
    {f9 : Addr} {od9 an9 : Option Addr} {sl9 : Array (Option Value)} {oc9 kV9 dc9 pm9 cd9 ct9 : Value} (b9 : PySem.W.findIn K (.ref D) "has_more" = some (some (.ref f9))) (i9 : PySem.W.isFn K (.ref f9) = true) (l9 : K.lookup f9 = some ⟨oc9, od9, .func (PySem.W.fnOf "has_more" "Reader.has_more" (defArgs s_Reader_has_more) (defBody s_Reader_has_more) (defScope s_Reader_has_more) .none kV9 dc9 pm9 an9 cd9 ct9), sl9⟩) (c9 : PySem.W.codeIn K cd9 "Reader.has_more" = true) (k9 : PySem.W.keepIn K (.ref f9) = true)
    {f10 : Addr} {od10 an10 : Option Addr} {sl10 : Array (Option Value)} {oc10 kV10 dc10 pm10 cd10 ct10 : Value} (b10 : PySem.W.findIn K (.ref D) "take_whole" = some (some (.ref f10))) (i10 : PySem.W.isFn K (.ref f10) = true) (l10 : K.lookup f10 = some ⟨oc10, od10, .func (PySem.W.fnOf "take_whole" "Reader.take_whole" (defArgs s_Reader_take_whole) (defBody s_Reader_take_whole) (defScope s_Reader_take_whole) .none kV10 dc10 pm10 an10 cd10 ct10), sl10⟩) (c10 : PySem.W.codeIn K cd10 "Reader.take_whole" = true) (k10 : PySem.W.keepIn K (.ref f10) = true)
    {f11 : Addr} {od11 an11 : Option Addr} {sl11 : Array (Option Value)} {oc11 kV11 dc11 pm11 cd11 ct11 : Value} (b11 : PySem.W.findIn K (.ref D) "take_row" = some (some (.ref f11))) (i11 : PySem.W.isFn K (.ref f11) = true) (l11 : K.lookup f11 = some ⟨oc11, od11, .func (PySem.W.fnOf "take_row" "Reader.take_row" (defArgs s_Reader_take_row) (defBody s_Reader_take_row) (defScope s_Reader_take_row) .none kV11 dc11 pm11 an11 cd11 ct11), sl11⟩) (c11 : PySem.W.codeIn K cd11 "Reader.take_row" = true) (k11 : PySem.W.keepIn K (.ref f11) = true)
    : ∃ c : Cs, CT K c ∧ mg "Rules" = some (.ref c.R) ∧ PySem.W.makesIn K c.R = true ∧ PySem.W.keepIn K (.ref c.R) = true ∧ mg "Player" = some (.ref c.P) ∧ PySem.W.makesIn K c.P = true ∧ PySem.W.keepIn K (.ref c.P) = true ∧ mg "Party" = some (.ref c.E) ∧ PySem.W.makesIn K c.E = true ∧ PySem.W.keepIn K (.ref c.E) = true ∧ mg "Match" = some (.ref c.M) ∧ PySem.W.makesIn K c.M = true ∧ PySem.W.keepIn K (.ref c.M) = true ∧ mg "World" = some (.ref c.W) ∧ PySem.W.makesIn K c.W = true ∧ PySem.W.keepIn K (.ref c.W) = true ∧ mg "Pairing" = some (.ref c.G) ∧ PySem.W.makesIn K c.G = true ∧ PySem.W.keepIn K (.ref c.G) = true ∧ mg "Reader" = some (.ref c.D) ∧ PySem.W.makesIn K c.D = true ∧ PySem.W.keepIn K (.ref c.D) = true ∧ DefM K c.G "__init__" "Pairing.__init__" s_Pairing___init__ p_Pairing___init__ ∧ DefM K c.M "__init__" "Match.__init__" s_Match___init__ p_Match___init__ ∧ DefM K c.E "__init__" "Party.__init__" s_Party___init__ p_Party___init__ ∧ DefM K c.P "__init__" "Player.__init__" s_Player___init__ p_Player___init__ ∧ DefM K c.R "__init__" "Rules.__init__" s_Rules___init__ p_Rules___init__ ∧ DefM K c.W "take_number" "World.take_number" s_World_take_number p_World_take_number ∧ DefM K c.W "start_over" "World.start_over" s_World_start_over p_World_start_over ∧ DefM K c.W "__init__" "World.__init__" s_World___init__ p_World___init__ ∧ DefM K c.D "__init__" "Reader.__init__" s_Reader___init__ p_Reader___init__ ∧ DefM K c.D "has_more" "Reader.has_more" s_Reader_has_more p_Reader_has_more ∧ DefM K c.D "take_whole" "Reader.take_whole" s_Reader_take_whole p_Reader_take_whole ∧ DefM K c.D "take_row" "Reader.take_row" s_Reader_take_row p_Reader_take_row := by
  have clR : Cls K R := ⟨pgR, hdR, poR, saR⟩
  have naR : ∀ f ∈ rulesN, NoAttr K R f := by
    intro f hf
    simp only [rulesN, List.mem_cons, List.not_mem_nil, or_false] at hf
    rcases hf with rfl | rfl | rfl | rfl | rfl | rfl
    · exact nR0
    · exact nR1
    · exact nR2
    · exact nR3
    · exact nR4
    · exact nR5
  have clP : Cls K P := ⟨pgP, hdP, poP, saP⟩
  have naP : ∀ f ∈ playerN, NoAttr K P f := by
    intro f hf
    simp only [playerN, List.mem_cons, List.not_mem_nil, or_false] at hf
    rcases hf with rfl | rfl | rfl | rfl | rfl
    · exact nP0
    · exact nP1
    · exact nP2
    · exact nP3
    · exact nP4
  have clE : Cls K E := ⟨pgE, hdE, poE, saE⟩
  have naE : ∀ f ∈ entryN, NoAttr K E f := by
    intro f hf
    simp only [entryN, List.mem_cons, List.not_mem_nil, or_false] at hf
    rcases hf with rfl | rfl | rfl
    · exact nE0
    · exact nE1
    · exact nE2
  have clM : Cls K M := ⟨pgM, hdM, poM, saM⟩
  have naM : ∀ f ∈ matchN, NoAttr K M f := by
    intro f hf
    simp only [matchN, List.mem_cons, List.not_mem_nil, or_false] at hf
    rcases hf with rfl | rfl | rfl
    · exact nM0
    · exact nM1
    · exact nM2
  have clW : Cls K W := ⟨pgW, hdW, poW, saW⟩
  have naW : ∀ f ∈ worldN, NoAttr K W f := by
    intro f hf
    simp only [worldN, List.mem_cons, List.not_mem_nil, or_false] at hf
    rcases hf with rfl | rfl | rfl | rfl | rfl | rfl | rfl | rfl
    · exact nW0
    · exact nW1
    · exact nW2
    · exact nW3
    · exact nW4
    · exact nW5
    · exact nW6
    · exact nW7
  have clG : Cls K G := ⟨pgG, hdG, poG, saG⟩
  have naG : ∀ f ∈ pairN, NoAttr K G f := by
    intro f hf
    simp only [pairN, List.mem_cons, List.not_mem_nil, or_false] at hf
    rcases hf with rfl | rfl | rfl | rfl
    · exact nG0
    · exact nG1
    · exact nG2
    · exact nG3
  have clD : Cls K D := ⟨pgD, hdD, poD, saD⟩
  have naD : ∀ f ∈ readerN, NoAttr K D f := by
    intro f hf
    simp only [readerN, List.mem_cons, List.not_mem_nil, or_false] at hf
    rcases hf with rfl | rfl
    · exact nD0
    · exact nD1
  exact ⟨⟨R, P, E, M, W, G, D⟩, ⟨⟨clR, naR⟩, ⟨clP, naP⟩, ⟨clE, naE⟩, ⟨clM, naM⟩, ⟨clW, naW⟩, ⟨clG, naG⟩, ⟨clD, naD⟩⟩, PySem.W.mg_of X GG aR, mkR, kcR, PySem.W.mg_of X GG aP, mkP, kcP, PySem.W.mg_of X GG aE, mkE, kcE, PySem.W.mg_of X GG aM, mkM, kcM, PySem.W.mg_of X GG aW, mkW, kcW, PySem.W.mg_of X GG aG, mkG, kcG, PySem.W.mg_of X GG aD, mkD, kcD, mk_Pairing___init__ clG b0 i0 l0 c0 k0, mk_Match___init__ clM b1 i1 l1 c1 k1, mk_Party___init__ clE b2 i2 l2 c2 k2, mk_Player___init__ clP b3 i3 l3 c3 k3, mk_Rules___init__ clR b4 i4 l4 c4 k4, mk_World_take_number clW b5 i5 l5 c5 k5, mk_World_start_over clW b6 i6 l6 c6 k6, mk_World___init__ clW b7 i7 l7 c7 k7, mk_Reader___init__ clD b8 i8 l8 c8 k8, mk_Reader_has_more clD b9 i9 l9 c9 k9, mk_Reader_take_whole clD b10 i10 l10 c10 k10, mk_Reader_take_row clD b11 i11 l11 c11 k11⟩
end EM

open PySem PySem.W PyProof.Rows
set_option maxHeartbeats 0 in
theorem PySem.Challenge.cw_evenmatches_s01_answers_holds : PySem.Challenge.rw_evenmatches_s01_answers.Holds := by
  w_on; k_headS; (case hw => exact ⟨[.list [.int 8]], by decide +kernel, by decide +kernel⟩)
  k_fillS
  refine L2.walk_specK (r := PySem.Challenge.rw_evenmatches_s01_answers) (k := 22) (CX := L2.CX0) (ps := ["calls"]) (sp := EM.sp_answers) (by decide +kernel) rfl rfl ⟨rfl, by decide, by decide⟩ (fun w h Y => PySem.W.kIn_of Y) ?F ?S (fun _ _ _ _ z => z)
  case F =>
    intro w mg fa h Y KX G hmg
    have T : EM.TxtK mg := by
      refine' ⟨⟨EM.const_mk KX G ?T_TOP ?E_TOP, PySem.W.mg_none_of KX G ?T_len, PySem.W.mg_none_of KX G ?T_max, PySem.W.mg_none_of KX G ?T_min, PySem.W.mg_none_of KX G ?T_abs, PySem.W.mg_none_of KX G ?T_sum, PySem.W.mg_none_of KX G ?T_any, PySem.W.mg_none_of KX G ?T_all, PySem.W.mg_none_of KX G ?T_list, PySem.W.mg_none_of KX G ?T_set, PySem.W.mg_none_of KX G ?T_sorted, PySem.W.mg_none_of KX G ?T_range, PySem.W.mg_none_of KX G ?T_enumerate⟩, EM.const_mk KX G ?T_SECOND_WON ?E_SECOND_WON, EM.const_mk KX G ?T_DRAW ?E_DRAW, EM.const_mk KX G ?T_FIRST_WON ?E_FIRST_WON, EM.const_mk KX G ?T_MOST_NUMBER ?E_MOST_NUMBER, EM.const_mk KX G ?T_MOST_PLAYERS ?E_MOST_PLAYERS, EM.const_mk KX G ?T_MOST_PARTIES ?E_MOST_PARTIES, EM.const_mk KX G ?T_MOST_TICKS ?E_MOST_TICKS, EM.const_mk KX G ?T_MOST_SPLIT ?E_MOST_SPLIT, EM.const_mk KX G ?T_LAST_TICK ?E_LAST_TICK, EM.const_mk KX G ?T_MILLION ?E_MILLION⟩
      (case T_TOP => k_is); (case E_TOP => exact ⟨_, rfl⟩); (case T_len => k_is); (case T_max => k_is); (case T_min => k_is); (case T_abs => k_is); (case T_sum => k_is); (case T_any => k_is); (case T_all => k_is); (case T_list => k_is); (case T_set => k_is); (case T_sorted => k_is); (case T_range => k_is); (case T_enumerate => k_is); (case T_SECOND_WON => k_is); (case E_SECOND_WON => exact ⟨_, rfl⟩); (case T_DRAW => k_is); (case E_DRAW => exact ⟨_, rfl⟩); (case T_FIRST_WON => k_is); (case E_FIRST_WON => exact ⟨_, rfl⟩); (case T_MOST_NUMBER => k_is); (case E_MOST_NUMBER => exact ⟨_, rfl⟩); (case T_MOST_PLAYERS => k_is); (case E_MOST_PLAYERS => exact ⟨_, rfl⟩); (case T_MOST_PARTIES => k_is); (case E_MOST_PARTIES => exact ⟨_, rfl⟩); (case T_MOST_TICKS => k_is); (case E_MOST_TICKS => exact ⟨_, rfl⟩); (case T_MOST_SPLIT => k_is); (case E_MOST_SPLIT => exact ⟨_, rfl⟩); (case T_LAST_TICK => k_is); (case E_LAST_TICK => exact ⟨_, rfl⟩); (case T_MILLION => k_is); (case E_MILLION => exact ⟨_, rfl⟩)
    refine' EM.step (EM.mk_numbers_of KX G ?a_numbers_of ?l_numbers_of ?c_numbers_of ?k_numbers_of) ?_
    (case a_numbers_of => k_is); (case l_numbers_of => k_is); (case c_numbers_of => k_is); (case k_numbers_of => k_is)
    intro D_numbers_of
    refine' EM.step (EM.mk_ratings_of KX G ?a_ratings_of ?l_ratings_of ?c_ratings_of ?k_ratings_of) ?_
    (case a_ratings_of => k_is); (case l_ratings_of => k_is); (case c_ratings_of => k_is); (case k_ratings_of => k_is)
    intro D_ratings_of
    refine' EM.step (EM.mk_rating_sum KX G ?a_rating_sum ?l_rating_sum ?c_rating_sum ?k_rating_sum) ?_
    (case a_rating_sum => k_is); (case l_rating_sum => k_is); (case c_rating_sum => k_is); (case k_rating_sum => k_is)
    intro D_rating_sum
    refine' EM.step (EM.mk_members_of KX G ?a_members_of ?l_members_of ?c_members_of ?k_members_of) ?_
    (case a_members_of => k_is); (case l_members_of => k_is); (case c_members_of => k_is); (case k_members_of => k_is)
    intro D_members_of
    refine' EM.step (EM.mk_parties_without KX G ?a_parties_without ?l_parties_without ?c_parties_without ?k_parties_without) ?_
    (case a_parties_without => k_is); (case l_parties_without => k_is); (case c_parties_without => k_is); (case k_parties_without => k_is)
    intro D_parties_without
    refine' EM.step (EM.mk_ways_to_take KX G ?a_ways_to_take ?l_ways_to_take ?c_ways_to_take ?k_ways_to_take) ?_
    (case a_ways_to_take => k_is); (case l_ways_to_take => k_is); (case c_ways_to_take => k_is); (case k_ways_to_take => k_is)
    intro D_ways_to_take
    refine' EM.step (EM.mk_window_of KX G ?a_window_of ?l_window_of ?c_window_of ?k_window_of) ?_
    (case a_window_of => k_is); (case l_window_of => k_is); (case c_window_of => k_is); (case k_window_of => k_is)
    intro D_window_of
    refine' EM.step (EM.mk_waits KX G ?a_waits ?l_waits ?c_waits ?k_waits) ?_
    (case a_waits => k_is); (case l_waits => k_is); (case c_waits => k_is); (case k_waits => k_is)
    intro D_waits
    refine' EM.step (EM.mk_is_better KX G ?a_is_better ?l_is_better ?c_is_better ?k_is_better) ?_
    (case a_is_better => k_is); (case l_is_better => k_is); (case c_is_better => k_is); (case k_is_better => k_is)
    intro D_is_better
    refine' EM.step (EM.mk_rounded_up KX G ?a_rounded_up ?l_rounded_up ?c_rounded_up ?k_rounded_up) ?_
    (case a_rounded_up => k_is); (case l_rounded_up => k_is); (case c_rounded_up => k_is); (case k_rounded_up => k_is)
    intro D_rounded_up
    refine' EM.step (EM.mk_taken_since KX G ?a_taken_since ?l_taken_since ?c_taken_since ?k_taken_since) ?_
    (case a_taken_since => k_is); (case l_taken_since => k_is); (case c_taken_since => k_is); (case k_taken_since => k_is)
    intro D_taken_since
    refine' EM.step (EM.mk_playable_since KX G ?a_playable_since ?l_playable_since ?c_playable_since ?k_playable_since) ?_
    (case a_playable_since => k_is); (case l_playable_since => k_is); (case c_playable_since => k_is); (case k_playable_since => k_is)
    intro D_playable_since
    refine' EM.step (EM.mk_first_unwilling KX G ?a_first_unwilling ?l_first_unwilling ?c_first_unwilling ?k_first_unwilling) ?_
    (case a_first_unwilling => k_is); (case l_first_unwilling => k_is); (case c_first_unwilling => k_is); (case k_first_unwilling => k_is)
    intro D_first_unwilling
    refine' EM.step (EM.mk_pairings_of KX G ?a_pairings_of ?l_pairings_of ?c_pairings_of ?k_pairings_of) ?_
    (case a_pairings_of => k_is); (case l_pairings_of => k_is); (case c_pairings_of => k_is); (case k_pairings_of => k_is)
    intro D_pairings_of
    refine' EM.step (EM.mk_best_match KX G ?a_best_match ?l_best_match ?c_best_match ?k_best_match) ?_
    (case a_best_match => k_is); (case l_best_match => k_is); (case c_best_match => k_is); (case k_best_match => k_is)
    intro D_best_match
    refine' EM.step (EM.mk_match_in_turn KX G ?a_match_in_turn ?l_match_in_turn ?c_match_in_turn ?k_match_in_turn) ?_
    (case a_match_in_turn => k_is); (case l_match_in_turn => k_is); (case c_match_in_turn => k_is); (case k_match_in_turn => k_is)
    intro D_match_in_turn
    refine' EM.step (EM.mk_begin_match KX G ?a_begin_match ?l_begin_match ?c_begin_match ?k_begin_match) ?_
    (case a_begin_match => k_is); (case l_begin_match => k_is); (case c_begin_match => k_is); (case k_begin_match => k_is)
    intro D_begin_match
    refine' EM.step (EM.mk_make_matches KX G ?a_make_matches ?l_make_matches ?c_make_matches ?k_make_matches) ?_
    (case a_make_matches => k_is); (case l_make_matches => k_is); (case c_make_matches => k_is); (case k_make_matches => k_is)
    intro D_make_matches
    refine' EM.step (EM.mk_next_play KX G ?a_next_play ?l_next_play ?c_next_play ?k_next_play) ?_
    (case a_next_play => k_is); (case l_next_play => k_is); (case c_next_play => k_is); (case k_next_play => k_is)
    intro D_next_play
    refine' EM.step (EM.mk_let_ticks_go_by KX G ?a_let_ticks_go_by ?l_let_ticks_go_by ?c_let_ticks_go_by ?k_let_ticks_go_by) ?_
    (case a_let_ticks_go_by => k_is); (case l_let_ticks_go_by => k_is); (case c_let_ticks_go_by => k_is); (case k_let_ticks_go_by => k_is)
    intro D_let_ticks_go_by
    refine' EM.step (EM.mk_out_of_range KX G ?a_out_of_range ?l_out_of_range ?c_out_of_range ?k_out_of_range) ?_
    (case a_out_of_range => k_is); (case l_out_of_range => k_is); (case c_out_of_range => k_is); (case k_out_of_range => k_is)
    intro D_out_of_range
    refine' EM.step (EM.mk_none_of_that_number KX G ?a_none_of_that_number ?l_none_of_that_number ?c_none_of_that_number ?k_none_of_that_number) ?_
    (case a_none_of_that_number => k_is); (case l_none_of_that_number => k_is); (case c_none_of_that_number => k_is); (case k_none_of_that_number => k_is)
    intro D_none_of_that_number
    refine' EM.step (EM.mk_not_the_time KX G ?a_not_the_time ?l_not_the_time ?c_not_the_time ?k_not_the_time) ?_
    (case a_not_the_time => k_is); (case l_not_the_time => k_is); (case c_not_the_time => k_is); (case k_not_the_time => k_is)
    intro D_not_the_time
    refine' EM.step (EM.mk_not_so KX G ?a_not_so ?l_not_so ?c_not_so ?k_not_so) ?_
    (case a_not_so => k_is); (case l_not_so => k_is); (case c_not_so => k_is); (case k_not_so => k_is)
    intro D_not_so
    refine' EM.step (EM.mk_no_place KX G ?a_no_place ?l_no_place ?c_no_place ?k_no_place) ?_
    (case a_no_place => k_is); (case l_no_place => k_is); (case c_no_place => k_is); (case k_no_place => k_is)
    intro D_no_place
    refine' EM.step (EM.mk_within KX G ?a_within ?l_within ?c_within ?k_within) ?_
    (case a_within => k_is); (case l_within => k_is); (case c_within => k_is); (case k_within => k_is)
    intro D_within
    refine' EM.step (EM.mk_are_rules KX G ?a_are_rules ?l_are_rules ?c_are_rules ?k_are_rules) ?_
    (case a_are_rules => k_is); (case l_are_rules => k_is); (case c_are_rules => k_is); (case k_are_rules => k_is)
    intro D_are_rules
    refine' EM.step (EM.mk_call_begin KX G ?a_call_begin ?l_call_begin ?c_call_begin ?k_call_begin) ?_
    (case a_call_begin => k_is); (case l_call_begin => k_is); (case c_call_begin => k_is); (case k_call_begin => k_is)
    intro D_call_begin
    refine' EM.step (EM.mk_call_player KX G ?a_call_player ?l_call_player ?c_call_player ?k_call_player) ?_
    (case a_call_player => k_is); (case l_call_player => k_is); (case c_call_player => k_is); (case k_call_player => k_is)
    intro D_call_player
    refine' EM.step (EM.mk_call_unqueue KX G ?a_call_unqueue ?l_call_unqueue ?c_call_unqueue ?k_call_unqueue) ?_
    (case a_call_unqueue => k_is); (case l_call_unqueue => k_is); (case c_call_unqueue => k_is); (case k_call_unqueue => k_is)
    intro D_call_unqueue
    refine' EM.step (EM.mk_shown_matches KX G ?a_shown_matches ?l_shown_matches ?c_shown_matches ?k_shown_matches) ?_
    (case a_shown_matches => k_is); (case l_shown_matches => k_is); (case c_shown_matches => k_is); (case k_shown_matches => k_is)
    intro D_shown_matches
    refine' EM.step (EM.mk_call_tick KX G ?a_call_tick ?l_call_tick ?c_call_tick ?k_call_tick) ?_
    (case a_call_tick => k_is); (case l_call_tick => k_is); (case c_call_tick => k_is); (case k_call_tick => k_is)
    intro D_call_tick
    refine' EM.step (EM.mk_far_of KX G ?a_far_of ?l_far_of ?c_far_of ?k_far_of) ?_
    (case a_far_of => k_is); (case l_far_of => k_is); (case c_far_of => k_is); (case k_far_of => k_is)
    intro D_far_of
    refine' EM.step (EM.mk_expected KX G ?a_expected ?l_expected ?c_expected ?k_expected) ?_
    (case a_expected => k_is); (case l_expected => k_is); (case c_expected => k_is); (case k_expected => k_is)
    intro D_expected
    refine' EM.step (EM.mk_free_move KX G ?a_free_move ?l_free_move ?c_free_move ?k_free_move) ?_
    (case a_free_move => k_is); (case l_free_move => k_is); (case c_free_move => k_is); (case k_free_move => k_is)
    intro D_free_move
    refine' EM.step (EM.mk_held_move KX G ?a_held_move ?l_held_move ?c_held_move ?k_held_move) ?_
    (case a_held_move => k_is); (case l_held_move => k_is); (case c_held_move => k_is); (case k_held_move => k_is)
    intro D_held_move
    refine' EM.step (EM.mk_play_out KX G ?a_play_out ?l_play_out ?c_play_out ?k_play_out) ?_
    (case a_play_out => k_is); (case l_play_out => k_is); (case c_play_out => k_is); (case k_play_out => k_is)
    intro D_play_out
    refine' EM.step (EM.mk_end_match KX G ?a_end_match ?l_end_match ?c_end_match ?k_end_match) ?_
    (case a_end_match => k_is); (case l_end_match => k_is); (case c_end_match => k_is); (case k_end_match => k_is)
    intro D_end_match
    refine' EM.step (EM.mk_loss_of KX G ?a_loss_of ?l_loss_of ?c_loss_of ?k_loss_of) ?_
    (case a_loss_of => k_is); (case l_loss_of => k_is); (case c_loss_of => k_is); (case k_loss_of => k_is)
    intro D_loss_of
    refine' EM.step (EM.mk_pay_fine KX G ?a_pay_fine ?l_pay_fine ?c_pay_fine ?k_pay_fine) ?_
    (case a_pay_fine => k_is); (case l_pay_fine => k_is); (case c_pay_fine => k_is); (case k_pay_fine => k_is)
    intro D_pay_fine
    refine' EM.step (EM.mk_call_result KX G ?a_call_result ?l_call_result ?c_call_result ?k_call_result) ?_
    (case a_call_result => k_is); (case l_call_result => k_is); (case c_call_result => k_is); (case k_call_result => k_is)
    intro D_call_result
    refine' EM.step (EM.mk_call_leave KX G ?a_call_leave ?l_call_leave ?c_call_leave ?k_call_leave) ?_
    (case a_call_leave => k_is); (case l_call_leave => k_is); (case c_call_leave => k_is); (case k_call_leave => k_is)
    intro D_call_leave
    refine' EM.step (EM.mk_plays KX G ?a_plays ?l_plays ?c_plays ?k_plays) ?_
    (case a_plays => k_is); (case l_plays => k_is); (case c_plays => k_is); (case k_plays => k_is)
    intro D_plays
    refine' EM.step (EM.mk_whereabouts KX G ?a_whereabouts ?l_whereabouts ?c_whereabouts ?k_whereabouts) ?_
    (case a_whereabouts => k_is); (case l_whereabouts => k_is); (case c_whereabouts => k_is); (case k_whereabouts => k_is)
    intro D_whereabouts
    refine' EM.step (EM.mk_call_rating KX G ?a_call_rating ?l_call_rating ?c_call_rating ?k_call_rating) ?_
    (case a_call_rating => k_is); (case l_call_rating => k_is); (case c_call_rating => k_is); (case k_call_rating => k_is)
    intro D_call_rating
    refine' EM.step (EM.mk_ladder_place KX G ?a_ladder_place ?l_ladder_place ?c_ladder_place ?k_ladder_place) ?_
    (case a_ladder_place => k_is); (case l_ladder_place => k_is); (case c_ladder_place => k_is); (case k_ladder_place => k_is)
    intro D_ladder_place
    refine' EM.step (EM.mk_ladder_of KX G ?a_ladder_of ?l_ladder_of ?c_ladder_of ?k_ladder_of) ?_
    (case a_ladder_of => k_is); (case l_ladder_of => k_is); (case c_ladder_of => k_is); (case k_ladder_of => k_is)
    intro D_ladder_of
    refine' EM.step (EM.mk_call_ladder KX G ?a_call_ladder ?l_call_ladder ?c_call_ladder ?k_call_ladder) ?_
    (case a_call_ladder => k_is); (case l_call_ladder => k_is); (case c_call_ladder => k_is); (case k_call_ladder => k_is)
    intro D_call_ladder
    refine' EM.step (EM.mk_call_entries KX G ?a_call_entries ?l_call_entries ?c_call_entries ?k_call_entries) ?_
    (case a_call_entries => k_is); (case l_call_entries => k_is); (case c_call_entries => k_is); (case k_call_entries => k_is)
    intro D_call_entries
    refine' EM.step (EM.mk_is_party_row KX G ?a_is_party_row ?l_is_party_row ?c_is_party_row ?k_is_party_row) ?_
    (case a_is_party_row => k_is); (case l_is_party_row => k_is); (case c_is_party_row => k_is); (case k_is_party_row => k_is)
    intro D_is_party_row
    refine' EM.step (EM.mk_call_queue KX G ?a_call_queue ?l_call_queue ?c_call_queue ?k_call_queue) ?_
    (case a_call_queue => k_is); (case l_call_queue => k_is); (case c_call_queue => k_is); (case k_call_queue => k_is)
    intro D_call_queue
    refine' EM.step (EM.mk_call_matches KX G ?a_call_matches ?l_call_matches ?c_call_matches ?k_call_matches) ?_
    (case a_call_matches => k_is); (case l_call_matches => k_is); (case c_call_matches => k_is); (case k_call_matches => k_is)
    intro D_call_matches
    refine' EM.step (EM.mk_rating_total KX G ?a_rating_total ?l_rating_total ?c_rating_total ?k_rating_total) ?_
    (case a_rating_total => k_is); (case l_rating_total => k_is); (case c_rating_total => k_is); (case k_rating_total => k_is)
    intro D_rating_total
    refine' EM.step (EM.mk_call_sums KX G ?a_call_sums ?l_call_sums ?c_call_sums ?k_call_sums) ?_
    (case a_call_sums => k_is); (case l_call_sums => k_is); (case c_call_sums => k_is); (case k_call_sums => k_is)
    intro D_call_sums
    refine' EM.step (EM.mk_call_window KX G ?a_call_window ?l_call_window ?c_call_window ?k_call_window) ?_
    (case a_call_window => k_is); (case l_call_window => k_is); (case c_call_window => k_is); (case k_call_window => k_is)
    intro D_call_window
    refine' EM.step (EM.mk_call_state KX G ?a_call_state ?l_call_state ?c_call_state ?k_call_state) ?_
    (case a_call_state => k_is); (case l_call_state => k_is); (case c_call_state => k_is); (case k_call_state => k_is)
    intro D_call_state
    refine' EM.step (EM.mk_call_remove KX G ?a_call_remove ?l_call_remove ?c_call_remove ?k_call_remove) ?_
    (case a_call_remove => k_is); (case l_call_remove => k_is); (case c_call_remove => k_is); (case k_call_remove => k_is)
    intro D_call_remove
    refine' EM.step (EM.mk_are_ratings KX G ?a_are_ratings ?l_are_ratings ?c_are_ratings ?k_are_ratings) ?_
    (case a_are_ratings => k_is); (case l_are_ratings => k_is); (case c_are_ratings => k_is); (case k_are_ratings => k_is)
    intro D_are_ratings
    refine' EM.step (EM.mk_is_side_of_ratings KX G ?a_is_side_of_ratings ?l_is_side_of_ratings ?c_is_side_of_ratings ?k_is_side_of_ratings) ?_
    (case a_is_side_of_ratings => k_is); (case l_is_side_of_ratings => k_is); (case c_is_side_of_ratings => k_is); (case k_is_side_of_ratings => k_is)
    intro D_is_side_of_ratings
    refine' EM.step (EM.mk_common_divisor KX G ?a_common_divisor ?l_common_divisor ?c_common_divisor ?k_common_divisor) ?_
    (case a_common_divisor => k_is); (case l_common_divisor => k_is); (case c_common_divisor => k_is); (case k_common_divisor => k_is)
    intro D_common_divisor
    refine' EM.step (EM.mk_lowest_terms KX G ?a_lowest_terms ?l_lowest_terms ?c_lowest_terms ?k_lowest_terms) ?_
    (case a_lowest_terms => k_is); (case l_lowest_terms => k_is); (case c_lowest_terms => k_is); (case k_lowest_terms => k_is)
    intro D_lowest_terms
    refine' EM.step (EM.mk_expectation KX G ?a_expectation ?l_expectation ?c_expectation ?k_expectation) ?_
    (case a_expectation => k_is); (case l_expectation => k_is); (case c_expectation => k_is); (case k_expectation => k_is)
    intro D_expectation
    refine' EM.step (EM.mk_call_expect KX G ?a_call_expect ?l_call_expect ?c_call_expect ?k_call_expect) ?_
    (case a_call_expect => k_is); (case l_call_expect => k_is); (case c_call_expect => k_is); (case k_call_expect => k_is)
    intro D_call_expect
    refine' EM.step (EM.mk_judgement KX G ?a_judgement ?l_judgement ?c_judgement ?k_judgement) ?_
    (case a_judgement => k_is); (case l_judgement => k_is); (case c_judgement => k_is); (case k_judgement => k_is)
    intro D_judgement
    refine' EM.step (EM.mk_call_judge KX G ?a_call_judge ?l_call_judge ?c_call_judge ?k_call_judge) ?_
    (case a_call_judge => k_is); (case l_call_judge => k_is); (case c_call_judge => k_is); (case k_call_judge => k_is)
    intro D_call_judge
    refine' EM.step (EM.mk_call_best KX G ?a_call_best ?l_call_best ?c_call_best ?k_call_best) ?_
    (case a_call_best => k_is); (case l_call_best => k_is); (case c_call_best => k_is); (case k_call_best => k_is)
    intro D_call_best
    refine' EM.step (EM.mk_ways_to_pick KX G ?a_ways_to_pick ?l_ways_to_pick ?c_ways_to_pick ?k_ways_to_pick) ?_
    (case a_ways_to_pick => k_is); (case l_ways_to_pick => k_is); (case c_ways_to_pick => k_is); (case k_ways_to_pick => k_is)
    intro D_ways_to_pick
    refine' EM.step (EM.mk_halves_apart KX G ?a_halves_apart ?l_halves_apart ?c_halves_apart ?k_halves_apart) ?_
    (case a_halves_apart => k_is); (case l_halves_apart => k_is); (case c_halves_apart => k_is); (case k_halves_apart => k_is)
    intro D_halves_apart
    refine' EM.step (EM.mk_most_even_half KX G ?a_most_even_half ?l_most_even_half ?c_most_even_half ?k_most_even_half) ?_
    (case a_most_even_half => k_is); (case l_most_even_half => k_is); (case c_most_even_half => k_is); (case k_most_even_half => k_is)
    intro D_most_even_half
    refine' EM.step (EM.mk_is_split_row KX G ?a_is_split_row ?l_is_split_row ?c_is_split_row ?k_is_split_row) ?_
    (case a_is_split_row => k_is); (case l_is_split_row => k_is); (case c_is_split_row => k_is); (case k_is_split_row => k_is)
    intro D_is_split_row
    refine' EM.step (EM.mk_call_split KX G ?a_call_split ?l_call_split ?c_call_split ?k_call_split) ?_
    (case a_call_split => k_is); (case l_call_split => k_is); (case c_call_split => k_is); (case k_call_split => k_is)
    intro D_call_split
    refine' EM.step (EM.mk_halfway_to_mean KX G ?a_halfway_to_mean ?l_halfway_to_mean ?c_halfway_to_mean ?k_halfway_to_mean) ?_
    (case a_halfway_to_mean => k_is); (case l_halfway_to_mean => k_is); (case c_halfway_to_mean => k_is); (case k_halfway_to_mean => k_is)
    intro D_halfway_to_mean
    refine' EM.step (EM.mk_draw_from_pool KX G ?a_draw_from_pool ?l_draw_from_pool ?c_draw_from_pool ?k_draw_from_pool) ?_
    (case a_draw_from_pool => k_is); (case l_draw_from_pool => k_is); (case c_draw_from_pool => k_is); (case k_draw_from_pool => k_is)
    intro D_draw_from_pool
    refine' EM.step (EM.mk_share_at KX G ?a_share_at ?l_share_at ?c_share_at ?k_share_at) ?_
    (case a_share_at => k_is); (case l_share_at => k_is); (case c_share_at => k_is); (case k_share_at => k_is)
    intro D_share_at
    refine' EM.step (EM.mk_give_rating KX G ?a_give_rating ?l_give_rating ?c_give_rating ?k_give_rating) ?_
    (case a_give_rating => k_is); (case l_give_rating => k_is); (case c_give_rating => k_is); (case k_give_rating => k_is)
    intro D_give_rating
    refine' EM.step (EM.mk_settle_players KX G ?a_settle_players ?l_settle_players ?c_settle_players ?k_settle_players) ?_
    (case a_settle_players => k_is); (case l_settle_players => k_is); (case c_settle_players => k_is); (case k_settle_players => k_is)
    intro D_settle_players
    refine' EM.step (EM.mk_end_season KX G ?a_end_season ?l_end_season ?c_end_season ?k_end_season) ?_
    (case a_end_season => k_is); (case l_end_season => k_is); (case c_end_season => k_is); (case k_end_season => k_is)
    intro D_end_season
    refine' EM.step (EM.mk_call_season KX G ?a_call_season ?l_call_season ?c_call_season ?k_call_season) ?_
    (case a_call_season => k_is); (case l_call_season => k_is); (case c_call_season => k_is); (case k_call_season => k_is)
    intro D_call_season
    refine' EM.step (EM.mk_answer_next KX G ?a_answer_next ?l_answer_next ?c_answer_next ?k_answer_next) ?_
    (case a_answer_next => k_is); (case l_answer_next => k_is); (case c_answer_next => k_is); (case k_answer_next => k_is)
    intro D_answer_next
    refine' EM.step (EM.classes_mk KX G ?yaR ?ypgR ?yhdR ?ypoR ?ysaR ?ymkR ?ykcR ?ynR0 ?ynR1 ?ynR2 ?ynR3 ?ynR4 ?ynR5 ?yaP ?ypgP ?yhdP ?ypoP ?ysaP ?ymkP ?ykcP ?ynP0 ?ynP1 ?ynP2 ?ynP3 ?ynP4 ?yaE ?ypgE ?yhdE ?ypoE ?ysaE ?ymkE ?ykcE ?ynE0 ?ynE1 ?ynE2 ?yaM ?ypgM ?yhdM ?ypoM ?ysaM ?ymkM ?ykcM ?ynM0 ?ynM1 ?ynM2 ?yaW ?ypgW ?yhdW ?ypoW ?ysaW ?ymkW ?ykcW ?ynW0 ?ynW1 ?ynW2 ?ynW3 ?ynW4 ?ynW5 ?ynW6 ?ynW7 ?yaG ?ypgG ?yhdG ?ypoG ?ysaG ?ymkG ?ykcG ?ynG0 ?ynG1 ?ynG2 ?ynG3 ?yaD ?ypgD ?yhdD ?ypoD ?ysaD ?ymkD ?ykcD ?ynD0 ?ynD1 ?yb0 ?yi0 ?yl0 ?yc0 ?yk0 ?yb1 ?yi1 ?yl1 ?yc1 ?yk1 ?yb2 ?yi2 ?yl2 ?yc2 ?yk2 ?yb3 ?yi3 ?yl3 ?yc3 ?yk3 ?yb4 ?yi4 ?yl4 ?yc4 ?yk4 ?yb5 ?yi5 ?yl5 ?yc5 ?yk5 ?yb6 ?yi6 ?yl6 ?yc6 ?yk6 ?yb7 ?yi7 ?yl7 ?yc7 ?yk7 ?yb8 ?yi8 ?yl8 ?yc8 ?yk8 ?yb9 ?yi9 ?yl9 ?yc9 ?yk9 ?yb10 ?yi10 ?yl10 ?yc10 ?yk10 ?yb11 ?yi11 ?yl11 ?yc11 ?yk11) ?_
    (case yaR => k_is); (case ypgR => k_is); (case yhdR => k_is); (case ypoR => k_is); (case ysaR => k_is); (case ymkR => k_is); (case ykcR => k_is); (case ynR0 => k_is); (case ynR1 => k_is); (case ynR2 => k_is); (case ynR3 => k_is); (case ynR4 => k_is); (case ynR5 => k_is); (case yaP => k_is); (case ypgP => k_is); (case yhdP => k_is); (case ypoP => k_is); (case ysaP => k_is); (case ymkP => k_is); (case ykcP => k_is); (case ynP0 => k_is); (case ynP1 => k_is); (case ynP2 => k_is); (case ynP3 => k_is); (case ynP4 => k_is); (case yaE => k_is); (case ypgE => k_is); (case yhdE => k_is); (case ypoE => k_is); (case ysaE => k_is); (case ymkE => k_is); (case ykcE => k_is); (case ynE0 => k_is); (case ynE1 => k_is); (case ynE2 => k_is); (case yaM => k_is); (case ypgM => k_is); (case yhdM => k_is); (case ypoM => k_is); (case ysaM => k_is); (case ymkM => k_is); (case ykcM => k_is); (case ynM0 => k_is); (case ynM1 => k_is); (case ynM2 => k_is); (case yaW => k_is); (case ypgW => k_is); (case yhdW => k_is); (case ypoW => k_is); (case ysaW => k_is); (case ymkW => k_is); (case ykcW => k_is); (case ynW0 => k_is); (case ynW1 => k_is); (case ynW2 => k_is); (case ynW3 => k_is); (case ynW4 => k_is); (case ynW5 => k_is); (case ynW6 => k_is); (case ynW7 => k_is); (case yaG => k_is); (case ypgG => k_is); (case yhdG => k_is); (case ypoG => k_is); (case ysaG => k_is); (case ymkG => k_is); (case ykcG => k_is); (case ynG0 => k_is); (case ynG1 => k_is); (case ynG2 => k_is); (case ynG3 => k_is); (case yaD => k_is); (case ypgD => k_is); (case yhdD => k_is); (case ypoD => k_is); (case ysaD => k_is); (case ymkD => k_is); (case ykcD => k_is); (case ynD0 => k_is); (case ynD1 => k_is); (case yb0 => k_is); (case yi0 => k_is); (case yl0 => k_is); (case yc0 => k_is); (case yk0 => k_is); (case yb1 => k_is); (case yi1 => k_is); (case yl1 => k_is); (case yc1 => k_is); (case yk1 => k_is); (case yb2 => k_is); (case yi2 => k_is); (case yl2 => k_is); (case yc2 => k_is); (case yk2 => k_is); (case yb3 => k_is); (case yi3 => k_is); (case yl3 => k_is); (case yc3 => k_is); (case yk3 => k_is); (case yb4 => k_is); (case yi4 => k_is); (case yl4 => k_is); (case yc4 => k_is); (case yk4 => k_is); (case yb5 => k_is); (case yi5 => k_is); (case yl5 => k_is); (case yc5 => k_is); (case yk5 => k_is); (case yb6 => k_is); (case yi6 => k_is); (case yl6 => k_is); (case yc6 => k_is); (case yk6 => k_is); (case yb7 => k_is); (case yi7 => k_is); (case yl7 => k_is); (case yc7 => k_is); (case yk7 => k_is); (case yb8 => k_is); (case yi8 => k_is); (case yl8 => k_is); (case yc8 => k_is); (case yk8 => k_is); (case yb9 => k_is); (case yi9 => k_is); (case yl9 => k_is); (case yc9 => k_is); (case yk9 => k_is); (case yb10 => k_is); (case yi10 => k_is); (case yl10 => k_is); (case yc10 => k_is); (case yk10 => k_is); (case yb11 => k_is); (case yi11 => k_is); (case yl11 => k_is); (case yc11 => k_is); (case yk11 => k_is)
    rintro ⟨c, CC, gC_Rules, mk_Rules, kc_Rules, gC_Player, mk_Player, kc_Player, gC_Party, mk_Party, kc_Party, gC_Match, mk_Match, kc_Match, gC_World, mk_World, kc_World, gC_Pairing, mk_Pairing, kc_Pairing, gC_Reader, mk_Reader, kc_Reader, D_Pairing___init__, D_Match___init__, D_Party___init__, D_Player___init__, D_Rules___init__, D_World_take_number, D_World_start_over, D_World___init__, D_Reader___init__, D_Reader_has_more, D_Reader_take_whole, D_Reader_take_row⟩
    refine' EM.step (EM.mk_CALLS KX G ?aT ?lT ?u0 ?u1 ?u2 ?u3 ?u4 ?u5 ?u6 ?u7 ?u8 ?u9 ?u10 ?u11 ?u12 ?u13 ?u14 ?u15 ?u16 ?u17 ?u18 ?u19 ?ue) ?_
    (case aT => k_is); (case lT => k_is); (case u0 => k_is); (case u1 => k_is); (case u2 => k_is); (case u3 => k_is); (case u4 => k_is); (case u5 => k_is); (case u6 => k_is); (case u7 => k_is); (case u8 => k_is); (case u9 => k_is); (case u10 => k_is); (case u11 => k_is); (case u12 => k_is); (case u13 => k_is); (case u14 => k_is); (case u15 => k_is); (case u16 => k_is); (case u17 => k_is); (case u18 => k_is); (case u19 => k_is)
    (case ue => rfl)
    intro HT
    refine' EM.step (EM.mk_answers KX G hmg ?wa ?wl ?wc ?wk) ?_
    (case wa => k_is); (case wl => k_is); (case wc => k_is); (case wk => k_is)
    rintro ⟨fd, hb, F⟩
    exact ⟨fd, hb, fun base _ _ => EM.all_ok T CC D_numbers_of D_ratings_of D_rating_sum D_members_of D_parties_without D_ways_to_take D_window_of D_waits D_Pairing___init__ mk_Pairing kc_Pairing gC_Pairing D_is_better D_rounded_up D_taken_since D_playable_since D_first_unwilling D_pairings_of D_Match___init__ mk_Match kc_Match gC_Match D_Party___init__ mk_Party kc_Party gC_Party D_Player___init__ mk_Player kc_Player gC_Player D_Rules___init__ mk_Rules kc_Rules gC_Rules D_World_take_number D_World_start_over D_World___init__ mk_World kc_World gC_World D_Reader___init__ mk_Reader kc_Reader gC_Reader D_Reader_has_more D_Reader_take_whole D_Reader_take_row D_best_match D_match_in_turn D_begin_match D_make_matches D_next_play D_let_ticks_go_by D_out_of_range D_none_of_that_number D_not_the_time D_not_so D_no_place D_within D_are_rules D_call_begin D_call_player D_call_unqueue D_shown_matches D_call_tick D_far_of D_expected D_free_move D_held_move D_play_out D_end_match D_loss_of D_pay_fine D_call_result D_call_leave D_plays D_whereabouts D_call_rating D_ladder_place D_ladder_of D_call_ladder D_call_entries D_is_party_row D_call_queue D_call_matches D_rating_total D_call_sums D_call_window D_call_state D_call_remove D_are_ratings D_is_side_of_ratings D_common_divisor D_lowest_terms D_expectation D_call_expect D_judgement D_call_judge D_call_best D_ways_to_pick D_halves_apart D_most_even_half D_is_split_row D_call_split D_halfway_to_mean D_draw_from_pool D_share_at D_give_rating D_settle_players D_end_season D_call_season D_answer_next F HT⟩
  case S =>
    intro K H xs a hO hwi hask hx
    cases hx with
    | cons h1 h2 =>
      cases h2
      cases h1 with
      | lst hs ha =>
        have e := L2.ints_dw a.1 _ ha
        subst e
        exact ⟨_, a.1, rfl, hs, hask, fun H' p hp => .lst (L2.SqL.of hp) (L2.dw_ints _)⟩
