import PyProof.Rows.All
import Wide.All
import OpenK.AllK
import Wide.FinOn
import HandS.ForMost
import HandS.RaiseMore
import HandS.StrMore
import HandS.Rev
import HandS.Wide
import HandS.Walk
import HandS.Codes
import HandS.Ends
import HandS.Style
import HandS.IsInst
import HandS.TupAny
import HandS.Deep
import HandS.WordsExc
import PySem.Challenge.RW_fourbind_k06_whole_a_statement_put_in
set_option Elab.async false
set_option linter.all false
set_option maxRecDepth 100000
set_option maxHeartbeats 2000000
namespace Fb
open PySem PySem.Spec PyProof.Rows
/-! list(reversed(xs)), at the library's level -/
abbrev nilL : Obj := { cls := .type "list", data := .seq #[] }
section
variable {prog : Program} {w : World} {A : Around} {E : Value → Shared → Prop} {s : Shared}
abbrev FromEnd (items acc : Array Value) : Prop := ItemsOf (fun i v => items[items.size - 1 - i]? = some v) acc items.size
theorem ext_rev {it l S : Addr} {items : Array Value} {c0 : Nat} {R : Result → Shared → Prop} (hh : A.handled = none)
    (hit : s.heap.IsRevIter it l ((items.size : Int) - 1)) (hl : s.heap.IsList l items) (hne : l ≠ it) (hn : items.size ≤ sizeLine) (hSi : S ≠ it) (hSl : S ≠ l)
    (hS : s.heap.get? S = some { cls := .type "list", data := .seq #[] c0 })
    (hR : ∀ h' tk acc c, (∀ b o, b ≠ S → b ≠ it → s.heap.get? b = some o → h'.get? b = some o) →
      h'.get? S = some { cls := .type "list", dict := none, data := .seq acc c, slots := #[] } → FromEnd items acc → R (.ok (.ret .none)) { s with heap := h', toks := tk }) :
    wpAny (model prog w) A.in1 (Builtin.List.listExtendWith (.ref S) (.ref it) .none)
      (fun fin s' => match fin with | .done f => R (.ok f) s' | .again c' => c'.quiet = true ∧ codeAny (model prog w) A c' R s')
      (fun e s' => R (.error e) s') s := by
  have W := (Walks.listRev (prog := prog) (w := w) (A := A.in1) hh it l hne items).toS
  have nf : S ∉ [it, l] := by
    simp only [List.mem_cons, List.not_mem_nil, or_false, not_or]
    exact ⟨hSi, hSl⟩
  have hT : s.TypeIs (.ref it) "list_reverseiterator" := hit.typeIs
  have h1 : Builtin.List.listSameRef (.ref S) (.ref it) = false := by
    simp [Builtin.List.listSameRef, hSi]
  unfold Builtin.List.listExtendWith
  refine wpAny_bind <| wpAny_typeOf hT ?_
  rw [if_neg <| by rw [h1]; decide]
  refine wpAny_bind <| wpAny_pyIter_revIter hit ?_
  refine wpAny_bind <| wpAny_holding ?_
  unfold Builtin.List.listLengthHint
  refine wpAny_bind <| wpAny_specialOf hT RT.nolen_lri ?_
  show wpAny _ A.in1 (specialOf (Value.ref it) (Str.ofString "__length_hint__") >>= _) _ _ s
  refine wpAny_bind <| wpAny_specialOf hT RT.hint_lri ?_
  generalize e0 : ("list_reverseiterator.__length_hint__" : String) = i0
  wp_delta
  rw [show splitId i0 = some ("list_reverseiterator", "__length_hint__") by subst e0; decide +kernel]
  subst e0
  refine wpAny_bind <| wpAny_isInstance (b := true) hT (by rw [isSubtype_type]; kernel_rfl) ?_
  refine wpAny_pure ?_
  rw [if_neg <| by decide]
  have ez : ((items.size : Nat) : Int) - 1 - ((0 : Nat) : Int) = (items.size : Int) - 1 := by omega
  refine wpAny_pure ⟨plainId_quiet F.plain_extend_loop _, codeAny_extend_loopS W hn _ nf _ items.size 0 _ _ _ rfl (Nat.zero_le _)
    ⟨Nat.zero_le _, by rw [ez]; exact hit, hl⟩ hS (ItemsOf.nil _) fun s' acc' c' hm hS' hacc => ?_⟩
  rw [Moved.eq_with hm]
  refine hR s'.heap s'.toks acc' c' (fun b o b1 b2 e => hm.heap b o (fun z => ?_) e) hS' hacc
  rcases List.mem_cons.mp z with q | q
  · exact b1 q
  · exact b2 (List.mem_singleton.mp q)
theorem call_list_rev {it l : Addr} {items : Array Value} {Q : Value → Shared → Prop} (hh : A.handled = none)
    (hit : s.heap.IsRevIter it l ((items.size : Int) - 1)) (hl : s.heap.IsList l items) (hne : l ≠ it) (hn : items.size ≤ sizeLine)
    (hQ : ∀ h' tk acc c, (∀ b o, b ≠ it → s.heap.get? b = some o → h'.get? b = some o) →
      h'.get? s.heap.objs.size = some { cls := .type "list", dict := none, data := .seq acc c, slots := #[] } → FromEnd items acc → Q (.ref s.heap.objs.size) { s with heap := h', toks := tk }) :
    wpAny (model prog w) A (call (.type "list") [.ref it]) Q E s := by
  obtain ⟨oi, hoi, _⟩ := id hit
  obtain ⟨ol, hol, _⟩ := id hl
  refine callType_codes (Q₁ := fun obj s₁ => obj = .ref s.heap.objs.size ∧ s₁ = { s with heap := s.heap.push nilL }) PySem.F.called_list (PySem.F.typeCall_list_1 _) PySem.F.entry_list_init (code_list_new _ ⟨rfl, rfl⟩) fun obj s₁ h₁ => ?_
  obtain ⟨rfl, rfl⟩ := h₁
  have hS : (s.heap.push nilL).get? s.heap.objs.size = some nilL := Heap.get?_push_size _ rfl
  refine ⟨⟨_, hS, rfl⟩, PySem.F.args_list_init_2 _ _, ?_⟩
  show wpAny _ _ (do let old ← Builtin.List.listItems (.ref s.heap.objs.size); Builtin.List.listUpdate (.ref s.heap.objs.size) (fun _ => #[]); letGo old.toList.reverse; Builtin.List.listExtendWith (.ref s.heap.objs.size) (.ref it) .none) _ _ _
  refine wpAny_bind ?_
  unfold Builtin.List.listItems
  refine wpAny_bind <| wpAny_seqItems hS rfl <| wpAny_pure ?_
  show wpAny _ _ (updateSeq s.heap.objs.size (fun _ => #[]) >>= fun _ => letGo (#[] : Array Value).toList.reverse >>= fun _ => Builtin.List.listExtendWith (.ref s.heap.objs.size) (.ref it) .none) _ _ _
  refine wpAny_bind <| wpAny_updateSeq hS rfl ?_
  have hS2 := Heap.get?_update_self (Obj.mapSeq (fun _ => (#[] : Array Value))) hS rfl
  have ni : s.heap.objs.size ≠ it := Nat.ne_of_gt (Heap.lt_size hoi)
  have nl : s.heap.objs.size ≠ l := Nat.ne_of_gt (Heap.lt_size hol)
  have oth : ∀ b o, b ≠ s.heap.objs.size → s.heap.get? b = some o → ((s.heap.push nilL).update s.heap.objs.size (Obj.mapSeq (fun _ => (#[] : Array Value)))).get? b = some o :=
    fun b o hb e => (Heap.get?_update_other _ _ (Ne.symm hb)).trans (Heap.get?_push_of_some _ e)
  refine wpAny_bind <| wpAny_letGo ?_
  refine ext_rev (A := A.in1) (l := l) hh (hit.at fun o e => oth it o (Ne.symm ni) e) (hl.at fun o e => oth l o (Ne.symm nl) e) hne hn ni nl hS2 fun h' tk acc c hk hS' hacc => ⟨rfl, ?_⟩
  exact hQ h' tk acc c (fun b o hb e => hk b o (Nat.ne_of_lt (Heap.lt_size e)) hb (oth b o (Nat.ne_of_lt (Heap.lt_size e)) e)) hS' hacc
end
end Fb
namespace Fb
open PySem PySem.Spec PyProof.Rows L2
section
variable {X : Cx}
/-- list(reversed(e)), e a list -/
def tListRev (K : PySem.W.Frag) (te : TE) : TE := fun σ H Q => te σ H fun v H1 => ∃ (a : Addr) (xs : List V), v = .ref a ∧ SqL K H1 a xs ∧ ∀ q, H1 q = none → Q (.ref q) (upd H1 q (.lst xs.reverse))
theorem pe_listRev {e : Expr} {te : TE} {p p2 pos pos2 : Pos} (hc : X.calm = true) (hg : Gl X "list") (hm : X.mg "list" = none) (hg2 : Gl X "reversed") (hm2 : X.mg "reversed" = none) (he : PE X e te)
    (hs : starEach [e] X.env = (false, eval e X.env) :: starEach [] X.env := by rfl)
    (hs2 : starEach [.Call (.Name "reversed" p2) [e] [] pos2] X.env = (false, eval (.Call (.Name "reversed" p2) [e] [] pos2) X.env) :: starEach [] X.env := by rfl) :
    PE X (.Call (.Name "list" p) [.Call (.Name "reversed" p2) [e] [] pos2] [] pos) (tListRev X.K te) := by
  refine ⟨fun pins s σ H Q I h => ?_⟩
  refine Call_ (ld_blt I hg hm boot_list (callWith_type1 (args_cons (Call_ (ld_blt I hg2 hm2 boot_reversed (callWith_type1 (args_cons (thn (he.run pins s σ H _ I h) fun u s1 ⟨v, H1, I1, r1, q1⟩ => args_nil ?_) hs) hs rfl))) hs2) hs2 rfl))
  obtain ⟨a, xs, ev, hq, q⟩ := q1
  subst ev
  obtain rfl : u = Value.ref a := r1
  obtain ⟨its, rv, pl, hz⟩ := I1.list hq
  refine call_reversed_list pl.isList (args_nil ?_)
  have I2 : Inv X pins σ H1 { s1 with heap := s1.heap.push (revObj a ((its.toArray.size : Int) - 1)) } := I1.kept (t' := s1.toks) fun b o e => Heap.get?_push_of_some _ e
  obtain ⟨f0, f1, f2, f3, f4, f5⟩ := I1.fpOk (H' := H1) (b := s1.heap.objs.size) (Nat.le_refl _) (I1.hok.fresh (Nat.le_refl _))
  have hl := pl.isList
  obtain ⟨ol, hol, _⟩ := id hl
  have hne : a ≠ s1.heap.objs.size := Nat.ne_of_lt (Heap.lt_size hol)
  have hn : its.toArray.size ≤ sizeLine := by rw [List.size_toArray, ← rv.length]; exact hz
  refine call_list_rev (s := { s1 with heap := s1.heap.push (revObj a ((its.toArray.size : Int) - 1)) }) (I1.ok.hd hc) ⟨_, Heap.get?_push_size _ rfl, rfl, rfl⟩ (hl.push _) hne hn fun h' tk acc c hk hS' hacc => ?_
  have fr : H1 (s1.heap.objs.size + 1) = none := I1.hok.fresh (Nat.le_succ _)
  have sz : (s1.heap.push (revObj a ((its.toArray.size : Int) - 1))).objs.size = s1.heap.objs.size + 1 := by simp [Heap.push]
  have I3 := I2.laid (t' := tk) (a := s1.heap.objs.size + 1) (o := .lst xs.reverse)
    (h' := (s1.heap.push (revObj a ((its.toArray.size : Int) - 1))).push { cls := .type "list", dict := none, data := .seq acc c, slots := #[] })
    (fun b o e => Heap.get?_push_of_some _ e) (Nat.le_of_eq sz)
    (show ObjOk X.prog X.w _ _ _ (.lst xs.reverse) from ⟨by rw [List.length_reverse]; exact hz, acc.toList, c, RT.vals_rev rv hacc, by
      rw [← sz, Array.toArray_toList]
      exact Heap.get?_push_size _ rfl⟩)
  have nit : s1.heap.objs.size ≠ s1.heap.objs.size + 1 := Nat.ne_of_lt (Nat.lt_succ_self _)
  have I4 := I3.turned (t' := tk) (it := s1.heap.objs.size) (h' := h') (fun b o hb e => ?_) (by rw [upd_ne nit]; exact f0) f1 f3 f4 f5
  · refine ⟨.ref (s1.heap.objs.size + 1), _, I4, ?_, q _ fr⟩
    exact congrArg Value.ref sz
  · rcases Heap.get?_push_cases e with ⟨eb, eo⟩ | e2
    · subst eb
      subst eo
      exact hS'
    · exact hk b o hb e2
end
end Fb
set_option Elab.async false
set_option linter.all false
set_option maxRecDepth 100000
set_option maxHeartbeats 2000000
namespace Fb
open PySem PySem.Spec PyProof.Rows L2
/-! ### calls without arguments; repr of a plain value -/
section
variable {X : Cx} {k j : Nat} {x : Str} {sp : Sp} {dvs : List V} {p pos : Pos}
theorem pe_c0 (c : C8.Cal X.prog X.w X.K X.mg X.base k x sp dvs) (hr : Room j X.A) (hk : k ≤ j) (hg : Gl X x) (hdb : (x == ("__debug__" : Str)) = false := by decide) :
    PE X (.Call (.Name x p) [] [] pos) (tCall sp dvs E0 tNil) := by
  obtain ⟨f, fd, ps, ds, F, hm, kp, b, d⟩ := c.ex
  exact pe_call0 F (hr.mono hk) hg hm kp b d pass0 hdb
def tf (b : Bool) : Str := if b then "True" else "False"
def rRepr0 : List V → Hp → VK → Prop := fun xs H Q => (∃ b, xs = [.bl b] ∧ Q (.str (tf b)) H) ∨ ∃ i, xs = [.int i] ∧ i.natAbs.log2 < 1920 ∧ Q (.str (toString i)) H
theorem call_repr0 : CallR X (.builtin "repr") rRepr0 := by
  intro pins s σ H xs us Q I r h
  rcases h with ⟨b, rfl, q⟩ | h
  · obtain ⟨u, rfl, rx⟩ := vals1 r
    cases rx
    exact PySem.P.repr_of_bool ⟨.str _, H, I.tok _, ⟨_, rfl⟩, q⟩
  · obtain ⟨i, rfl, hz, q⟩ := h
    obtain ⟨u, rfl, t, rfl⟩ := vals1 r
    exact PySem.P.repr_of_int hz ⟨V.str _, H, I.tok _, ⟨_, rfl⟩, q⟩
end
/-! ### heaps -/
theorem same_new {H : Hp} {p : Addr} {o : HO} (h : H p = none) : Same H (upd H p o) := fun b x e => by
  rw [upd_ne (ne_of_none e h)]
  exact e
/-! ### the deal: a dict of three -/
def dealD (s n : Int) (l : Addr) : List (Key × V) := [(.inr "seed", .int s), (.inr "number", .int n), (.inr "left", .ref l)]
abbrev kx (x : Str) : Key := .inr x
theorem ne_sn : ¬ (kx "seed" = kx "number") := by decide +kernel
theorem ne_sl : ¬ (kx "seed" = kx "left") := by decide +kernel
theorem ne_nl : ¬ (kx "number" = kx "left") := by decide +kernel
section
variable {s n x : Int} {l d : Addr} {H : Hp}
theorem v_seed : valV (dealD s n l) (.inr "seed") = some (.int s) := valV_pos rfl
theorem v_number : valV (dealD s n l) (.inr "number") = some (.int n) := (valV_neg ne_sn).trans (valV_pos rfl)
theorem v_left : valV (dealD s n l) (.inr "left") = some (.ref l) := (valV_neg ne_sl).trans ((valV_neg ne_nl).trans (valV_pos rfl))
theorem p_seed : putK (dealD s n l) (.inr "seed") (.int x) = dealD x n l := by
  have a : ¬ (kx "number" = kx "seed") := fun e => ne_sn e.symm
  have b : ¬ (kx "left" = kx "seed") := fun e => ne_sl e.symm
  simp [putK, dealD, a, b]
theorem p_number : putK (dealD s n l) (.inr "number") (.int x) = dealD s x l := by
  have a := ne_sn
  have b : ¬ (kx "left" = kx "number") := fun e => ne_nl e.symm
  simp [putK, dealD, a, b]
theorem g_seed (h : H d = some (.dK (dealD s n l))) : DGet H d (.str "seed") (some (.int s)) := by
  have z := DGet.k (k := Sum.inr "seed") h
  rw [v_seed] at z
  exact z
theorem g_number (h : H d = some (.dK (dealD s n l))) : DGet H d (.str "number") (some (.int n)) := by
  have z := DGet.k (k := Sum.inr "number") h
  rw [v_number] at z
  exact z
theorem g_left (h : H d = some (.dK (dealD s n l))) : DGet H d (.str "left") (some (.ref l)) := by
  have z := DGet.k (k := Sum.inr "left") h
  rw [v_left] at z
  exact z
theorem u_seed (h : H d = some (.dK (dealD s n l))) : DPut H d (.str "seed") (.int x) (upd H d (.dK (dealD x n l))) := by
  refine .inl ⟨dealD s n l, .inr "seed", h, rfl, ?_, ?_⟩
  · show 3 < sizeLine
    exact small1000 (by decide)
  · rw [p_seed]
theorem u_number (h : H d = some (.dK (dealD s n l))) : DPut H d (.str "number") (.int x) (upd H d (.dK (dealD s x l))) := by
  refine .inl ⟨dealD s n l, .inr "number", h, rfl, ?_, ?_⟩
  · show 3 < sizeLine
    exact small1000 (by decide)
  · rw [p_number]
end
/-- a deal stands at d, its list at l -/
def DealX (H : Hp) (d l : Addr) (s n : Int) (ns : List Int) : Prop :=
  H d = some (.dK (dealD s n l)) ∧ H l = some (.lst (ns.map V.int)) ∧ 0 ≤ s ∧ s < 2147483648 ∧ 0 ≤ n ∧ ∀ x ∈ ns, 0 < x
def DealAt (H : Hp) (d l : Addr) : Prop := ∃ s n ns, DealX H d l s n ns
/-- all else stays -/
def Keep (d l : Addr) (H H' : Hp) : Prop := ∀ b o, H b = some o → b ≠ d → b ≠ l → H' b = some o
theorem Keep.refl (d l : Addr) (H : Hp) : Keep d l H H := fun _ _ e _ _ => e
theorem Keep.trans {d l : Addr} {H H1 H2 : Hp} (a : Keep d l H H1) (b : Keep d l H1 H2) : Keep d l H H2 := fun c o e h1 h2 => b c o (a c o e h1 h2) h1 h2
theorem Keep.of {d l : Addr} {H H' : Hp} (s : Same H H') : Keep d l H H' := fun b o e _ _ => s b o e
theorem Keep.upd {d l p : Addr} {H H' : Hp} {o : HO} (k : Keep d l H H') (hp : H p = none) : Keep d l H (upd H' p o) := fun b x e h1 h2 => by
  rw [upd_ne (ne_of_none e hp)]
  exact k b x e h1 h2
theorem Keep.at_d {d l : Addr} {H H' : Hp} {o : HO} (k : Keep d l H H') : Keep d l H (L2.upd H' d o) := fun b x e h1 h2 => by
  rw [upd_ne h1]
  exact k b x e h1 h2
theorem Keep.at_l {d l : Addr} {H H' : Hp} {o : HO} (k : Keep d l H H') : Keep d l H (L2.upd H' l o) := fun b x e h1 h2 => by
  rw [upd_ne h2]
  exact k b x e h1 h2
theorem DealX.ne {H : Hp} {d l : Addr} {s n : Int} {ns : List Int} (h : DealX H d l s n ns) : d ≠ l := ne_of h.1 h.2.1 (by intro z; cases z)
theorem DealX.same {H H' : Hp} {d l : Addr} {s n : Int} {ns : List Int} (h : DealX H d l s n ns) (e : Same H H') : DealX H' d l s n ns := ⟨e _ _ h.1, e _ _ h.2.1, h.2.2⟩
theorem DealAt.same {H H' : Hp} {d l : Addr} (h : DealAt H d l) (e : Same H H') : DealAt H' d l := let ⟨s, n, ns, z⟩ := h; ⟨s, n, ns, z.same e⟩
theorem DealAt.d_ne {H : Hp} {d l p : Addr} (h : DealAt H d l) (hp : H p = none) : p ≠ d := let ⟨_, _, _, z⟩ := h; (ne_of_none z.1 hp).symm
theorem DealAt.l_ne {H : Hp} {d l p : Addr} (h : DealAt H d l) (hp : H p = none) : p ≠ l := let ⟨_, _, _, z⟩ := h; (ne_of_none z.2.1 hp).symm
theorem DealAt.upd {H : Hp} {d l p : Addr} {o : HO} (h : DealAt H d l) (h1 : p ≠ d) (h2 : p ≠ l) : DealAt (L2.upd H p o) d l := let ⟨s, n, ns, z⟩ := h; ⟨s, n, ns, by rw [upd_ne h1.symm]; exact z.1, by rw [upd_ne h2.symm]; exact z.2.1, z.2.2⟩
/-- a draw below many -/
def spDraw : Sp := fun vs H Q _ => ∃ (d l : Addr) (many : Int), vs = [.ref d, .int many] ∧ DealAt H d l ∧ 0 < many ∧ many < 4611686018427387904 ∧
  ∀ (r : Int) (H' : Hp), 0 ≤ r → r < many → DealAt H' d l → Keep d l H H' → Q (.int r) H'
def spDeal (K : PySem.W.Frag) : Sp := fun vs H Q _ => ∃ (a : Addr) (ns : List Int), vs = [.ref a] ∧ SqL K H a (ns.map V.int) ∧ ns.length ≤ 63 ∧
  ∀ (d l : Addr) (H' : Hp), H d = none → H l = none → DealAt H' d l → Same H H' → Q (.ref d) H'
theorem merge_deal {s n : Int} {l : Addr} : mergeK [] (dealD s n l) = dealD s n l := by
  have a := ne_sn
  have b := ne_sl
  have c := ne_nl
  simp [mergeK, putK, dealD, a, b, c]
theorem cut_ints (ns : List Int) (lo hi : Option Int) : ∃ ms : List Int, cutV (ns.map V.int) lo hi = ms.map V.int ∧ ms.length ≤ ns.length := by
  refine ⟨(ns.drop (HT.sIx (ns.map V.int).length 0 lo)).take (HT.sIx (ns.map V.int).length (ns.map V.int).length hi - HT.sIx (ns.map V.int).length 0 lo), ?_, ?_⟩
  · rw [cutV, List.map_take, List.map_drop]
  · rw [List.length_take, List.length_drop]
    omega
theorem int_at {ns : List Int} {i : Nat} {x : V} (h : (ns.map V.int)[i]? = some x) : ∃ z, x = .int z ∧ z ∈ ns := by
  rw [List.getElem?_map] at h
  cases e : ns[i]? with
  | none =>
    rw [e] at h
    cases h
  | some z =>
    rw [e] at h
    exact ⟨z, (Option.some.inj h).symm, List.mem_of_getElem? e⟩
theorem snoc_ints (zs : List Int) (z : Int) : zs.map V.int ++ [V.int z] = (zs ++ [z]).map V.int := by
  rw [List.map_append]
  rfl
theorem divW {i j : Int} (h : 0 < j) (h2 : j < 4611686018427387904) : CDivW i j := wide_div (b := 64) h (by omega) (by decide) (by decide)
theorem mulS {i j : Int} (h : 0 ≤ i) (h2 : i < 4611686018427387904) : CMul i j := .inl ⟨by omega, by omega⟩
theorem mod_lo {a b : Int} (h : 0 < b) : 0 ≤ a % b := Int.emod_nonneg a (by omega)
theorem mod_hi {a b : Int} (h : 0 < b) : a % b < b := Int.emod_lt_of_pos a h
theorem nest (a b : Int) : (if b > a then b else a) = max a b := by
  by_cases h : b > a
  · rw [if_pos h]; omega
  · rw [if_neg h]; omega
end Fb
set_option Elab.async false
set_option linter.all false
set_option maxRecDepth 100000
set_option maxHeartbeats 2000000
namespace Fb
open PySem PySem.W PySem.Calls PyProof.Rows L2
/-- a def as the top has left it -/
def Has (K : PySem.W.Frag) (mg : Str → Option Value) (x : Str) (st : Stmt) : Prop := ∃ f fd, L2.Fun K x x st f fd ∧ mg x = some (.ref f)
def Cn (mg : Str → Option Value) (x : Str) (v : V) : Prop := ∃ u, mg x = some u ∧ RelV v u
theorem has_mk {K : PySem.W.Frag} {mg : Str → Option Value} {h : Heap} {x : Str} {st : Stmt} {f : Addr} {oc : Value} {od an : Option Addr} {sl : Array (Option Value)} {kV dc pm cd ct : Value} (X : K.In h) (G : h.Ns mainGlobals mg)
    (a : nsIn K mainGlobals x = some (some (.ref f))) (l : K.lookup f = some ⟨oc, od, .func (fnOf x x (defArgs st) (defBody st) (defScope st) .none kV dc pm an cd ct), sl⟩) (c : codeIn K cd x = true) (k : keepIn K (.ref f) = true) : Has K mg x st :=
  ⟨f, _, fun_mk l c k, mg_of X G a⟩
theorem rel_abs {u : Value} {v : V} (h : absV u = some v) : RelV v u := by
  cases u with
  | none => cases h; rfl
  | bool b => cases h; rfl
  | int i t => cases h; exact ⟨t, rfl⟩
  | str x t => cases h; exact ⟨t, rfl⟩
  | bytes b t => cases h; exact ⟨t, rfl⟩
  | float b t => cases h; exact ⟨t, rfl⟩
  | ref a => cases h; rfl
  | type n => cases h; rfl
  | _ => cases h
theorem vals_abs : ∀ {us : List Value} {vs : List V}, us.map absV = vs.map some → Vals vs us
  | [], [], _ => .nil
  | [], _ :: _, h => by cases h
  | _ :: _, [], h => by cases h
  | u :: us, v :: vs, h => by
    rw [List.map_cons, List.map_cons] at h
    injection h with h1 h2
    exact .cons (rel_abs h1) (vals_abs h2)
theorem tup_in {K : PySem.W.Frag} {a : Addr} {od : Option Addr} {its : Array Value} {n : Nat} {sl : Array (Option Value)} {xs : List V} (l : K.lookup a = some ⟨.type "tuple", od, .seq its n, sl⟩) (z : its.size ≤ 1000) (e : its.toList.map absV = xs.map some) (H : Hp) : SqT K H a xs :=
  .inr ⟨_, its, n, l, rfl, rfl, Nat.le_of_lt (small1000 z), vals_abs e⟩
theorem cn_in {K : PySem.W.Frag} {mg : Str → Option Value} {h : Heap} {x : Str} {u : Value} {v : V} (X : K.In h) (G : h.Ns mainGlobals mg) (a : nsIn K mainGlobals x = some (some u)) (e : absV u = some v) : Cn mg x v := ⟨u, mg_of X G a, rel_abs e⟩
theorem cn_loose {p : Program} {lv : List (Str × WData)} {mg : Str → Option Value} {h : Heap} {x : Str} {n : Int} (X : XL p lv mg h) (m : (x, WData.int n) ∈ lv) : Cn mg x (.int n) := by
  obtain ⟨v, a, r⟩ := X.2.val _ m
  cases r
  exact ⟨_, a, ⟨_, rfl⟩⟩
/-- the end of a law, with what the top has reckoned told -/
theorem walk_X {l : OpenLaw} {n k : Nat} {q : Program} {loose : List Str} {XP : (Str → Option Value) → Heap → Prop} {YP : World → Heap → Prop} {d : DefRec} {K : Params → Frag} {sp : World → Sp} {x : Str}
    (hn : l.most = some n) (hn2 : n ≤ sizeLine) (hdf : d.params.defaults = []) (hr : Room k callerA) (hY : ∀ (w : World) (h : Heap), YP w h → (K w.params).In h)
    (F : ∀ (w : World) (mg : Str → Option Value) (fa : Addr) (h : Heap), (K w.params).In h → h.Ns mainGlobals mg → XP mg h → mg d.name = some (.ref fa) →
      ∃ fd : FuncData, (∀ (s : Shared) (u : Value), BindsTo s fd ⟨[u], []⟩ [(x, u)]) ∧ ∀ base : Heap, (K w.params).In base → base.Ns mainGlobals mg → FnOk l.prog w (K w.params) mg base CX0 k fa fd [x] (sp w))
    (hsp : ∀ (w : World) (H : Hp) (a : Addr) (ns : List Int), ns.length ≤ n → SqL (K w.params) H a (ns.map V.int) → sp w [.ref a] H (fun v _ => v = .bl true) fun _ _ _ => False) :
    WalkO q loose XP YP l.row.toRowW d [] (fun f vs => PySem.call f vs) := by
  refine Att.attach_call hn hdf fun w s₀ s₁ mg mb fa o pm cd doc a vs ns G Y ho hd hcd hmg hobj hints hlen hg => ?_
  obtain ⟨fd, hb, hF⟩ := F w mg fa _ (hY w _ Y) G.T.g G.X hmg
  exact law_call (hY w _ Y) G.T.g G.T.b G.T.builtins G.T.nolimit hg hobj hints (Nat.le_trans hlen hn2) hr hF hb (fun H _ hS => hsp w H a ns hlen hS) fun H e s' z => z
end Fb
set_option Elab.async false
set_option linter.all false
set_option maxRecDepth 100000
set_option maxHeartbeats 2000000
namespace Fb
open PySem PySem.Spec PyProof.Rows L2
/-! ### a def that is called where nothing is being shown (no repr is under way) -/
structure FnG (P : Program) (w : World) (K : PySem.W.Frag) (mg : Str → Option Value) (base : Heap) (k : Nat) (f : Addr) (fd : FuncData) (ps : List Str) (sp : Sp) : Prop where
  len : ∀ vs H Q E, sp vs H Q E → vs.length = ps.length
  run : ∀ (A : Around) (outer : List Env) (s : Shared) (H : Hp) (args : Args) (us : List Value) (vs : List V) (Q : VK) (E : XK), A.guards = some [] → Room k A →
    Env0 P w K mg base A outer s H → BindsTo s fd args (ps.zip us) → Vals vs us → sp vs H Q E → codeAny (model P w) A (.call (.ref f) args) (CR CX0 outer P w H s Q E) s
section
variable {P : Program} {w : World} {K : PySem.W.Frag} {mg : Str → Option Value} {base : Heap}
theorem ok_G {x qual : Str} {st : Stmt} {f : Addr} {fd : FuncData} {N ps : List Str} {k : Nat} {sp : Sp} (F : L2.Fun K x qual st f fd) (S : FnScope N ps (defScope st)) (len : ∀ vs H Q E, sp vs H Q E → vs.length = ps.length)
    (walk : ∀ (cdv : Value) (A : Around) (outer : List Env) (s : Shared) (H : Hp) (vs : List V) (Q : VK) (E : XK), (A.deeper (envOfC qual (defScope st) s.heap.objs.size f cdv)).guards = some [] → Room k (A.deeper (envOfC qual (defScope st) s.heap.objs.size f cdv)) → sp vs H Q E →
      ∃ t, PSs (cxOf CX0 P w K mg base N qual (defScope st) f cdv A outer s H E).nox (defBody st) t ∧ t { nx := fun _ H' => Q .non H', rt := Q } (start N vs) H) : FnG P w K mg base (k + 1) f fd ps sp := by
  obtain ⟨oc, od, kV, dc, pm, an, cdv, ct, osl, rfl, lk, hcd⟩ := F.ex
  refine ⟨len, fun A outer s H args us vs Q E gd hr e0 hb r hs0 => ?_⟩
  have hl := len _ _ _ _ hs0
  have kIn : K.In s.heap := e0.mod.kin.keeps fun b o e => (e0.bs b o e).1
  have nolim : s.heap.NoLimit := e0.mod.nolimit.keeps fun b o e => (e0.bs b o e).1
  have kinds : ∀ y ∈ ps.zip us, (defScope st).names.lookup y.1 = some .local ∨ ((defScope st).names.lookup y.1 = some .cell ∧ ((cellsFrom (s.heap.objs.size + 1) (defScope st).names []).lookup y.1).isSome = true) := fun ⟨n, v⟩ hy => by
    rcases S.par n (List.of_mem_zip hy).1 with z | z
    · exact .inl z
    · exact .inr ⟨z, PySem.W.cellsFrom_some _ _ _ (.inl z)⟩
  refine codeAny_call_function hr.depth (kIn _ _ lk) rfl S.co S.gen rfl (PySem.W.codeRec_of kIn hcd) (hb _ _ _ _ ?_)
  refine wpAny_newFunctionEnv_cells S.kind kinds fun env he s1 y => ?_
  subst he
  refine ⟨nolim.keeps y.toInCall.keep, codeAny_func ?_⟩
  obtain ⟨t, ht, hq⟩ := walk cdv A outer s H vs Q E gd (hr.deeper _) hs0
  have I0 : Inv (cxOf CX0 P w K mg base N qual (defScope st) f cdv A outer s H E) [] (start N vs) H s1 := inv_start S hr.hd e0 hl r y
  refine wpAny_mono (ht.nox.run [] s1 (start N vs) H _ I0 hq) (fun fl s' z => ?_) fun e s' z => z
  have out : ∀ {σ' : L2.St} {H' : Hp} {v : V} {u : Value}, Inv (cxOf CX0 P w K mg base N qual (defScope st) f cdv A outer s H E) [] σ' H' s' → RelV v u → Q v H' → CE outer P w H s Q u s' := fun {σ' H' v u} J rv q => ⟨v, H', J.os, J.bare, J.base, J.hok, rv, q⟩
  cases fl with
  | ret u =>
    obtain ⟨v, σ', H', J, rv, q⟩ := z
    exact out J rv q
  | next =>
    obtain ⟨σ', H', J, q⟩ := z
    exact out (v := V.non) (u := Value.none) J rfl q
  | brk =>
    obtain ⟨_, _, _, q⟩ := z
    exact q.elim
  | cont =>
    obtain ⟨_, _, _, q⟩ := z
    exact q.elim
end
/-- a def under its name, where nothing is being shown -/
structure CalG (P : Program) (w : World) (K : PySem.W.Frag) (mg : Str → Option Value) (base : Heap) (k : Nat) (x : Str) (sp : Sp) : Prop where
  ex : ∃ (f : Addr) (fd : FuncData) (ps : List Str), FnG P w K mg base k f fd ps sp ∧ mg x = some (.ref f) ∧ PySem.W.keepIn K (.ref f) = true ∧ Binds K fd ps []
section
variable {X : Cx} {k j : Nat} {x : Str} {sp : Sp} {p pos : Pos} {e : Expr} {es : List Expr} {t : TA}
theorem pe_cG (c : CalG X.prog X.w X.K X.mg X.base k x sp) (gd : X.A.guards = some []) (hr : Room j X.A) (hk : k ≤ j) (hg : Gl X x) (ha : PA X (e :: es) t) (hdb : (x == ("__debug__" : Str)) = false := by decide)
    (he : starEach (e :: es) X.env = (false, eval e X.env) :: starEach es X.env := by rfl) (hpl : (backTo pos (starEach es X.env)).any (·.1) = false := by rfl) : PE X (.Call (.Name x p) (e :: es) [] pos) (tCall sp [] E0 t) := by
  obtain ⟨f, fd, ps, F, hm, kp, b⟩ := c.ex
  refine ⟨fun pins s σ H Q I h => ?_⟩
  refine wpAny_Call_Name_kw (ld_glob I hg hm ?_ hdb)
  refine PySem.W.callWith_K (h₀ := X.base) I.ok.mod.kin kp (thn (ha.run pos pins s σ H _ I h) fun us s1 ⟨vs, H1, I1, r, q⟩ => ⟨I1.kIn, ?_⟩) he hpl
  have q2 : sp vs H1 Q E0 := by have z : sp (vs ++ []) H1 Q E0 := q; rw [List.append_nil] at z; exact z
  have hl : us.length = ps.length := by rw [← r.length]; exact F.len _ _ _ _ q2
  refine wpAny_call (codeAny_mono (F.run X.A X.stack s1 H1 ⟨us, []⟩ us vs Q E0 gd (hr.mono hk) I1.env0 (by have z := b s1 us I1.kIn (by rw [List.append_nil]; exact hl); rw [List.append_nil] at z; exact z) r q2) fun r' s' hq => ?_)
  cases r' with
  | error e => exact hq.elim
  | ok fl =>
    cases fl with
    | ret u => exact I1.after hq
    | next => exact hq.elim
    | brk => exact hq.elim
    | cont => exact hq.elim
/-- repr of data at any depth -/
def rReprD (K : PySem.W.Frag) : List V → Hp → VK → Prop := fun xs H Q => ∃ (a : Addr) (d : PyData), xs = [.ref a] ∧ Dp K H (.ref a) d ∧ d.showable = true ∧ d.hasDict = false ∧ d.depth ≤ 60 ∧ d.shown.length ≤ sizeLine ∧ Q (.str d.shown) H
theorem call_reprD (gd : X.A.guards = some []) (hu : X.A.units + 64 < cLine) : CallR X (.builtin "repr") (rReprD X.K) := by
  intro pins s σ H xs us Q I r h
  obtain ⟨a, d, rfl, hd, h1, h2, h3, h4, q⟩ := h
  obtain ⟨u, rfl, rx⟩ := vals1 r
  obtain ⟨as, rd⟩ := Dp.reads I d _ _ hd rx
  obtain rfl : u = Value.ref a := rx
  refine repr_of_reads' (h₀ := s.heap) rd h1 (fun z => by rw [h2] at z; cases z) gd (by omega) (fun _ _ e => e) (fun h' u tk hk => ?_) h4
  exact ⟨V.str _, H, I.kept (t' := tk) hk, ⟨_, rfl⟩, q⟩
end
end Fb
namespace Fb
open PySem PySem.W PySem.Calls PyProof.Rows L2
/-- the law's own call, where nothing is being shown -/
theorem law_G {P : Program} {w : World} {K : Frag} {mg mb : Str → Option Value} {k : Nat} {fa a : Addr} {fd : FuncData} {x : Str} {sp : Sp} {s₁ : Shared} {vs : List Value} {ns : List Int}
    (KX : K.In s₁.heap) (hns : s₁.heap.Ns mainGlobals mg) (hb : s₁.heap.Ns builtinsNs mb) (hbb : ∀ x : Str, x ≠ "__name__" → mb x = bootBuiltins x) (hlim : s₁.heap.NoLimit) (hg : s₁.gens = #[])
    (ha : s₁.heap.get? a = some { cls := .type "list", data := .seq vs.toArray }) (hi : IntsAre vs ns) (hl : ns.length ≤ sizeLine) (hr : Room k callerA)
    (F : ∀ base : Heap, K.In base → base.Ns mainGlobals mg → FnG P w K mg base k fa fd [x] sp) (hbind : ∀ (s : Shared) (u : Value), BindsTo s fd ⟨[u], []⟩ [(x, u)])
    (hsp : ∀ H : Hp, SqL K H a (ns.map V.int) → sp [.ref a] H (fun v _ => v = .bl true) fun _ _ _ => False) :
    codeAny (model P w) callerA (.call (.ref fa) ⟨[.ref a], []⟩) (fun r s' => r = .ok (.ret (.bool true)) ∧ OldK s₁.heap s'.heap ∧ s'.os = s₁.os ∧ AllBare s'.gens) s₁ := by
  have rv := vals_ints hi
  have lv := hi.length
  have core : ∀ H : Hp, Only H → SqL K H a (ns.map V.int) → HOk P w H s₁.heap → (∀ b, H b ≠ none → b = a) → (H a ≠ none → K.lookup a = none) →
      codeAny (model P w) callerA (.call (.ref fa) ⟨[.ref a], []⟩) (fun r s' => r = .ok (.ret (.bool true)) ∧ OldK s₁.heap s'.heap ∧ s'.os = s₁.os ∧ AllBare s'.gens) s₁ := by
    intro H0 hO hS hok hA hK
    have tracked : ∀ {b : Addr} {u : HO}, H0 b = some u → b = a := fun {b u} q => hA b (by rw [q]; simp)
    have hid : ∀ {b : Addr} {o : Obj}, s₁.heap.get? b = some o → H0 b = none → (hidT s₁.heap H0).get? b = some o := fun e n => hidT_get e n
    have noD : ∀ {b : Addr} {o : Obj} {es : Array DictEntry} {ep : Nat}, s₁.heap.get? b = some o → o.data = .dict es ep → H0 b = none := fun {b o es ep} e dt => by
      cases q : H0 b with
      | none => rfl
      | some u =>
        obtain rfl := tracked q
        rw [ha] at e; cases e
        have z : Data.seq vs.toArray _ = Data.dict es ep := dt
        cases z
    have nsK : ∀ {b : Addr} {m : Str → Option Value}, s₁.heap.Ns b m → (hidT s₁.heap H0).Ns b m := fun {b m} ⟨o, es, ep, e, dt, r⟩ => ⟨o, es, ep, hid e (noD e dt), dt, r⟩
    have kIn : K.In (hidT s₁.heap H0) := fun b o e => hid (KX b o e) (by
      cases q : H0 b with
      | none => rfl
      | some u =>
        obtain rfl := tracked q
        rw [hK (by rw [q]; simp)] at e; cases e)
    have md : Mod K mg (hidT s₁.heap H0) := ⟨kIn, nsK hns, ⟨mb, nsK hb, hbb⟩, let ⟨mc, h1, h2⟩ := hlim; ⟨mc, nsK h1, h2⟩⟩
    have env : Env0 P w K mg (hidT s₁.heap H0) callerA [] s₁ H0 := ⟨rfl, md, fun b o e => of_hidT e, Nat.le_of_eq (hidT_size _ _), trivial, fun b z => absurd (show b ∈ ([] : List Addr) from z) (by simp), hok, .of_eq hg⟩
    refine codeAny_mono ((F _ kIn (nsK hns)).run callerA [] s₁ H0 ⟨[.ref a], []⟩ [.ref a] [.ref a] _ _ rfl hr env (hbind s₁ (.ref a)) (.cons rfl .nil) (hsp H0 hS)) fun r s' h => ?_
    cases r with
    | error e => exact h.elim
    | ok fl =>
      cases fl with
      | next => exact h.elim
      | brk => exact h.elim
      | cont => exact h.elim
      | ret u =>
        obtain ⟨v, H', os, bare, un, ok2, rl, q⟩ := h
        obtain rfl : v = .bl true := q
        obtain rfl : u = Value.bool true := rl
        refine ⟨rfl, OldK.of_keep fun b o e => ?_, os, bare⟩
        cases q : H0 b with
        | none => exact un.keep b o e q (fun z => absurd (show b ∈ ([] : List Addr) from z) (by simp)) (by simp)
        | some u =>
          rcases hO b with z | ⟨ob, xs, z⟩
          · rw [q] at z; cases z
          · obtain ⟨e1, _⟩ := hok b _ z
            obtain ⟨e2, _⟩ := ok2 b _ (un.frzs b ob _ z)
            rw [e] at e1; cases e1
            exact e2
  cases hk : K.lookup a with
  | some o =>
    have e := KX a o hk
    rw [ha] at e
    cases e
    exact core (fun _ => none) (fun _ => .inl rfl) (.inr ⟨_, vs.toArray, _, hk, rfl, rfl, rfl, by rw [List.size_toArray, lv]; exact hl, by simpa using rv⟩) (fun b u z => by have y : (none : Option HO) = some u := z; cases y) (fun b z => absurd rfl z) fun z => absurd rfl z
  | none =>
    refine core (fun b => if b = a then some (.frz { cls := .type "list", data := .seq vs.toArray } (.lst (ns.map V.int))) else none) (fun b => ?_) (.inl (.inr ⟨{ cls := .type "list", data := .seq vs.toArray }, if_pos rfl⟩)) (fun b u z => ?_) (fun b z => ?_) fun _ => hk
    · by_cases q : b = a
      · exact .inr ⟨_, _, if_pos q⟩
      · exact .inl (if_neg q)
    · by_cases q : b = a
      · have y := (if_pos q).symm.trans z
        cases y
        subst q
        exact ⟨ha, by rw [List.length_map]; exact hl, vs, _, rv, ha⟩
      · have y := (if_neg q).symm.trans z
        cases y
    · by_cases q : b = a
      · exact q
      · exact absurd (if_neg q) z
theorem walk_G {l : OpenLaw} {n k : Nat} {q : Program} {loose : List Str} {XP : (Str → Option Value) → Heap → Prop} {YP : World → Heap → Prop} {d : DefRec} {K : Params → Frag} {sp : World → Sp} {x : Str}
    (hn : l.most = some n) (hn2 : n ≤ sizeLine) (hdf : d.params.defaults = []) (hr : Room k callerA) (hY : ∀ (w : World) (h : Heap), YP w h → (K w.params).In h)
    (F : ∀ (w : World) (mg : Str → Option Value) (fa : Addr) (h : Heap), (K w.params).In h → h.Ns mainGlobals mg → XP mg h → mg d.name = some (.ref fa) →
      ∃ fd : FuncData, (∀ (s : Shared) (u : Value), BindsTo s fd ⟨[u], []⟩ [(x, u)]) ∧ ∀ base : Heap, (K w.params).In base → base.Ns mainGlobals mg → FnG l.prog w (K w.params) mg base k fa fd [x] (sp w))
    (hsp : ∀ (w : World) (H : Hp) (a : Addr) (ns : List Int), ns.length ≤ n → SqL (K w.params) H a (ns.map V.int) → sp w [.ref a] H (fun v _ => v = .bl true) fun _ _ _ => False) :
    WalkO q loose XP YP l.row.toRowW d [] (fun f vs => PySem.call f vs) := by
  refine Att.attach_call hn hdf fun w s₀ s₁ mg mb fa o pm cd doc a vs ns G Y ho hd hcd hmg hobj hints hlen hg => ?_
  obtain ⟨fd, hb, hF⟩ := F w mg fa _ (hY w _ Y) G.T.g G.X hmg
  exact law_G (hY w _ Y) G.T.g G.T.b G.T.builtins G.T.nolimit hg hobj hints (Nat.le_trans hlen hn2) hr hF hb (fun H hS => hsp w H a ns hlen hS)
end Fb
set_option Elab.async false
set_option linter.all false
set_option maxRecDepth 100000
set_option maxHeartbeats 2000000
namespace Fb
open PySem
/-! ### programs as trees; what is laid out of them -/
mutual
inductive Stm : Type
  | mk (w x : Str) (r : List PyData) (h : w = "let" ∨ w = "sum" ∨ w = "call")
  | no (w : Str) (r : List PyData) (h : w = "set" ∨ w = "tell" ∨ w = "give")
  | fn (x : Str) (ps : List Str) (b : Blk)
  | ite (a : PyData) (b1 b2 : Blk)
  | whl (a : PyData) (b : Blk)
  | tms (one : Bool) (x : Str) (a : PyData) (b : Blk)
inductive Blk : Type
  | nil
  | cons (s : Stm) (r : Blk)
end
def modeS (one : Bool) : Str := if one then "one" else "own"
mutual
def dS : Stm → PyData
  | .mk w x r _ => .tuple (.str w :: .str x :: r)
  | .no w r _ => .tuple (.str w :: r)
  | .fn x ps b => .tuple [.str "fn", .str x, .tuple (ps.map .str), .tuple (dB b)]
  | .ite a b1 b2 => .tuple [.str "if", a, .tuple (dB b1), .tuple (dB b2)]
  | .whl a b => .tuple [.str "while", a, .tuple (dB b)]
  | .tms one x a b => .tuple [.str "times", .str (modeS one), .str x, a, .tuple (dB b)]
def dB : Blk → List PyData
  | .nil => []
  | .cons s r => dS s :: dB r
end
/-! what its lists will have, at most -/
mutual
def wS : Stm → Nat
  | .mk .. => 2
  | .no .. => 1
  | .fn _ ps b => 4 + ps.length + wB b
  | .ite _ b1 b2 => 3 + wB b1 + wB b2
  | .whl _ b => 2 + wB b
  | .tms _ _ _ b => 4 + wB b
def wB : Blk → Nat
  | .nil => 0
  | .cons s r => wS s + wB r
end
theorem wS_pos (s : Stm) : 1 ≤ wS s := by
  cases s <;> simp only [wS] <;> omega
abbrev nD (n : Nat) : PyData := .int (n : Int)
def rowG (kind : Str) (k a : PyData) : PyData := .tuple [.str kind, k, a]
def rowM (x : Str) (k g : Nat) : PyData := .tuple [.str x, nD k, nD g]
def rowB (k : PyData) (ps : List Str) : PyData := .tuple [k, .tuple (ps.map .str)]
structure TS where
  pl : List (PyData × Nat × Nat)
  bd : List PyData
  gr : List PyData
  mm : List PyData
mutual
def layS : Stm → Nat → Nat → TS → TS
  | .mk w x r h, g, b, t => { t with pl := t.pl ++ [(dS (.mk w x r h), g, b)], mm := t.mm ++ [rowM x t.pl.length g] }
  | .no w r h, g, b, t => { t with pl := t.pl ++ [(dS (.no w r h), g, b)] }
  | .fn x ps blk, g, b, t => layB blk t.gr.length t.bd.length { pl := t.pl ++ [(dS (.fn x ps blk), g, b)], mm := t.mm ++ (rowM x t.pl.length g :: ps.map fun p => rowM p t.pl.length t.gr.length), bd := t.bd ++ [rowB (nD t.pl.length) ps], gr := t.gr ++ [rowG "body" (nD t.pl.length) (nD g)] }
  | .ite a b1 b2, g, b, t =>
    let t1 := layB b1 t.gr.length b { t with pl := t.pl ++ [(dS (.ite a b1 b2), g, b)], gr := t.gr ++ [rowG "one" (nD t.pl.length) (nD g)] }
    layB b2 t1.gr.length b { t1 with gr := t1.gr ++ [rowG "other" (nD t.pl.length) (nD g)] }
  | .whl a blk, g, b, t => layB blk t.gr.length b { t with pl := t.pl ++ [(dS (.whl a blk), g, b)], gr := t.gr ++ [rowG "while" (nD t.pl.length) (nD g)] }
  | .tms true x a blk, g, b, t => layB blk (t.gr.length + 1) b { t with pl := t.pl ++ [(dS (.tms true x a blk), g, b)], mm := t.mm ++ [rowM x t.pl.length t.gr.length], gr := t.gr ++ [rowG "head" (nD t.pl.length) (nD g)] ++ [rowG "times" (nD t.pl.length) (nD t.gr.length)] }
  | .tms false x a blk, g, b, t => layB blk t.gr.length b { t with pl := t.pl ++ [(dS (.tms false x a blk), g, b)], mm := t.mm ++ [rowM x t.pl.length t.gr.length], gr := t.gr ++ [rowG "times" (nD t.pl.length) (nD g)] }
def layB : Blk → Nat → Nat → TS → TS
  | .nil, _, _, t => t
  | .cons s r, g, b, t => layB r g b (layS s g b t)
end
/-! ### the pile -/
inductive Itm : Type
  | blk (kind : Str) (k a : PyData) (body : Nat) (b : Blk)
  | plc (s : Stm) (g b : Nat)
def runI : Itm → TS → TS
  | .blk kind k a body b, t => layB b t.gr.length body { t with gr := t.gr ++ [rowG kind k a] }
  | .plc s g b, t => layS s g b t
def runIs (l : List Itm) (t : TS) : TS := l.foldl (fun t i => runI i t) t
def plcs : Blk → Nat → Nat → List Itm
  | .nil, _, _ => []
  | .cons s r, g, b => .plc s g b :: plcs r g b
theorem run_plcs : ∀ (blk : Blk) (g b : Nat) (t : TS), runIs (plcs blk g b) t = layB blk g b t
  | .nil, _, _, _ => rfl
  | .cons s r, g, b, t => by
    show runIs (plcs r g b) (layS s g b t) = layB r g b (layS s g b t)
    exact run_plcs r g b _
theorem runIs_append (a b : List Itm) (t : TS) : runIs (a ++ b) t = runIs b (runIs a t) := List.foldl_append ..
/-- a statement met: what is laid at once, and the blocks that come -/
def metT : Stm → Nat → Nat → TS → TS
  | .mk w x r h, g, b, t => { t with pl := t.pl ++ [(dS (.mk w x r h), g, b)], mm := t.mm ++ [rowM x t.pl.length g] }
  | .no w r h, g, b, t => { t with pl := t.pl ++ [(dS (.no w r h), g, b)] }
  | .fn x ps blk, g, b, t => { t with pl := t.pl ++ [(dS (.fn x ps blk), g, b)], mm := t.mm ++ (rowM x t.pl.length g :: ps.map fun p => rowM p t.pl.length t.gr.length), bd := t.bd ++ [rowB (nD t.pl.length) ps] }
  | .ite a b1 b2, g, b, t => { t with pl := t.pl ++ [(dS (.ite a b1 b2), g, b)] }
  | .whl a blk, g, b, t => { t with pl := t.pl ++ [(dS (.whl a blk), g, b)] }
  | .tms true x a blk, g, b, t => { t with pl := t.pl ++ [(dS (.tms true x a blk), g, b)], mm := t.mm ++ [rowM x t.pl.length t.gr.length], gr := t.gr ++ [rowG "head" (nD t.pl.length) (nD g)] }
  | .tms false x a blk, g, b, t => { t with pl := t.pl ++ [(dS (.tms false x a blk), g, b)], mm := t.mm ++ [rowM x t.pl.length t.gr.length] }
def metI : Stm → Nat → Nat → TS → List Itm
  | .mk .., _, _, _ => []
  | .no .., _, _, _ => []
  | .fn x ps blk, g, b, t => [.blk "body" (nD t.pl.length) (nD g) t.bd.length blk]
  | .ite a b1 b2, g, b, t => [.blk "one" (nD t.pl.length) (nD g) b b1, .blk "other" (nD t.pl.length) (nD g) b b2]
  | .whl a blk, g, b, t => [.blk "while" (nD t.pl.length) (nD g) b blk]
  | .tms true x a blk, g, b, t => [.blk "times" (nD t.pl.length) (nD t.gr.length) b blk]
  | .tms false x a blk, g, b, t => [.blk "times" (nD t.pl.length) (nD g) b blk]
theorem run_met (s : Stm) (g b : Nat) (t : TS) : runIs (metI s g b t) (metT s g b t) = layS s g b t := by
  cases s with
  | mk w x r h => simp [metI, metT, layS, runIs]
  | no w r h => simp [metI, metT, layS, runIs]
  | fn x ps blk => simp [metI, metT, layS, runIs, runI]
  | ite a b1 b2 => simp [metI, metT, layS, runIs, runI]
  | whl a blk => simp [metI, metT, layS, runIs, runI]
  | tms one x a blk => cases one <;> simp [metI, metT, layS, runIs, runI]
def wI : Itm → Nat
  | .blk _ _ _ _ b => 1 + wB b
  | .plc s _ _ => wS s
theorem wI_pos (i : Itm) : 1 ≤ wI i := by
  cases i with
  | blk => simp only [wI]; omega
  | plc s => exact wS_pos s
def wIs (l : List Itm) : Nat := (l.map wI).sum
theorem wIs_cons (i : Itm) (l : List Itm) : wIs (i :: l) = wI i + wIs l := by simp [wIs]
theorem wIs_append (a b : List Itm) : wIs (a ++ b) = wIs a + wIs b := by simp [wIs]
theorem len_wIs : ∀ l : List Itm, l.length ≤ wIs l
  | [] => Nat.le_refl _
  | i :: r => by
    rw [wIs_cons, List.length_cons]
    have := len_wIs r
    have := wI_pos i
    omega
theorem w_plcs : ∀ (blk : Blk) (g b : Nat), wIs (plcs blk g b) = wB blk
  | .nil, _, _ => rfl
  | .cons s r, g, b => by
    show wIs (.plc s g b :: plcs r g b) = wS s + wB r
    rw [wIs_cons, w_plcs r]
    rfl
def TS.n (t : TS) : Nat := t.pl.length + t.bd.length + t.gr.length + t.mm.length
theorem w_met (s : Stm) (g b : Nat) (t : TS) : (metT s g b t).n + wIs (metI s g b t) ≤ t.n + wS s := by
  cases s with
  | mk w x r h => simp [metI, metT, TS.n, wIs, wI, wS]; omega
  | no w r h => simp [metI, metT, TS.n, wIs, wI, wS]; omega
  | fn x ps blk => simp [metI, metT, TS.n, wIs, wI, wS]; omega
  | ite a b1 b2 => simp [metI, metT, TS.n, wIs, wI, wS]; omega
  | whl a blk => simp [metI, metT, TS.n, wIs, wI, wS]; omega
  | tms one x a blk => cases one <;> simp [metI, metT, TS.n, wIs, wI, wS] <;> omega
/-! the measure falls -/
mutual
def zS : Stm → Nat
  | .mk .. => 1
  | .no .. => 1
  | .fn _ _ b => 2 + zB b
  | .ite _ b1 b2 => 3 + zB b1 + zB b2
  | .whl _ b => 2 + zB b
  | .tms _ _ _ b => 2 + zB b
def zB : Blk → Nat
  | .nil => 0
  | .cons s r => zS s + zB r
end
def zI : Itm → Nat
  | .blk _ _ _ _ b => 1 + zB b
  | .plc s _ _ => zS s
def zIs (l : List Itm) : Nat := (l.map zI).sum
theorem zIs_cons (i : Itm) (l : List Itm) : zIs (i :: l) = zI i + zIs l := by simp [zIs]
theorem zIs_append (a b : List Itm) : zIs (a ++ b) = zIs a + zIs b := by simp [zIs]
theorem z_plcs : ∀ (blk : Blk) (g b : Nat), zIs (plcs blk g b) = zB blk
  | .nil, _, _ => rfl
  | .cons s r, g, b => by
    show zIs (.plc s g b :: plcs r g b) = zS s + zB r
    rw [zIs_cons, z_plcs r]
    rfl
theorem z_met (s : Stm) (g b : Nat) (t : TS) : zIs (metI s g b t) + 1 = zS s := by
  cases s with
  | mk w x r h => simp [metI, zIs, zI, zS]
  | no w r h => simp [metI, zIs, zI, zS]
  | fn x ps blk => simp [metI, zIs, zI, zS]; omega
  | ite a b1 b2 => simp [metI, zIs, zI, zS]; omega
  | whl a blk => simp [metI, zIs, zI, zS]; omega
  | tms one x a blk => cases one <;> simp [metI, zIs, zI, zS] <;> omega
mutual
theorem w_layS : ∀ (s : Stm) (g b : Nat) (t : TS), (layS s g b t).n ≤ t.n + wS s
  | .mk w x r h, g, b, t => by simp [layS, TS.n, wS]; omega
  | .no w r h, g, b, t => by simp [layS, TS.n, wS]; omega
  | .fn x ps blk, g, b, t => by
    rw [layS]
    refine Nat.le_trans (w_layB blk _ _ _) ?_
    simp [TS.n, wS]; omega
  | .ite a b1 b2, g, b, t => by
    rw [layS]
    refine Nat.le_trans (w_layB b2 _ _ _) ?_
    have h := w_layB b1 t.gr.length b { t with pl := t.pl ++ [(dS (.ite a b1 b2), g, b)], gr := t.gr ++ [rowG "one" (nD t.pl.length) (nD g)] }
    simp [TS.n, wS] at h ⊢; omega
  | .whl a blk, g, b, t => by
    rw [layS]
    refine Nat.le_trans (w_layB blk _ _ _) ?_
    simp [TS.n, wS]; omega
  | .tms true x a blk, g, b, t => by
    rw [layS]
    refine Nat.le_trans (w_layB blk _ _ _) ?_
    simp [TS.n, wS]; omega
  | .tms false x a blk, g, b, t => by
    rw [layS]
    refine Nat.le_trans (w_layB blk _ _ _) ?_
    simp [TS.n, wS]; omega
theorem w_layB : ∀ (blk : Blk) (g b : Nat) (t : TS), (layB blk g b t).n ≤ t.n + wB blk
  | .nil, g, b, t => Nat.le_refl _
  | .cons s r, g, b, t => by
    rw [layB]
    have h1 := w_layB r g b (layS s g b t)
    have h2 := w_layS s g b t
    simp only [wB]
    omega
end
end Fb
set_option Elab.async false
set_option linter.all false
set_option maxRecDepth 100000
set_option maxHeartbeats 2000000
namespace Fb
open PySem PySem.Spec PyProof.Rows L2
/-! ### what may change -/
def Mod (S : List Addr) (H H' : Hp) : Prop := ∀ b o, H b = some o → b ∉ S → H' b = some o
theorem Mod.refl (S : List Addr) (H : Hp) : Mod S H H := fun _ _ e _ => e
theorem Mod.trans {S : List Addr} {H H1 H2 : Hp} (a : Mod S H H1) (b : Mod S H1 H2) : Mod S H H2 := fun c o e h => b c o (a c o e h) h
theorem Mod.of {S : List Addr} {H H' : Hp} (s : Same H H') : Mod S H H' := fun b o e _ => s b o e
theorem Mod.wide {S S' : List Addr} {H H' : Hp} (m : Mod S H H') (h : ∀ b ∈ S, b ∈ S') : Mod S' H H' := fun b o e z => m b o e fun q => z (h b q)
theorem Mod.put {S : List Addr} {H H' : Hp} {p : Addr} {o : HO} (m : Mod S H H') (h : p ∈ S ∨ H p = none) : Mod S H (L2.upd H' p o) := fun b x e z => by
  rcases h with h | h
  · rw [upd_ne (show b ≠ p from fun q => z (by rw [q]; exact h))]
    exact m b x e z
  · rw [upd_ne (ne_of_none e h)]
    exact m b x e z
theorem Mod.same {H H' : Hp} (m : Mod [] H H') : Same H H' := fun b o e => m b o e (by simp)
/-- what an object bears for ever -/
def Fix : HO → Prop
  | .tup _ => True
  | .frz _ _ => True
  | .ins _ _ _ => True
  | _ => False
def Ext (H H' : Hp) : Prop := ∀ b o, H b = some o → Fix o → H' b = some o
theorem Ext.refl (H : Hp) : Ext H H := fun _ _ e _ => e
theorem Ext.trans {H H1 H2 : Hp} (a : Ext H H1) (b : Ext H1 H2) : Ext H H2 := fun c o e f => b c o (a c o e f) f
theorem Same.ext {H H' : Hp} (s : Same H H') : Ext H H' := fun b o e _ => s b o e
theorem Mod.ext {S : List Addr} {H H' : Hp} (m : Mod S H H') (h : ∀ b ∈ S, ∀ o, H b = some o → ¬ Fix o) : Ext H H' := fun b o e f => m b o e fun q => h b q o e f
theorem no_lst {H : Hp} {a : Addr} {xs : List V} (h : H a = some (.lst xs)) : ∀ o, H a = some o → ¬ Fix o := fun o e => by
  rw [h] at e
  cases e
  exact id
theorem no_dk {H : Hp} {a : Addr} {xs : List (Key × V)} (h : H a = some (.dK xs)) : ∀ o, H a = some o → ¬ Fix o := fun o e => by
  rw [h] at e
  cases e
  exact id
theorem no_none {H : Hp} {a : Addr} (h : H a = none) : ∀ o, H a = some o → ¬ Fix o := fun o e => by
  rw [h] at e
  cases e
/-! ### data without lists stays -/
mutual
def noL : PyData → Bool
  | .none | .bool _ | .int _ | .str _ => true
  | .tuple xs => noLs xs
  | _ => false
def noLs : List PyData → Bool
  | [] => true
  | x :: xs => noL x && noLs xs
end
/-! tuples alone -/
def FixT : HO → Prop
  | .tup _ => True
  | .frz _ _ => True
  | _ => False
def ExtT (H H' : Hp) : Prop := ∀ b o, H b = some o → FixT o → H' b = some o
theorem Ext.t {H H' : Hp} (e : Ext H H') : ExtT H H' := fun b o h f => e b o h (by cases o <;> first | exact True.intro | exact f.elim)
theorem ExtT.trans {H H1 H2 : Hp} (a : ExtT H H1) (b : ExtT H1 H2) : ExtT H H2 := fun c o e f => b c o (a c o e f) f
theorem Mod.extT {S : List Addr} {H H' : Hp} (m : Mod S H H') (h : ∀ b ∈ S, ∀ o, H b = some o → ¬ FixT o) : ExtT H H' := fun b o e f => m b o e fun q => h b q o e f
theorem noT_ins {H : Hp} {a C dx : Addr} {fs : List (Str × V)} (h : H a = some (.ins C dx fs)) : ∀ o, H a = some o → ¬ FixT o := fun o e => by
  rw [h] at e
  cases e
  exact id
theorem noT_of {H : Hp} {a : Addr} (h : ∀ o, H a = some o → ¬ Fix o) : ∀ o, H a = some o → ¬ FixT o := fun o e f => h o e (by cases o <;> first | exact True.intro | exact f.elim)
theorem sqT_extT {K : PySem.W.Frag} {H H' : Hp} {a : Addr} {xs : List V} (e : ExtT H H') (h : SqT K H a xs) : SqT K H' a xs := by
  rcases h with (h | ⟨o, h⟩) | h
  · exact .inl (.inl (e _ _ h True.intro))
  · exact .inl (.inr ⟨o, e _ _ h True.intro⟩)
  · exact .inr h
mutual
theorem dp_extT {K : PySem.W.Frag} {H H' : Hp} (e : ExtT H H') : ∀ (d : PyData) (v : V), Dp K H v d → noL d = true → Dp K H' v d
  | .none, _, h, _ => by cases h; exact .non
  | .bool b, _, h, _ => by cases h; exact .bl b
  | .int i, _, h, _ => by cases h; exact .int i
  | .str x, _, h, _ => by cases h; exact .str x
  | .list _, _, _, n => by simp [noL] at n
  | .dict _, _, _, n => by simp [noL] at n
  | .tuple ds, _, h, n => by
    cases h with
    | tup a b => exact .tup (sqT_extT e a) (dps_extT e ds _ b (by simpa [noL] using n))
theorem dps_extT {K : PySem.W.Frag} {H H' : Hp} (e : ExtT H H') : ∀ (ds : List PyData) (vs : List V), DpAll K H vs ds → noLs ds = true → DpAll K H' vs ds
  | [], _, h, _ => by cases h; exact .nil
  | d :: ds, _, h, n => by
    cases h with
    | cons a b =>
      rw [noLs, Bool.and_eq_true] at n
      exact .cons (dp_extT e d _ a n.1) (dps_extT e ds _ b n.2)
end
theorem sqT_ext {K : PySem.W.Frag} {H H' : Hp} {a : Addr} {xs : List V} (e : Ext H H') (h : SqT K H a xs) : SqT K H' a xs := sqT_extT e.t h
theorem dp_ext {K : PySem.W.Frag} {H H' : Hp} (e : Ext H H') (d : PyData) (v : V) (h : Dp K H v d) (n : noL d = true) : Dp K H' v d := dp_extT e.t d v h n
theorem dps_ext {K : PySem.W.Frag} {H H' : Hp} (e : Ext H H') (ds : List PyData) (vs : List V) (h : DpAll K H vs ds) (n : noLs ds = true) : DpAll K H' vs ds := dps_extT e.t ds vs h n
theorem dps_len {K : PySem.W.Frag} {H : Hp} : ∀ {vs : List V} {ds : List PyData}, DpAll K H vs ds → vs.length = ds.length
  | _, _, .nil => rfl
  | _, _, .cons _ t => by rw [List.length_cons, List.length_cons, dps_len t]
theorem dps_snoc {K : PySem.W.Frag} {H : Hp} {v : V} {d : PyData} : ∀ {vs : List V} {ds : List PyData}, DpAll K H vs ds → Dp K H v d → DpAll K H (vs ++ [v]) (ds ++ [d])
  | _, _, .nil, h => .cons h .nil
  | _, _, .cons a t, h => .cons a (dps_snoc t h)
theorem dps_app {K : PySem.W.Frag} {H : Hp} {ws : List V} {es : List PyData} (h : DpAll K H ws es) : ∀ {vs : List V} {ds : List PyData}, DpAll K H vs ds → DpAll K H (vs ++ ws) (ds ++ es)
  | _, _, .nil => h
  | _, _, .cons a t => .cons a (dps_app h t)
theorem dps_at {K : PySem.W.Frag} {H : Hp} : ∀ {vs : List V} {ds : List PyData} {i : Nat} {v : V}, DpAll K H vs ds → vs[i]? = some v → ∃ d, ds[i]? = some d ∧ Dp K H v d
  | _, _, 0, _, .cons a _, h => ⟨_, rfl, by cases h; exact a⟩
  | _, _, i + 1, _, .cons _ t, h => dps_at (i := i) t h
  | _, _, _, _, .nil, h => by cases h
theorem dps_strs {K : PySem.W.Frag} {H : Hp} : ∀ ps : List Str, DpAll K H (ps.map V.str) (ps.map PyData.str)
  | [] => .nil
  | p :: r => .cons (.str p) (dps_strs r)
theorem strs_of {K : PySem.W.Frag} {H : Hp} : ∀ {ps : List Str} {vs : List V}, DpAll K H vs (ps.map PyData.str) → vs = ps.map V.str
  | [], _, .nil => rfl
  | p :: r, _, .cons a t => by
    cases a
    rw [strs_of t]
    rfl
/-! ### sizes of what is shown -/
structure Sh (d : PyData) (n m : Nat) : Prop where
  sw : d.showable = true
  nd : d.hasDict = false
  dp : d.depth ≤ m
  ln : d.shown.length ≤ n
  cl : d.canLay0 = true
theorem sh_none (n m : Nat) (h : 4 ≤ n) : Sh .none n m := ⟨rfl, rfl, Nat.zero_le _, Nat.le_trans (by decide +kernel : (PyData.shown .none).length ≤ 4) h, rfl⟩
theorem sh_int {i : Int} {n m : Nat} (h : i.natAbs < 1000000000000) (hn : 13 ≤ n) : Sh (.int i) n m := by
  refine ⟨?_, rfl, Nat.zero_le _, Nat.le_trans (PyData.shown_int_le h) hn, rfl⟩
  show decide (i.natAbs.log2 < 1920) = true
  exact decide_eq_true (Nat.lt_of_lt_of_le (PySem.Flt.log2_lt_of (k := 40) (by decide) (Nat.lt_of_lt_of_le h (by decide))) (by decide))
theorem str_low {x : Str} (hc : ∀ c ∈ x.cps.toList, c < 128) : PyData.canLay0 (.str x) = true := by
  show x.cps.all (· < 0x110000) = true
  rw [← Array.all_toList, List.all_eq_true]
  exact fun c z => decide_eq_true (Nat.lt_trans (hc c z) (by decide))
theorem sh_str {x : Str} {k n m : Nat} (h : x.length ≤ k) (hc : ∀ c ∈ x.cps.toList, c < 128) (hn : 10 * k + 2 ≤ n) : Sh (.str x) n m :=
  ⟨rfl, rfl, Nat.zero_le _, Nat.le_trans (StrLaws.reprText_len x fun c z => Nat.lt_trans (hc c z) (by decide)) (by omega), str_low hc⟩
structure ShA (ds : List PyData) (n m : Nat) : Prop where
  sw : PyData.showableAll ds = true
  nd : PyData.hasDictAll ds = false
  dp : PyData.depthAll ds ≤ m
  ln : ((PyData.shownAll ds).map (·.length)).sum + 2 * ds.length ≤ n
  cl : PyData.canLayAll0 ds = true
theorem sha_nil (n m : Nat) : ShA [] n m := ⟨rfl, rfl, Nat.zero_le _, Nat.zero_le _, rfl⟩
theorem sha_cons {d : PyData} {ds : List PyData} {a b m : Nat} (h : Sh d a m) (t : ShA ds b m) : ShA (d :: ds) (a + 2 + b) m := by
  refine ⟨?_, ?_, ?_, ?_, ?_⟩
  · rw [PyData.showableAll, h.sw, t.sw]; rfl
  · rw [PyData.hasDictAll, h.nd, t.nd]; rfl
  · rw [PyData.depthAll]; exact Nat.max_le.mpr ⟨h.dp, t.dp⟩
  · rw [PyData.shownAll, List.map_cons, List.sum_cons, List.length_cons]
    have := h.ln
    have := t.ln
    omega
  · rw [PyData.canLayAll0, h.cl, t.cl]; rfl
theorem ShA.mono {ds : List PyData} {a b m m' : Nat} (h : ShA ds a m) (h1 : a ≤ b) (h2 : m ≤ m') : ShA ds b m' := ⟨h.sw, h.nd, Nat.le_trans h.dp h2, Nat.le_trans h.ln h1, h.cl⟩
theorem Sh.mono {d : PyData} {a b m m' : Nat} (h : Sh d a m) (h1 : a ≤ b) (h2 : m ≤ m') : Sh d b m' := ⟨h.sw, h.nd, Nat.le_trans h.dp h2, Nat.le_trans h.ln h1, h.cl⟩
theorem sha_all {a m : Nat} : ∀ {ds : List PyData}, (∀ d ∈ ds, Sh d a m) → ShA ds (ds.length * (a + 2)) m
  | [], _ => sha_nil _ _
  | d :: ds, h => (sha_cons (h d List.mem_cons_self) (sha_all fun e z => h e (List.mem_cons_of_mem _ z))).mono (by rw [List.length_cons, Nat.succ_mul]; omega) (Nat.le_refl _)
theorem shown_len : ∀ ds : List PyData, (PyData.shownAll ds).length = ds.length
  | [] => rfl
  | _ :: r => by rw [PyData.shownAll, List.length_cons, List.length_cons, shown_len r]
theorem sh_tup {ds : List PyData} {n m : Nat} (h : ShA ds n m) : Sh (.tuple ds) (n + 3) (m + 1) := by
  refine ⟨h.sw, h.nd, Nat.succ_le_succ h.dp, ?_, h.cl⟩
  have z := tupleText_len_le (PyData.shownAll ds)
  rw [shown_len] at z
  have := h.ln
  show (tupleText (PyData.shownAll ds)).length ≤ _
  omega
theorem sh_lst {ds : List PyData} {n m : Nat} (h : ShA ds n m) : Sh (.list ds) (n + 3) (m + 1) := by
  refine ⟨h.sw, h.nd, Nat.succ_le_succ h.dp, ?_, h.cl⟩
  have z := listText_len_le (PyData.shownAll ds)
  rw [shown_len] at z
  have := h.ln
  show (listText (PyData.shownAll ds)).length ≤ _
  omega
theorem Sh.shaped {d : PyData} {n m : Nat} (h : Sh d n m) (hm : m ≤ 64) : SeqAt.shaped d = true := by
  unfold SeqAt.shaped
  rw [h.cl, Bool.true_and]
  exact decide_eq_true (Nat.le_trans h.dp hm)
/-! ### good statements -/
def nm (x : Str) : Prop := x.length ≤ 20 ∧ ∀ c ∈ x.cps.toList, c < 128
def Lf (d : PyData) : Prop := noL d = true ∧ Sh d 202 0
mutual
def goodS : Stm → Prop
  | .mk _ x r _ => nm x ∧ noLs r = true ∧ ShA r 1300 1
  | .no _ r _ => noLs r = true ∧ ShA r 1300 1
  | .fn x ps b => nm x ∧ ps.length ≤ 4 ∧ (∀ p ∈ ps, nm p) ∧ goodB b
  | .ite a b1 b2 => Lf a ∧ goodB b1 ∧ goodB b2
  | .whl a b => Lf a ∧ goodB b
  | .tms _ x a b => nm x ∧ Lf a ∧ goodB b
def goodB : Blk → Prop
  | .nil => True
  | .cons s r => goodS s ∧ goodB r
end
theorem noLs_all : ∀ {ds : List PyData}, (∀ d ∈ ds, noL d = true) → noLs ds = true
  | [], _ => rfl
  | d :: ds, h => by
    rw [noLs, h d List.mem_cons_self, noLs_all fun e z => h e (List.mem_cons_of_mem _ z)]
    rfl
theorem noLs_strs (ps : List Str) : noLs (ps.map PyData.str) = true := noLs_all fun d h => by
  obtain ⟨x, _, rfl⟩ := List.mem_map.mp h
  rfl
mutual
theorem noL_dS : ∀ s : Stm, goodS s → noL (dS s) = true
  | .mk w x r h, g => by
    rw [goodS] at g
    rw [dS, noL, noLs, noLs, g.2.1]
    rfl
  | .no w r h, g => by
    rw [goodS] at g
    rw [dS, noL, noLs, g.1]
    rfl
  | .fn x ps b, g => by
    rw [goodS] at g
    simp only [dS, noL, noLs, noLs_strs, noL_dB b g.2.2.2, Bool.and_true]
  | .ite a b1 b2, g => by
    rw [goodS] at g
    simp only [dS, noL, noLs, g.1.1, noL_dB b1 g.2.1, noL_dB b2 g.2.2, Bool.and_true]
  | .whl a b, g => by
    rw [goodS] at g
    simp only [dS, noL, noLs, g.1.1, noL_dB b g.2, Bool.and_true]
  | .tms one x a b, g => by
    rw [goodS] at g
    simp only [dS, noL, noLs, g.2.1.1, noL_dB b g.2.2, Bool.and_true]
theorem noL_dB : ∀ b : Blk, goodB b → noLs (dB b) = true
  | .nil, _ => rfl
  | .cons s r, g => by
    rw [goodB] at g
    rw [dB, noLs, noL_dS s g.1, noL_dB r g.2]
    rfl
end
theorem noL_blk {b : Blk} (g : goodB b) : noL (.tuple (dB b)) = true := by
  rw [noL]
  exact noL_dB b g
end Fb
set_option Elab.async false
set_option linter.all false
set_option maxRecDepth 100000
set_option maxHeartbeats 2000000
namespace Fb
open PySem PySem.Spec PyProof.Rows L2
section
variable {K : PySem.W.Frag} {H : Hp} {v : V}
theorem view_tup {ds : List PyData} (h : Dp K H v (.tuple ds)) : ∃ a vs, v = .ref a ∧ SqT K H a vs ∧ DpAll K H vs ds := by
  cases h with
  | tup a b => exact ⟨_, _, rfl, a, b⟩
theorem view_mk {w x : Str} {r : List PyData} {h0} (h : Dp K H v (dS (.mk w x r h0))) : ∃ a rs, v = .ref a ∧ SqT K H a (.str w :: .str x :: rs) ∧ DpAll K H rs r := by
  rw [dS] at h
  obtain ⟨a, vs, rfl, q, z⟩ := view_tup h
  cases z with
  | cons z1 z => cases z1; cases z with
    | cons z2 z => cases z2; exact ⟨a, _, rfl, q, z⟩
theorem view_no {w : Str} {r : List PyData} {h0} (h : Dp K H v (dS (.no w r h0))) : ∃ a rs, v = .ref a ∧ SqT K H a (.str w :: rs) ∧ DpAll K H rs r := by
  rw [dS] at h
  obtain ⟨a, vs, rfl, q, z⟩ := view_tup h
  cases z with
  | cons z1 z => cases z1; exact ⟨a, _, rfl, q, z⟩
theorem view_fn {x : Str} {ps : List Str} {b : Blk} (h : Dp K H v (dS (.fn x ps b))) : ∃ a pa ba, v = .ref a ∧ SqT K H a [.str "fn", .str x, .ref pa, .ref ba] ∧ SqT K H pa (ps.map V.str) ∧ Dp K H (.ref ba) (.tuple (dB b)) := by
  rw [dS] at h
  obtain ⟨a, vs, rfl, q, z⟩ := view_tup h
  cases z with
  | cons z1 z => cases z1; cases z with
    | cons z2 z => cases z2; cases z with
      | cons z3 z =>
        obtain ⟨pa, us, rfl, q3, y3⟩ := view_tup z3
        cases strs_of y3
        cases z with
        | cons z4 z =>
          obtain ⟨ba, ws, rfl, q4, y4⟩ := view_tup z4
          cases z
          exact ⟨a, pa, ba, rfl, q, q3, z4⟩
theorem view_ite {c : PyData} {b1 b2 : Blk} (h : Dp K H v (dS (.ite c b1 b2))) : ∃ a u p1 p2, v = .ref a ∧ SqT K H a [.str "if", u, .ref p1, .ref p2] ∧ Dp K H (.ref p1) (.tuple (dB b1)) ∧ Dp K H (.ref p2) (.tuple (dB b2)) := by
  rw [dS] at h
  obtain ⟨a, vs, rfl, q, z⟩ := view_tup h
  cases z with
  | cons z1 z => cases z1; cases z with
    | cons z2 z => cases z with
      | cons z3 z =>
        obtain ⟨p1, us, rfl, q3, y3⟩ := view_tup z3
        cases z with
        | cons z4 z =>
          obtain ⟨p2, ws, rfl, q4, y4⟩ := view_tup z4
          cases z
          exact ⟨a, _, p1, p2, rfl, q, z3, z4⟩
theorem view_whl {c : PyData} {b : Blk} (h : Dp K H v (dS (.whl c b))) : ∃ a u p, v = .ref a ∧ SqT K H a [.str "while", u, .ref p] ∧ Dp K H (.ref p) (.tuple (dB b)) := by
  rw [dS] at h
  obtain ⟨a, vs, rfl, q, z⟩ := view_tup h
  cases z with
  | cons z1 z => cases z1; cases z with
    | cons z2 z => cases z with
      | cons z3 z =>
        obtain ⟨p, us, rfl, q3, y3⟩ := view_tup z3
        cases z
        exact ⟨a, _, p, rfl, q, z3⟩
theorem view_tms {one : Bool} {x : Str} {c : PyData} {b : Blk} (h : Dp K H v (dS (.tms one x c b))) : ∃ a u p, v = .ref a ∧ SqT K H a [.str "times", .str (modeS one), .str x, u, .ref p] ∧ Dp K H (.ref p) (.tuple (dB b)) := by
  rw [dS] at h
  obtain ⟨a, vs, rfl, q, z⟩ := view_tup h
  cases z with
  | cons z1 z => cases z1; cases z with
    | cons z2 z => cases z2; cases z with
      | cons z3 z => cases z3; cases z with
        | cons z4 z => cases z with
          | cons z5 z =>
            obtain ⟨p, us, rfl, q5, y5⟩ := view_tup z5
            cases z
            exact ⟨a, _, p, rfl, q, z5⟩
end
/-! rules that name the written part (for blocks of comprehensions) -/
theorem pe_fldK {X : Cx} (K0 : PySem.W.Frag) (hK : X.K = K0) {e : Expr} {ta : TE} {f : Str} {pos : Pos} (he : PE X e ta) (hb : attributeBase e f X.env (eval e X.env) = eval e X.env) : PE X (.Attribute e f pos) (tFld K0 ta f) := by
  subst hK
  exact pe_fld he hb
theorem pg_tupK {X : Cx} (K0 : PySem.W.Frag) (hK : X.K = K0) {es : List Expr} {k : Nat} {pos : Pos} {n : Nat} {t : TGs} (hc : X.calm = true) (h : PGs X es t) (hn : (assignEach es X.env).length = n := by rfl) (hst : (assignEach es X.env).findIdx? (·.1) = none := by rfl) : PG X (.Tuple es k pos) (gTup K0 n t) := by
  subst hK
  exact pg_tup hc h hn hst
theorem ixL {X : Cx} (K0 : PySem.W.Frag) (hK : X.K = K0) : IxR X (rIxL K0) := by
  subst hK
  exact ix_list
theorem ixT {X : Cx} (K0 : PySem.W.Frag) (hK : X.K = K0) : IxR X (rIxT K0) := by
  subst hK
  exact ix_tup
/-- the word of a statement -/
def wordS : Stm → Str
  | .mk w .. => w
  | .no w .. => w
  | .fn .. => "fn"
  | .ite .. => "if"
  | .whl .. => "while"
  | .tms .. => "times"
theorem view_any {K : PySem.W.Frag} {H : Hp} {v : V} {s : Stm} (h : Dp K H v (dS s)) : ∃ a xs, v = .ref a ∧ SqT K H a xs ∧ xs[0]? = some (.str (wordS s)) := by
  cases s with
  | mk w x r h0 =>
    obtain ⟨a, rs, e, q, _⟩ := view_mk h
    exact ⟨a, _, e, q, rfl⟩
  | no w r h0 =>
    obtain ⟨a, rs, e, q, _⟩ := view_no h
    exact ⟨a, _, e, q, rfl⟩
  | fn x ps b =>
    obtain ⟨a, _, _, e, q, _⟩ := view_fn h
    exact ⟨a, _, e, q, rfl⟩
  | ite c b1 b2 =>
    obtain ⟨a, _, _, _, e, q, _⟩ := view_ite h
    exact ⟨a, _, e, q, rfl⟩
  | whl c b =>
    obtain ⟨a, _, _, e, q, _⟩ := view_whl h
    exact ⟨a, _, e, q, rfl⟩
  | tms one x c b =>
    obtain ⟨a, _, _, e, q, _⟩ := view_tms h
    exact ⟨a, _, e, q, rfl⟩
/-! which word it is -/
abbrev mkW : List Str := ["let", "sum", "call"]
theorem mkW_in {w : Str} (h : w = "let" ∨ w = "sum" ∨ w = "call") : inV (.str w) (mkW.map V.str) = true := by
  rcases h with e | e | e <;> (subst e; decide +kernel)
theorem mkW_ne {w : Str} (h : w = "let" ∨ w = "sum" ∨ w = "call") : ¬ w = "fn" ∧ ¬ w = "if" ∧ ¬ w = "while" ∧ ¬ w = "times" := by
  rcases h with e | e | e <;> (subst e; decide +kernel)
theorem noW_in {w : Str} (h : w = "set" ∨ w = "tell" ∨ w = "give") : inV (.str w) (mkW.map V.str) = false := by
  rcases h with e | e | e <;> (subst e; decide +kernel)
theorem noW_ne {w : Str} (h : w = "set" ∨ w = "tell" ∨ w = "give") : ¬ w = "fn" ∧ ¬ w = "if" ∧ ¬ w = "while" ∧ ¬ w = "times" := by
  rcases h with e | e | e <;> (subst e; decide +kernel)
/-! what a statement makes; its blocks -/
def madeD : Stm → Nat → Nat → Nat → List PyData
  | .mk _ x _ _, k, g, _ => [rowM x k g]
  | .fn x ps _, k, g, f => rowM x k g :: ps.map fun p => rowM p k f
  | .tms _ x _ _, k, _, f => [rowM x k f]
  | _, _, _, _ => []
def blks : Stm → List (Str × Blk)
  | .fn _ _ b => [("body", b)]
  | .ite _ b1 b2 => [("one", b1), ("other", b2)]
  | .whl _ b => [("while", b)]
  | .tms _ _ _ b => [("times", b)]
  | _ => []
def kbD (q : Str × Blk) : PyData := .tuple [.str q.1, .tuple (dB q.2)]
def isOne : Stm → Bool
  | .tms true .. => true
  | _ => false
def isFn : Stm → Bool
  | .fn .. => true
  | _ => false
def arnd (s : Stm) (g f : Nat) : Nat := if isOne s then f else g
def bodN (s : Stm) (b n : Nat) : Nat := if isFn s then n else b
theorem metI_eq (s : Stm) (g b : Nat) (t : TS) : metI s g b t = (blks s).map fun q => .blk q.1 (nD t.pl.length) (nD (arnd s g t.gr.length)) (bodN s b t.bd.length) q.2 := by
  cases s with
  | tms one x c b => cases one <;> rfl
  | _ => rfl
theorem metT_pl (s : Stm) (g b : Nat) (t : TS) : (metT s g b t).pl = t.pl ++ [(dS s, g, b)] := by
  cases s with
  | tms one x c b => cases one <;> rfl
  | _ => rfl
theorem metT_mm (s : Stm) (g b : Nat) (t : TS) : (metT s g b t).mm = t.mm ++ madeD s t.pl.length g t.gr.length := by
  cases s with
  | tms one x c b => cases one <;> rfl
  | mk w x r h => rfl
  | fn x ps b => rfl
  | no w r h => exact (List.append_nil _).symm
  | ite c b1 b2 => exact (List.append_nil _).symm
  | whl c b => exact (List.append_nil _).symm
def bdD : Stm → Nat → List PyData
  | .fn _ ps _, k => [rowB (nD k) ps]
  | _, _ => []
def grD : Stm → Nat → Nat → List PyData
  | .tms true .., k, g => [rowG "head" (nD k) (nD g)]
  | _, _, _ => []
theorem metT_bd (s : Stm) (g b : Nat) (t : TS) : (metT s g b t).bd = t.bd ++ bdD s t.pl.length := by
  cases s with
  | fn x ps b => rfl
  | tms one x c b => cases one <;> exact (List.append_nil _).symm
  | _ => exact (List.append_nil _).symm
theorem metT_gr (s : Stm) (g b : Nat) (t : TS) : (metT s g b t).gr = t.gr ++ grD s t.pl.length g := by
  cases s with
  | tms one x c b =>
    cases one
    · exact (List.append_nil _).symm
    · rfl
  | _ => exact (List.append_nil _).symm
theorem madeD_len (s : Stm) (k g f : Nat) : (madeD s k g f).length ≤ wS s := by
  cases s with
  | tms one x c b => simp [madeD, wS]; omega
  | mk w x r h => simp [madeD, wS]
  | fn x ps b => simp [madeD, wS]; omega
  | no w r h => simp [madeD]
  | ite c b1 b2 => simp [madeD]
  | whl c b => simp [madeD]
theorem goodB_blks {s : Stm} (g : goodS s) : ∀ q ∈ blks s, goodB q.2 := by
  cases s with
  | mk w x r h => intro q z; cases z
  | no w r h => intro q z; cases z
  | fn x ps b =>
    rw [goodS] at g
    intro q z
    rw [List.mem_singleton.mp z]
    exact g.2.2.2
  | ite c b1 b2 =>
    rw [goodS] at g
    intro q z
    simp only [blks, List.mem_cons, List.not_mem_nil, or_false] at z
    rcases z with e | e
    · rw [e]; exact g.2.1
    · rw [e]; exact g.2.2
  | whl c b =>
    rw [goodS] at g
    intro q z
    rw [List.mem_singleton.mp z]
    exact g.2
  | tms one x c b =>
    rw [goodS] at g
    intro q z
    rw [List.mem_singleton.mp z]
    exact g.2.2
end Fb
set_option Elab.async false
set_option linter.all false
set_option maxRecDepth 100000
set_option maxHeartbeats 2000000
namespace Fb
open PySem PySem.Spec PyProof.Rows L2
mutual
def nS : Stm → Nat
  | .mk .. => 1
  | .no .. => 1
  | .fn _ _ b => 1 + nB b
  | .ite _ b1 b2 => 1 + nB b1 + nB b2
  | .whl _ b => 1 + nB b
  | .tms _ _ _ b => 1 + nB b
def nB : Blk → Nat
  | .nil => 0
  | .cons s r => nS s + nB r
end
mutual
theorem w9S : ∀ s : Stm, goodS s → wS s ≤ 9 * nS s
  | .mk .., _ => by simp only [wS, nS]; omega
  | .no .., _ => by simp only [wS, nS]; omega
  | .fn _ ps b, g => by
    rw [goodS] at g
    have := w9B b g.2.2.2
    simp only [wS, nS]; omega
  | .ite _ b1 b2, g => by
    rw [goodS] at g
    have := w9B b1 g.2.1
    have := w9B b2 g.2.2
    simp only [wS, nS]; omega
  | .whl _ b, g => by
    rw [goodS] at g
    have := w9B b g.2
    simp only [wS, nS]; omega
  | .tms _ _ _ b, g => by
    rw [goodS] at g
    have := w9B b g.2.2
    simp only [wS, nS]; omega
theorem w9B : ∀ b : Blk, goodB b → wB b ≤ 9 * nB b
  | .nil, _ => Nat.le_refl _
  | .cons s r, g => by
    rw [goodB] at g
    have := w9S s g.1
    have := w9B r g.2
    simp only [wB, nB]; omega
end
/-! ### some more rules -/
section
variable {X : Cx}
theorem mul_ok {z : Str} {n : Int} (h : n = 0 ∨ n = 1) : PySem.MulOk z n := by
  rcases h with rfl | rfl
  · exact ⟨by decide, fun a => absurd (by decide) a, fun a => absurd (by decide) a⟩
  · exact ⟨by decide, fun _ b => by simp at b, fun _ b => by simp at b⟩
theorem mul_is {z : Str} {n : Int} (h : n = 0 ∨ n = 1) : Txt.mul z n = if n = 1 then z else Str.empty := by
  rcases h with rfl | rfl
  · rfl
  · simp [Txt.mul]
theorem op_mul_s01 : OpR X (binaryOp .Mult) (fun x y H Q => ∃ (z : Str) (n : Int), x = .str z ∧ y = .int n ∧ (n = 0 ∨ n = 1) ∧ Q (.str (if n = 1 then z else Str.empty)) H) := by
  intro pins s σ H x y v u Q I rx ry h
  obtain ⟨z, n, rfl, rfl, hn, q⟩ := h
  obtain ⟨t, rfl⟩ := rx
  obtain ⟨t2, rfl⟩ := ry
  refine SB.mul (mul_ok hn) fun t' k => ?_
  rw [mul_is hn]
  exact ⟨.str _, H, I.tok _, ⟨_, rfl⟩, q⟩
theorem lenK (K0 : PySem.W.Frag) (hK : X.K = K0) : CallR X (.builtin "len") (fun xs H Q => ∃ p ys, xs = [.ref p] ∧ (SqL K0 H p ys ∨ SqT K0 H p ys) ∧ Q (.int ys.length) H) := by
  subst hK
  exact call_len_seq
theorem inK (K0 : PySem.W.Frag) (hK : X.K = K0) : OpR X (compareOp .In) (rIn K0 false) := by
  subst hK
  exact op_in_seq
end
/-! ### a block that grows behind -/
def snoc : Blk → Stm → Blk
  | .nil, s => .cons s .nil
  | .cons x r, s => .cons x (snoc r s)
theorem dB_snoc : ∀ (b : Blk) (s : Stm), dB (snoc b s) = dB b ++ [dS s]
  | .nil, s => by rw [snoc, dB, dB, dB]; rfl
  | .cons x r, s => by rw [snoc, dB, dB, dB_snoc r s]; rfl
theorem goodB_snoc : ∀ {b : Blk} {s : Stm}, goodB b → goodS s → goodB (snoc b s)
  | .nil, s, _, h => by rw [snoc, goodB, goodB]; exact ⟨h, True.intro⟩
  | .cons x r, s, g, h => by
    rw [goodB] at g
    rw [snoc, goodB]
    exact ⟨g.1, goodB_snoc g.2 h⟩
theorem nB_snoc : ∀ (b : Blk) (s : Stm), nB (snoc b s) = nB b + nS s
  | .nil, s => by rw [snoc, nB, nB, nB]; omega
  | .cons x r, s => by rw [snoc, nB, nB, nB_snoc r s]; omega
/-! ### the world of names -/
def wD (ln : Addr) (m : Nat) : List (Key × V) := [(.inr "names", .ref ln), (.inr "left", .int (m : Int))]
theorem ne_nl2 : ¬ (kx "names" = kx "left") := by decide +kernel
section
variable {ln wd : Addr} {m x : Nat} {H : Hp}
theorem gw_names (h : H wd = some (.dK (wD ln m))) : DGet H wd (.str "names") (some (.ref ln)) := by
  have z := DGet.k (k := kx "names") h
  rw [show valV (wD ln m) (kx "names") = some (.ref ln) from valV_pos rfl] at z
  exact z
theorem gw_left (h : H wd = some (.dK (wD ln m))) : DGet H wd (.str "left") (some (.int (m : Int))) := by
  have z := DGet.k (k := kx "left") h
  rw [show valV (wD ln m) (kx "left") = some (.int (m : Int)) from (valV_neg ne_nl2).trans (valV_pos rfl)] at z
  exact z
theorem uw_left (h : H wd = some (.dK (wD ln m))) : DPut H wd (.str "left") (.int (x : Int)) (L2.upd H wd (.dK (wD ln x))) := by
  refine .inl ⟨wD ln m, .inr "left", h, rfl, ?_, ?_⟩
  · show 2 < sizeLine
    exact small1000 (by decide)
  · have a := ne_nl2
    have e : putK (wD ln m) (.inr "left") (.int (x : Int)) = wD ln x := by simp [putK, wD, a]
    rw [e]
end
theorem merge_w {ln : Addr} {m : Nat} : mergeK [] (wD ln m) = wD ln m := by
  have a := ne_nl2
  simp [mergeK, putK, wD, a]
structure GenAt (H : Hp) (d l wd ln : Addr) (ns : List Str) (m : Nat) : Prop where
  dl : DealAt H d l
  wa : H wd = some (.dK (wD ln m))
  na : H ln = some (.lst (ns.map V.str))
  n0 : 0 < ns.length
  n1 : ns.length ≤ 100
  gd : ∀ x ∈ ns, nm x
  e1 : wd ≠ d
  e2 : ln ≠ l
theorem GenAt.dealt {H H' : Hp} {d l wd ln : Addr} {ns : List Str} {m : Nat} (g : GenAt H d l wd ln ns m) (D : DealAt H' d l) (k : Keep d l H H') : GenAt H' d l wd ln ns m := by
  obtain ⟨s, n, xs, z⟩ := g.dl
  have a1 : wd ≠ l := ne_of g.wa z.2.1 (by intro q; cases q)
  have a2 : ln ≠ d := ne_of g.na z.1 (by intro q; cases q)
  exact ⟨D, k _ _ g.wa g.e1 a1, k _ _ g.na a2 g.e2, g.n0, g.n1, g.gd, g.e1, g.e2⟩
theorem GenAt.same {H H' : Hp} {d l wd ln : Addr} {ns : List Str} {m : Nat} (g : GenAt H d l wd ln ns m) (s : Same H H') : GenAt H' d l wd ln ns m :=
  ⟨g.dl.same s, s _ _ g.wa, s _ _ g.na, g.n0, g.n1, g.gd, g.e1, g.e2⟩
/-- another object changes -/
theorem GenAt.upd {H : Hp} {d l wd ln p : Addr} {ns : List Str} {m : Nat} {o : HO} (g : GenAt H d l wd ln ns m) (h : p ∉ [d, l, wd, ln]) : GenAt (L2.upd H p o) d l wd ln ns m := by
  simp only [List.mem_cons, List.not_mem_nil, or_false, not_or] at h
  exact ⟨g.dl.upd h.1 h.2.1, by rw [upd_ne (Ne.symm h.2.2.1)]; exact g.wa, by rw [upd_ne (Ne.symm h.2.2.2)]; exact g.na, g.n0, g.n1, g.gd, g.e1, g.e2⟩
theorem GenAt.fresh {H : Hp} {d l wd ln p : Addr} {ns : List Str} {m : Nat} (g : GenAt H d l wd ln ns m) (h : H p = none) : p ∉ [d, l, wd, ln] := by
  simp only [List.mem_cons, List.not_mem_nil, or_false, not_or]
  exact ⟨g.dl.d_ne h, g.dl.l_ne h, (ne_of_none g.wa h).symm, (ne_of_none g.na h).symm⟩
theorem GenAt.left {H : Hp} {d l wd ln : Addr} {ns : List Str} {m x : Nat} (g : GenAt H d l wd ln ns m) : GenAt (L2.upd H wd (.dK (wD ln x))) d l wd ln ns x := by
  obtain ⟨s, n, xs, z⟩ := g.dl
  have a1 : wd ≠ l := ne_of g.wa z.2.1 (by intro q; cases q)
  have a3 : ln ≠ wd := ne_of g.na g.wa (by intro q; cases q)
  exact ⟨⟨s, n, xs, by rw [upd_ne g.e1.symm]; exact z.1, by rw [upd_ne a1.symm]; exact z.2.1, z.2.2⟩, upd_same, by rw [upd_ne a3]; exact g.na, g.n0, g.n1, g.gd, g.e1, g.e2⟩
theorem Keep.mod {d l wd : Addr} {H H' : Hp} (k : Keep d l H H') : Mod [d, l, wd] H H' := fun b o e h => by
  simp only [List.mem_cons, List.not_mem_nil, or_false, not_or] at h
  exact k b o e h.1 h.2.1
theorem GenAt.ext {H H' : Hp} {d l wd ln : Addr} {ns : List Str} {m : Nat} (g : GenAt H d l wd ln ns m) (k : Mod [d, l, wd] H H') : Ext H H' := by
  obtain ⟨s, n, xs, z⟩ := g.dl
  refine k.ext fun b hb => ?_
  simp only [List.mem_cons, List.not_mem_nil, or_false] at hb
  rcases hb with e | e | e <;> subst e
  · exact no_dk z.1
  · exact no_lst z.2.1
  · exact no_dk g.wa
theorem Keep.ext {d l : Addr} {H H' : Hp} (D : DealAt H d l) (k : Keep d l H H') : Ext H H' := fun b o e f => by
  obtain ⟨s, n, xs, z⟩ := D
  exact k b o e (fun q => no_dk z.1 o (by rw [← q]; exact e) f) (fun q => no_lst z.2.1 o (by rw [← q]; exact e) f)
/-! ### atoms -/
def At (v : V) (d : PyData) : Prop := (∃ x, v = .str x ∧ d = .str x ∧ nm x) ∨ ∃ n : Int, v = .int n ∧ d = .int n ∧ 0 ≤ n ∧ n < 1000000000
theorem At.dp {K : PySem.W.Frag} {H : Hp} {v : V} {d : PyData} (h : At v d) : Dp K H v d := by
  rcases h with ⟨x, rfl, rfl, _⟩ | ⟨n, rfl, rfl, _⟩
  · exact .str x
  · exact .int n
theorem nm_sh {x : Str} {n m : Nat} (h : nm x) (hn : 202 ≤ n) : Sh (.str x) n m := sh_str h.1 h.2 hn
theorem At.lf {v : V} {d : PyData} (h : At v d) : Lf d := by
  rcases h with ⟨x, rfl, rfl, hx⟩ | ⟨n, rfl, rfl, h0, h1⟩
  · exact ⟨rfl, nm_sh hx (Nat.le_refl _)⟩
  · exact ⟨rfl, sh_int (by omega) (by decide)⟩
theorem Lf.sh {d : PyData} {m : Nat} (h : Lf d) : Sh d 202 m := h.2.mono (Nat.le_refl _) (Nat.zero_le _)
/-! ### what is shown of a statement -/
theorem sh_ps {ps : List Str} (h : ps.length ≤ 4) (g : ∀ p ∈ ps, nm p) : Sh (.tuple (ps.map PyData.str)) 819 1 := by
  refine (sh_tup (sha_all (a := 202) (m := 0) fun d z => ?_)).mono ?_ (Nat.le_refl _)
  · obtain ⟨x, hx, rfl⟩ := List.mem_map.mp z
    exact nm_sh (g x hx) (Nat.le_refl _)
  · rw [List.length_map]
    have : ps.length * (202 + 2) ≤ 4 * (202 + 2) := Nat.mul_le_mul_right _ h
    omega
theorem sh_word {x : Str} {n m : Nat} (h : nm x) (h2 : x.length ≤ 5) (hn : 52 ≤ n) : Sh (.str x) n m := sh_str h2 h.2 hn
theorem nm_words : ∀ x ∈ (["let", "sum", "call", "set", "tell", "give", "fn", "if", "while", "times", "one", "own", "body", "other", "head"] : List Str), x.length ≤ 5 ∧ ∀ c ∈ x.cps.toList, c < 128 := by decide +kernel
theorem sh_w {x : Str} {m : Nat} (h : x ∈ (["let", "sum", "call", "set", "tell", "give", "fn", "if", "while", "times", "one", "own", "body", "other", "head"] : List Str)) : Sh (.str x) 52 m := sh_str (nm_words x h).1 (nm_words x h).2 (by decide)
theorem Sh.deep {d : PyData} {n m : Nat} (h : Sh d n m) : Sh d n d.depth := ⟨h.sw, h.nd, Nat.le_refl _, h.ln, h.cl⟩
mutual
theorem shS : ∀ s : Stm, goodS s → ∃ m, Sh (dS s) (1602 * nS s - 2) m
  | .mk w x r h, g => by
    rw [goodS] at g
    have hw : w ∈ (["let", "sum", "call", "set", "tell", "give", "fn", "if", "while", "times", "one", "own", "body", "other", "head"] : List Str) := by rcases h with e | e | e <;> (subst e; decide +kernel)
    rw [dS]
    exact ⟨_, (sh_tup (sha_cons (sh_w hw) (sha_cons (nm_sh g.1 (Nat.le_refl _)) g.2.2))).mono (by simp only [nS]; omega) (Nat.le_refl _)⟩
  | .no w r h, g => by
    rw [goodS] at g
    have hw : w ∈ (["let", "sum", "call", "set", "tell", "give", "fn", "if", "while", "times", "one", "own", "body", "other", "head"] : List Str) := by rcases h with e | e | e <;> (subst e; decide +kernel)
    rw [dS]
    exact ⟨_, (sh_tup (sha_cons (sh_w hw) g.2)).mono (by simp only [nS]; omega) (Nat.le_refl _)⟩
  | .fn x ps b, g => by
    rw [goodS] at g
    obtain ⟨m, hm⟩ := shB b g.2.2.2
    rw [dS]
    refine ⟨(m + 1) + 1 + 1, (sh_tup (m := m + 1 + 1) (sha_cons (sh_w (by decide +kernel)) (sha_cons (nm_sh g.1 (Nat.le_refl _)) (sha_cons ((sh_ps g.2.1 g.2.2.1).mono (Nat.le_refl _) (by omega)) (sha_cons ((sh_tup hm).mono (Nat.le_refl _) (by omega)) (sha_nil 0 _)))))).mono (by simp only [nS]; omega) (Nat.le_refl _)⟩
  | .ite a b1 b2, g => by
    rw [goodS] at g
    obtain ⟨m1, h1⟩ := shB b1 g.2.1
    obtain ⟨m2, h2⟩ := shB b2 g.2.2
    rw [dS]
    refine ⟨m1 + m2 + 1 + 1, (sh_tup (m := m1 + m2 + 1) (sha_cons (sh_w (by decide +kernel)) (sha_cons g.1.sh (sha_cons ((sh_tup h1).mono (Nat.le_refl _) (by omega)) (sha_cons ((sh_tup h2).mono (Nat.le_refl _) (by omega)) (sha_nil 0 _)))))).mono (by simp only [nS]; omega) (Nat.le_refl _)⟩
  | .whl a b, g => by
    rw [goodS] at g
    obtain ⟨m, hm⟩ := shB b g.2
    rw [dS]
    refine ⟨m + 1 + 1, (sh_tup (m := m + 1) (sha_cons (sh_w (by decide +kernel)) (sha_cons g.1.sh (sha_cons ((sh_tup hm).mono (Nat.le_refl _) (by omega)) (sha_nil 0 _))))).mono (by simp only [nS]; omega) (Nat.le_refl _)⟩
  | .tms one x a b, g => by
    rw [goodS] at g
    obtain ⟨m, hm⟩ := shB b g.2.2
    have hw : modeS one ∈ (["let", "sum", "call", "set", "tell", "give", "fn", "if", "while", "times", "one", "own", "body", "other", "head"] : List Str) := by cases one <;> decide +kernel
    rw [dS]
    refine ⟨m + 1 + 1, (sh_tup (m := m + 1) (sha_cons (sh_w (by decide +kernel)) (sha_cons (sh_w hw) (sha_cons (nm_sh g.1 (Nat.le_refl _)) (sha_cons g.2.1.sh (sha_cons ((sh_tup hm).mono (Nat.le_refl _) (by omega)) (sha_nil 0 _))))))).mono (by simp only [nS]; omega) (Nat.le_refl _)⟩
theorem shB : ∀ b : Blk, goodB b → ∃ m, ShA (dB b) (1602 * nB b) m
  | .nil, _ => ⟨0, sha_nil _ _⟩
  | .cons s r, g => by
    rw [goodB] at g
    obtain ⟨m1, h1⟩ := shS s g.1
    obtain ⟨m2, h2⟩ := shB r g.2
    have : 1 ≤ nS s := by cases s <;> simp only [nS] <;> omega
    rw [dB]
    refine ⟨m1 + m2, (sha_cons (h1.mono (Nat.le_refl _) (Nat.le_add_right _ _)) (h2.mono (Nat.le_refl _) (Nat.le_add_left _ _))).mono ?_ (Nat.le_refl _)⟩
    simp only [nB]
    omega
end
end Fb
set_option Elab.async false
set_option linter.all false
set_option maxRecDepth 100000
set_option maxHeartbeats 2000000
namespace Fb
open PySem PySem.Spec PyProof.Rows L2
/-! ### blocks as lists; heights -/
def stms : Blk → List Stm
  | .nil => []
  | .cons s r => s :: stms r
theorem dB_stms : ∀ b : Blk, dB b = (stms b).map dS
  | .nil => rfl
  | .cons s r => by rw [dB, stms, List.map_cons, dB_stms r]
def layL (l : List Stm) (g b : Nat) (t : Fb.TS) : Fb.TS := l.foldl (fun t s => layS s g b t) t
theorem layB_stms : ∀ (blk : Blk) (g b : Nat) (t : Fb.TS), layB blk g b t = layL (stms blk) g b t
  | .nil, _, _, _ => rfl
  | .cons s r, g, b, t => by
    rw [layB, layB_stms r]
    rfl
theorem layL_snoc (l : List Stm) (s : Stm) (g b : Nat) (t : Fb.TS) : layL (l ++ [s]) g b t = layS s g b (layL l g b t) := by
  unfold layL
  rw [List.foldl_append]
  rfl
def wL (l : List Stm) : Nat := (l.map wS).sum
theorem wL_snoc (l : List Stm) (s : Stm) : wL (l ++ [s]) = wL l + wS s := by simp [wL]
theorem wB_stms : ∀ b : Blk, wB b = wL (stms b)
  | .nil => rfl
  | .cons s r => by
    rw [wB, stms, wB_stms r]
    simp [wL]
theorem w_layL : ∀ (l : List Stm) (g b : Nat) (t : Fb.TS), (layL l g b t).n ≤ t.n + wL l
  | [], _, _, _ => Nat.le_refl _
  | s :: r, g, b, t => by
    have h1 := w_layL r g b (layS s g b t)
    have h2 := w_layS s g b t
    have e : wL (s :: r) = wS s + wL r := by simp [wL]
    rw [e]
    show (layL r g b (layS s g b t)).n ≤ _
    omega
theorem wL_take (l : List Stm) (i : Nat) : wL (l.take i) ≤ wL l := by
  have h : wL l = wL (l.take i) + wL (l.drop i) := by
    unfold wL
    rw [← List.sum_append_nat, ← List.map_append, List.take_append_drop]
  omega
theorem good_stms : ∀ {b : Blk}, goodB b → ∀ s ∈ stms b, goodS s
  | .nil, _, _, h => by cases h
  | .cons x r, g, s, h => by
    rw [goodB] at g
    rcases List.mem_cons.mp h with e | e
    · rw [e]; exact g.1
    · exact good_stms g.2 s e
mutual
def hS : Stm → Nat
  | .mk .. => 0
  | .no .. => 0
  | .fn _ _ b => 1 + hB b
  | .ite _ b1 b2 => 1 + max (hB b1) (hB b2)
  | .whl _ b => 1 + hB b
  | .tms _ _ _ b => 1 + hB b
def hB : Blk → Nat
  | .nil => 0
  | .cons s r => max (hS s) (hB r)
end
theorem hB_mem : ∀ {b : Blk} {s : Stm}, s ∈ stms b → hS s ≤ hB b
  | .nil, _, h => by cases h
  | .cons x r, s, h => by
    rw [hB]
    rcases List.mem_cons.mp h with e | e
    · rw [e]; exact Nat.le_max_left _ _
    · exact Nat.le_trans (hB_mem e) (Nat.le_max_right _ _)
mutual
theorem hS_dep : ∀ s : Stm, 2 * hS s ≤ (dS s).depth
  | .mk .. => Nat.zero_le _
  | .no .. => Nat.zero_le _
  | .fn x ps b => by
    have := hB_dep b
    simp only [hS, dS, PyData.depth, PyData.depthAll]
    omega
  | .ite c b1 b2 => by
    have := hB_dep b1
    have := hB_dep b2
    simp only [hS, dS, PyData.depth, PyData.depthAll]
    omega
  | .whl c b => by
    have := hB_dep b
    simp only [hS, dS, PyData.depth, PyData.depthAll]
    omega
  | .tms one x c b => by
    have := hB_dep b
    simp only [hS, dS, PyData.depth, PyData.depthAll]
    omega
theorem hB_dep : ∀ b : Blk, 2 * hB b ≤ PyData.depthAll (dB b)
  | .nil => Nat.zero_le _
  | .cons s r => by
    have := hS_dep s
    have := hB_dep r
    rw [dB]
    simp only [hB, PyData.depthAll]
    omega
end
/-! ### rows that stay -/
def Rw (K : PySem.W.Frag) (H : Hp) (l : Addr) (ds : List PyData) : Prop := ∃ vs, H l = some (.lst vs) ∧ DpAll K H vs ds ∧ noLs ds = true
theorem Rw.mod {K : PySem.W.Frag} {H H' : Hp} {l : Addr} {ds : List PyData} (h : Rw K H l ds) (e : Ext H H') (k : ∀ o, H l = some o → H' l = some o) : Rw K H' l ds := by
  obtain ⟨vs, h1, h2, h3⟩ := h
  exact ⟨vs, k _ h1, dps_ext e _ _ h2 h3, h3⟩
/-! ### the dict of lists -/
def fD (ls la lb lg lm : Addr) : List (Key × V) := [(.inr "statements", .ref ls), (.inr "at", .ref la), (.inr "bodies", .ref lb), (.inr "grounds", .ref lg), (.inr "makings", .ref lm)]
theorem fk01 : ¬ (kx "statements" = kx "at") := by decide +kernel
theorem fk02 : ¬ (kx "statements" = kx "bodies") := by decide +kernel
theorem fk03 : ¬ (kx "statements" = kx "grounds") := by decide +kernel
theorem fk04 : ¬ (kx "statements" = kx "makings") := by decide +kernel
theorem fk12 : ¬ (kx "at" = kx "bodies") := by decide +kernel
theorem fk13 : ¬ (kx "at" = kx "grounds") := by decide +kernel
theorem fk14 : ¬ (kx "at" = kx "makings") := by decide +kernel
theorem fk23 : ¬ (kx "bodies" = kx "grounds") := by decide +kernel
theorem fk24 : ¬ (kx "bodies" = kx "makings") := by decide +kernel
theorem fk34 : ¬ (kx "grounds" = kx "makings") := by decide +kernel
theorem gf_st {H : Hp} {fd ls la lb lg lm : Addr} (h : H fd = some (.dK (fD ls la lb lg lm))) : DGet H fd (.str "statements") (some (.ref ls)) := by
  have z := DGet.k (k := kx "statements") h
  rw [show valV (fD ls la lb lg lm) (kx "statements") = some (.ref ls) from valV_pos rfl] at z
  exact z
theorem gf_at_ {H : Hp} {fd ls la lb lg lm : Addr} (h : H fd = some (.dK (fD ls la lb lg lm))) : DGet H fd (.str "at") (some (.ref la)) := by
  have z := DGet.k (k := kx "at") h
  rw [show valV (fD ls la lb lg lm) (kx "at") = some (.ref la) from (valV_neg fk01).trans (valV_pos rfl)] at z
  exact z
theorem gf_bd {H : Hp} {fd ls la lb lg lm : Addr} (h : H fd = some (.dK (fD ls la lb lg lm))) : DGet H fd (.str "bodies") (some (.ref lb)) := by
  have z := DGet.k (k := kx "bodies") h
  rw [show valV (fD ls la lb lg lm) (kx "bodies") = some (.ref lb) from (valV_neg fk02).trans ((valV_neg fk12).trans (valV_pos rfl))] at z
  exact z
theorem gf_gr {H : Hp} {fd ls la lb lg lm : Addr} (h : H fd = some (.dK (fD ls la lb lg lm))) : DGet H fd (.str "grounds") (some (.ref lg)) := by
  have z := DGet.k (k := kx "grounds") h
  rw [show valV (fD ls la lb lg lm) (kx "grounds") = some (.ref lg) from (valV_neg fk03).trans ((valV_neg fk13).trans ((valV_neg fk23).trans (valV_pos rfl)))] at z
  exact z
theorem gf_mm {H : Hp} {fd ls la lb lg lm : Addr} (h : H fd = some (.dK (fD ls la lb lg lm))) : DGet H fd (.str "makings") (some (.ref lm)) := by
  have z := DGet.k (k := kx "makings") h
  rw [show valV (fD ls la lb lg lm) (kx "makings") = some (.ref lm) from (valV_neg fk04).trans ((valV_neg fk14).trans ((valV_neg fk24).trans ((valV_neg fk34).trans (valV_pos rfl))))] at z
  exact z
theorem merge_f {ls la lb lg lm : Addr} : mergeK [] (fD ls la lb lg lm) = fD ls la lb lg lm := by
  have a01 := fk01
  have a02 := fk02
  have a03 := fk03
  have a04 := fk04
  have a12 := fk12
  have a13 := fk13
  have a14 := fk14
  have a23 := fk23
  have a24 := fk24
  have a34 := fk34
  simp [mergeK, putK, fD, a01, a02, a03, a04, a12, a13, a14, a23, a24, a34]
structure FoundAt (K : PySem.W.Frag) (H : Hp) (fd ls la lb lg lm : Addr) (t : Fb.TS) : Prop where
  di : H fd = some (.dK (fD ls la lb lg lm))
  st : Rw K H ls (t.pl.map (·.1))
  at_ : Rw K H la (t.pl.map fun e => nD e.2.2)
  bd : Rw K H lb (t.bd)
  gr : Rw K H lg (t.gr)
  mm : Rw K H lm (t.mm)
  nd : [ls, la, lb, lg, lm].Nodup
section
variable {K : PySem.W.Frag} {H H' : Hp} {fd ls la lb lg lm : Addr} {t : Fb.TS}
theorem FoundAt.nes (h : FoundAt K H fd ls la lb lg lm t) : (ls ≠ la ∧ ls ≠ lb ∧ ls ≠ lg ∧ ls ≠ lm) ∧ (la ≠ lb ∧ la ≠ lg ∧ la ≠ lm) ∧ (lb ≠ lg ∧ lb ≠ lm) ∧ lg ≠ lm := by
  have z := h.nd
  simp only [List.nodup_cons, List.mem_cons, List.not_mem_nil, or_false, not_or, List.nodup_nil, and_true, not_false_eq_true] at z
  exact z
theorem FoundAt.same (h : FoundAt K H fd ls la lb lg lm t) (s : Same H H') : FoundAt K H' fd ls la lb lg lm t :=
  ⟨s _ _ h.di, h.st.mod (Same.ext s) (fun o => s _ o), h.at_.mod (Same.ext s) (fun o => s _ o), h.bd.mod (Same.ext s) (fun o => s _ o), h.gr.mod (Same.ext s) (fun o => s _ o), h.mm.mod (Same.ext s) (fun o => s _ o), h.nd⟩
theorem FoundAt.ext5 (h : FoundAt K H fd ls la lb lg lm t) (m : Mod [ls, la, lb, lg, lm] H H') : Ext H H' := by
  obtain ⟨v0, h0, _⟩ := h.st
  obtain ⟨v1, h1, _⟩ := h.at_
  obtain ⟨v2, h2, _⟩ := h.bd
  obtain ⟨v3, h3, _⟩ := h.gr
  obtain ⟨v4, h4, _⟩ := h.mm
  refine m.ext fun b hb => ?_
  simp only [List.mem_cons, List.not_mem_nil, or_false] at hb
  rcases hb with e | e | e | e | e <;> subst e
  · exact no_lst h0
  · exact no_lst h1
  · exact no_lst h2
  · exact no_lst h3
  · exact no_lst h4
theorem FoundAt.up_st (h : FoundAt K H fd ls la lb lg lm t) (m : Mod [ls] H H') {ds : List PyData} (r : Rw K H' ls ds) : H' fd = some (.dK (fD ls la lb lg lm)) ∧ Rw K H' ls ds ∧ Rw K H' la (t.pl.map fun e => nD e.2.2) ∧ Rw K H' lb (t.bd) ∧ Rw K H' lg (t.gr) ∧ Rw K H' lm (t.mm) := by
  obtain ⟨⟨n01, n02, n03, n04⟩, ⟨n12, n13, n14⟩, ⟨n23, n24⟩, n34⟩ := h.nes
  obtain ⟨v, hv, _⟩ := h.st
  have e : Ext H H' := m.ext fun b hb => by rw [List.mem_singleton.mp hb]; exact no_lst hv
  have k : ∀ {x : Addr}, x ≠ ls → ∀ o, H x = some o → H' x = some o := fun hx o q => m _ o q (by simpa using hx)
  have nf : fd ≠ ls := ne_of h.di hv (by intro z; cases z)
  exact ⟨k nf _ h.di, r, h.at_.mod e (k n01.symm), h.bd.mod e (k n02.symm), h.gr.mod e (k n03.symm), h.mm.mod e (k n04.symm)⟩
theorem FoundAt.up_at_ (h : FoundAt K H fd ls la lb lg lm t) (m : Mod [la] H H') {ds : List PyData} (r : Rw K H' la ds) : H' fd = some (.dK (fD ls la lb lg lm)) ∧ Rw K H' ls (t.pl.map (·.1)) ∧ Rw K H' la ds ∧ Rw K H' lb (t.bd) ∧ Rw K H' lg (t.gr) ∧ Rw K H' lm (t.mm) := by
  obtain ⟨⟨n01, n02, n03, n04⟩, ⟨n12, n13, n14⟩, ⟨n23, n24⟩, n34⟩ := h.nes
  obtain ⟨v, hv, _⟩ := h.at_
  have e : Ext H H' := m.ext fun b hb => by rw [List.mem_singleton.mp hb]; exact no_lst hv
  have k : ∀ {x : Addr}, x ≠ la → ∀ o, H x = some o → H' x = some o := fun hx o q => m _ o q (by simpa using hx)
  have nf : fd ≠ la := ne_of h.di hv (by intro z; cases z)
  exact ⟨k nf _ h.di, h.st.mod e (k n01), r, h.bd.mod e (k n12.symm), h.gr.mod e (k n13.symm), h.mm.mod e (k n14.symm)⟩
theorem FoundAt.up_bd (h : FoundAt K H fd ls la lb lg lm t) (m : Mod [lb] H H') {ds : List PyData} (r : Rw K H' lb ds) : H' fd = some (.dK (fD ls la lb lg lm)) ∧ Rw K H' ls (t.pl.map (·.1)) ∧ Rw K H' la (t.pl.map fun e => nD e.2.2) ∧ Rw K H' lb ds ∧ Rw K H' lg (t.gr) ∧ Rw K H' lm (t.mm) := by
  obtain ⟨⟨n01, n02, n03, n04⟩, ⟨n12, n13, n14⟩, ⟨n23, n24⟩, n34⟩ := h.nes
  obtain ⟨v, hv, _⟩ := h.bd
  have e : Ext H H' := m.ext fun b hb => by rw [List.mem_singleton.mp hb]; exact no_lst hv
  have k : ∀ {x : Addr}, x ≠ lb → ∀ o, H x = some o → H' x = some o := fun hx o q => m _ o q (by simpa using hx)
  have nf : fd ≠ lb := ne_of h.di hv (by intro z; cases z)
  exact ⟨k nf _ h.di, h.st.mod e (k n02), h.at_.mod e (k n12), r, h.gr.mod e (k n23.symm), h.mm.mod e (k n24.symm)⟩
theorem FoundAt.up_gr (h : FoundAt K H fd ls la lb lg lm t) (m : Mod [lg] H H') {ds : List PyData} (r : Rw K H' lg ds) : H' fd = some (.dK (fD ls la lb lg lm)) ∧ Rw K H' ls (t.pl.map (·.1)) ∧ Rw K H' la (t.pl.map fun e => nD e.2.2) ∧ Rw K H' lb (t.bd) ∧ Rw K H' lg ds ∧ Rw K H' lm (t.mm) := by
  obtain ⟨⟨n01, n02, n03, n04⟩, ⟨n12, n13, n14⟩, ⟨n23, n24⟩, n34⟩ := h.nes
  obtain ⟨v, hv, _⟩ := h.gr
  have e : Ext H H' := m.ext fun b hb => by rw [List.mem_singleton.mp hb]; exact no_lst hv
  have k : ∀ {x : Addr}, x ≠ lg → ∀ o, H x = some o → H' x = some o := fun hx o q => m _ o q (by simpa using hx)
  have nf : fd ≠ lg := ne_of h.di hv (by intro z; cases z)
  exact ⟨k nf _ h.di, h.st.mod e (k n03), h.at_.mod e (k n13), h.bd.mod e (k n23), r, h.mm.mod e (k n34.symm)⟩
theorem FoundAt.up_mm (h : FoundAt K H fd ls la lb lg lm t) (m : Mod [lm] H H') {ds : List PyData} (r : Rw K H' lm ds) : H' fd = some (.dK (fD ls la lb lg lm)) ∧ Rw K H' ls (t.pl.map (·.1)) ∧ Rw K H' la (t.pl.map fun e => nD e.2.2) ∧ Rw K H' lb (t.bd) ∧ Rw K H' lg (t.gr) ∧ Rw K H' lm ds := by
  obtain ⟨⟨n01, n02, n03, n04⟩, ⟨n12, n13, n14⟩, ⟨n23, n24⟩, n34⟩ := h.nes
  obtain ⟨v, hv, _⟩ := h.mm
  have e : Ext H H' := m.ext fun b hb => by rw [List.mem_singleton.mp hb]; exact no_lst hv
  have k : ∀ {x : Addr}, x ≠ lm → ∀ o, H x = some o → H' x = some o := fun hx o q => m _ o q (by simpa using hx)
  have nf : fd ≠ lm := ne_of h.di hv (by intro z; cases z)
  exact ⟨k nf _ h.di, h.st.mod e (k n04), h.at_.mod e (k n14), h.bd.mod e (k n24), h.gr.mod e (k n34), r⟩
end
/-- a new tuple, and a list that gets it -/
theorem rw_push {K : PySem.W.Frag} {H : Hp} {l p : Addr} {vs xs : List V} {ds : List PyData} {d : PyData} (h1 : H l = some (.lst vs)) (h2 : DpAll K H vs ds) (h3 : noLs ds = true) (np : H p = none) (nd : noL d = true)
    (hd : Dp K (L2.upd (L2.upd H p (.tup xs)) l (.lst (vs ++ [.ref p]))) (.ref p) d) : Rw K (L2.upd (L2.upd H p (.tup xs)) l (.lst (vs ++ [.ref p]))) l (ds ++ [d]) := by
  have ne : l ≠ p := ne_of_none h1 np
  have e1 : Ext H (L2.upd H p (.tup xs)) := Same.ext (same_new np)
  have hl : (L2.upd H p (.tup xs)) l = some (.lst vs) := same_new np _ _ h1
  have e2 : Ext (L2.upd H p (.tup xs)) (L2.upd (L2.upd H p (.tup xs)) l (.lst (vs ++ [.ref p]))) := fun b x e f => by
    rw [upd_ne (show b ≠ l from fun z => no_lst hl x (by rw [← z]; exact e) f)]
    exact e
  refine ⟨_, upd_same, dps_snoc (dps_ext (e1.trans e2) _ _ h2 h3) hd, ?_⟩
  have z : ∀ (a : List PyData), noLs a = true → noLs (a ++ [d]) = true := fun a => by
    induction a with
    | nil => intro _; rw [List.nil_append, noLs, nd]; rfl
    | cons x r ih =>
      intro q
      rw [noLs, Bool.and_eq_true] at q
      rw [List.cons_append, noLs, q.1, ih q.2]
      rfl
  exact z ds h3
end Fb
set_option Elab.async false
set_option linter.all false
set_option maxRecDepth 100000
set_option maxHeartbeats 2000000
namespace Fb
open PySem PySem.Spec PyProof.Rows L2
theorem noattr {K : PySem.W.Frag} {C : Addr} {f : Str} (h : PySem.W.findIn K (.ref C) f = some none) : NoAttr K C f := h
theorem kit_self {K : PySem.W.Frag} {C : Addr} : PySem.W.kitOne K (.ref C) (.ref C) = some true := by
  unfold PySem.W.kitOne
  rw [if_pos (by simp)]
theorem kit_no {K : PySem.W.Frag} {a b : Addr} {r : Bool} (ne : (Value.ref a == Value.ref b) = false) (h1 : PySem.W.isClsIn K b = true) (h2 : PySem.W.typeIn K (.ref b) = some (.type "type")) (h3 : PySem.W.subIn K (.ref a) (.ref b) = some r) : PySem.W.kitOne K (.ref a) (.ref b) = some r := by
  unfold PySem.W.kitOne
  rw [if_neg (by rw [ne]; exact Bool.false_ne_true)]
  unfold PySem.W.kitCls
  have h1' : (PySem.W.clsIn K b).isSome = true := h1
  simp only [h1', h2, Bool.true_and]
  rw [if_pos (by simp), h3]
def RowsOk (t : Fb.TS) : Prop := (∀ d ∈ t.gr, Sh d 900 2) ∧ (∀ d ∈ t.mm, Sh d 900 2) ∧ ∀ d ∈ t.bd, Sh d 900 2
theorem sh_nD {n m k : Nat} (h : n ≤ 1000000) (hk : 13 ≤ k) : Sh (nD n) k m := sh_int (by omega) hk
theorem sh_rowG {s : Str} {k a : PyData} (hs : s ∈ (["let", "sum", "call", "set", "tell", "give", "fn", "if", "while", "times", "one", "own", "body", "other", "head"] : List Str)) (hk : Sh k 13 1) (ha : Sh a 13 1) : Sh (rowG s k a) 900 2 :=
  (sh_tup (sha_cons (sh_w hs) (sha_cons hk (sha_cons ha (sha_nil 0 1))))).mono (by decide) (by decide)
theorem sh_rowM {x : Str} {k g : Nat} (hx : nm x) (hk : k ≤ 1000000) (hg : g ≤ 1000000) : Sh (rowM x k g) 900 2 :=
  (sh_tup (m := 1) (sha_cons (nm_sh (n := 202) hx (Nat.le_refl _)) (sha_cons (sh_nD (k := 13) hk (Nat.le_refl _)) (sha_cons (sh_nD (k := 13) hg (Nat.le_refl _)) (sha_nil 0 1))))).mono (by decide) (by decide)
theorem sh_rowB {k : PyData} {ps : List Str} (hk : Sh k 13 1) (h : ps.length ≤ 4) (g : ∀ p ∈ ps, nm p) : Sh (rowB k ps) 900 2 :=
  (sh_tup (m := 1) (sha_cons hk (sha_cons (sh_ps h g) (sha_nil 0 1)))).mono (by decide) (by decide)
theorem all_snoc {ds : List PyData} {d : PyData} (h : ∀ e ∈ ds, Sh e 900 2) (hd : Sh d 900 2) : ∀ e ∈ ds ++ [d], Sh e 900 2 := fun e z => by
  rcases List.mem_append.mp z with q | q
  · exact h e q
  · rw [List.mem_singleton.mp q]; exact hd
theorem all_app {a b : List PyData} (h : ∀ e ∈ a, Sh e 900 2) (k : ∀ e ∈ b, Sh e 900 2) : ∀ e ∈ a ++ b, Sh e 900 2 := fun e z => by
  rcases List.mem_append.mp z with q | q
  · exact h e q
  · exact k e q
mutual
theorem rowsS : ∀ (s : Stm) (g b : Nat) (t : Fb.TS), goodS s → g ≤ 100000 → t.n + wS s ≤ 100000 → RowsOk t → RowsOk (layS s g b t)
  | .mk w x r h, g, b, t, gs, hg, hn, hr => by
    rw [goodS] at gs
    rw [layS]
    simp only [TS.n] at hn
    exact ⟨hr.1, all_snoc hr.2.1 (sh_rowM gs.1 (by omega) (by omega)), hr.2.2⟩
  | .no w r h, g, b, t, gs, hg, hn, hr => by
    rw [layS]
    exact hr
  | .fn x ps blk, g, b, t, gs, hg, hn, hr => by
    rw [goodS] at gs
    rw [layS]
    simp only [TS.n, wS] at hn
    refine rowsB blk _ _ _ gs.2.2.2 (by omega) (by simp only [TS.n, List.length_append, List.length_cons, List.length_nil, List.length_map]; omega) ⟨all_snoc hr.1 (sh_rowG (by decide +kernel) (sh_nD (by omega) (Nat.le_refl _)) (sh_nD (by omega) (Nat.le_refl _))), ?_, all_snoc hr.2.2 (sh_rowB (sh_nD (by omega) (Nat.le_refl _)) gs.2.1 gs.2.2.1)⟩
    refine all_app hr.2.1 fun e z => ?_
    rcases List.mem_cons.mp z with q | q
    · rw [q]; exact sh_rowM gs.1 (by omega) (by omega)
    · obtain ⟨y, hy, rfl⟩ := List.mem_map.mp q
      exact sh_rowM (gs.2.2.1 y hy) (by omega) (by omega)
  | .ite c b1 b2, g, b, t, gs, hg, hn, hr => by
    rw [goodS] at gs
    rw [layS]
    simp only [TS.n, wS] at hn
    have w1 := w_layB b1 t.gr.length b { t with pl := t.pl ++ [(dS (.ite c b1 b2), g, b)], gr := t.gr ++ [rowG "one" (nD t.pl.length) (nD g)] }
    have r1 := rowsB b1 t.gr.length b { t with pl := t.pl ++ [(dS (.ite c b1 b2), g, b)], gr := t.gr ++ [rowG "one" (nD t.pl.length) (nD g)] } gs.2.1 (by omega) (by simp only [TS.n, List.length_append, List.length_cons, List.length_nil]; omega) ⟨all_snoc hr.1 (sh_rowG (by decide +kernel) (sh_nD (by omega) (Nat.le_refl _)) (sh_nD (by omega) (Nat.le_refl _))), hr.2.1, hr.2.2⟩
    simp only [TS.n, List.length_append, List.length_cons, List.length_nil] at w1
    refine rowsB b2 _ _ _ gs.2.2 ?_ ?_ ⟨all_snoc r1.1 (sh_rowG (by decide +kernel) (sh_nD (by omega) (Nat.le_refl _)) (sh_nD (by omega) (Nat.le_refl _))), r1.2.1, r1.2.2⟩
    · omega
    · simp only [TS.n, List.length_append, List.length_cons, List.length_nil]
      omega
  | .whl c blk, g, b, t, gs, hg, hn, hr => by
    rw [goodS] at gs
    rw [layS]
    simp only [TS.n, wS] at hn
    exact rowsB blk _ _ _ gs.2 (by omega) (by simp only [TS.n, List.length_append, List.length_cons, List.length_nil]; omega) ⟨all_snoc hr.1 (sh_rowG (by decide +kernel) (sh_nD (by omega) (Nat.le_refl _)) (sh_nD (by omega) (Nat.le_refl _))), hr.2.1, hr.2.2⟩
  | .tms true x c blk, g, b, t, gs, hg, hn, hr => by
    rw [goodS] at gs
    rw [layS]
    simp only [TS.n, wS] at hn
    exact rowsB blk _ _ _ gs.2.2 (by omega) (by simp only [TS.n, List.length_append, List.length_cons, List.length_nil]; omega) ⟨all_snoc (all_snoc hr.1 (sh_rowG (by decide +kernel) (sh_nD (by omega) (Nat.le_refl _)) (sh_nD (by omega) (Nat.le_refl _)))) (sh_rowG (by decide +kernel) (sh_nD (by omega) (Nat.le_refl _)) (sh_nD (by omega) (Nat.le_refl _))), all_snoc hr.2.1 (sh_rowM gs.1 (by omega) (by omega)), hr.2.2⟩
  | .tms false x c blk, g, b, t, gs, hg, hn, hr => by
    rw [goodS] at gs
    rw [layS]
    simp only [TS.n, wS] at hn
    exact rowsB blk _ _ _ gs.2.2 (by omega) (by simp only [TS.n, List.length_append, List.length_cons, List.length_nil]; omega) ⟨all_snoc hr.1 (sh_rowG (by decide +kernel) (sh_nD (by omega) (Nat.le_refl _)) (sh_nD (by omega) (Nat.le_refl _))), all_snoc hr.2.1 (sh_rowM gs.1 (by omega) (by omega)), hr.2.2⟩
theorem rowsB : ∀ (blk : Blk) (g b : Nat) (t : Fb.TS), goodB blk → g ≤ 100000 → t.n + wB blk ≤ 100000 → RowsOk t → RowsOk (layB blk g b t)
  | .nil, g, b, t, _, _, _, hr => hr
  | .cons s r, g, b, t, gb, hg, hn, hr => by
    rw [goodB] at gb
    rw [layB]
    simp only [wB] at hn
    have w1 := w_layS s g b t
    exact rowsB r g b _ gb.2 hg (by omega) (rowsS s g b t gb.1 hg (by omega) hr)
end
/-- a list of good rows is shown -/
theorem sh_rows {ds : List PyData} (h : ∀ d ∈ ds, Sh d 900 2) (n : ds.length ≤ 1000) : Sh (.list ds) 1000000 3 := by
  refine (sh_lst (sha_all h)).mono ?_ (Nat.le_refl _)
  have : ds.length * (900 + 2) ≤ 1000 * (900 + 2) := Nat.mul_le_mul_right _ n
  omega
end Fb
set_option Elab.async false
set_option linter.all false
set_option maxRecDepth 100000
set_option maxHeartbeats 2000000
namespace Fb
open PySem PySem.Spec PyProof.Rows L2
/-! ### the statements in reading order: how many, how they are shown -/
mutual
theorem lenS : ∀ (s : Stm) (g b : Nat) (t : Fb.TS), (layS s g b t).pl.length = t.pl.length + nS s
  | .mk w x r h, g, b, t => by simp [layS, nS]
  | .no w r h, g, b, t => by simp [layS, nS]
  | .fn x ps blk, g, b, t => by
    rw [layS, lenB blk]
    simp only [nS, List.length_append, List.length_cons, List.length_nil]
    omega
  | .ite c b1 b2, g, b, t => by
    rw [layS, lenB b2, lenB b1]
    simp only [nS, List.length_append, List.length_cons, List.length_nil]
    omega
  | .whl c blk, g, b, t => by
    rw [layS, lenB blk]
    simp only [nS, List.length_append, List.length_cons, List.length_nil]
    omega
  | .tms true x c blk, g, b, t => by
    rw [layS, lenB blk]
    simp only [nS, List.length_append, List.length_cons, List.length_nil]
    omega
  | .tms false x c blk, g, b, t => by
    rw [layS, lenB blk]
    simp only [nS, List.length_append, List.length_cons, List.length_nil]
    omega
theorem lenB : ∀ (blk : Blk) (g b : Nat) (t : Fb.TS), (layB blk g b t).pl.length = t.pl.length + nB blk
  | .nil, g, b, t => rfl
  | .cons s r, g, b, t => by
    rw [layB, lenB r, lenS s]
    simp only [nB]
    omega
end
def PlOk (t : Fb.TS) : Prop := ∀ e ∈ t.pl, Sh e.1 96118 40 ∧ e.2.2 ≤ 100000
theorem pl_snoc {l : List (PyData × Nat × Nat)} {d : PyData} {g b : Nat} (h : ∀ e ∈ l, Sh e.1 96118 40 ∧ e.2.2 ≤ 100000) (hd : Sh d 96118 40) (hb : b ≤ 100000) : ∀ e ∈ l ++ [(d, g, b)], Sh e.1 96118 40 ∧ e.2.2 ≤ 100000 := fun e z => by
  rcases List.mem_append.mp z with q | q
  · exact h e q
  · rw [List.mem_singleton.mp q]; exact ⟨hd, hb⟩
theorem sh_stm {s : Stm} (g : goodS s) (n : nS s ≤ 60) (d : (dS s).depth ≤ 40) : Sh (dS s) 96118 40 := by
  obtain ⟨m, h⟩ := shS s g
  exact h.deep.mono (by omega) d
mutual
theorem plS : ∀ (s : Stm) (g b : Nat) (t : Fb.TS), goodS s → nS s ≤ 60 → (dS s).depth ≤ 40 → b ≤ 100000 → t.n + wS s ≤ 100000 → PlOk t → PlOk (layS s g b t)
  | .mk w x r h, g, b, t, gs, hn, hd, hb, hw, hp => by
    rw [layS]
    exact pl_snoc hp (sh_stm gs hn hd) hb
  | .no w r h, g, b, t, gs, hn, hd, hb, hw, hp => by
    rw [layS]
    exact pl_snoc hp (sh_stm gs hn hd) hb
  | .fn x ps blk, g, b, t, gs, hn, hd, hb, hw, hp => by
    have s0 := sh_stm gs hn hd
    rw [goodS] at gs
    rw [layS]
    simp only [nS] at hn
    simp only [dS, PyData.depth, PyData.depthAll] at hd
    simp only [TS.n, wS] at hw
    exact plB blk _ _ _ gs.2.2.2 (by omega) (by omega) (by omega) (by simp only [TS.n, List.length_append, List.length_cons, List.length_nil, List.length_map]; omega) (pl_snoc hp s0 hb)
  | .ite c b1 b2, g, b, t, gs, hn, hd, hb, hw, hp => by
    have s0 := sh_stm gs hn hd
    rw [goodS] at gs
    rw [layS]
    simp only [nS] at hn
    simp only [dS, PyData.depth, PyData.depthAll] at hd
    simp only [TS.n, wS] at hw
    have w1 := w_layB b1 t.gr.length b { t with pl := t.pl ++ [(dS (.ite c b1 b2), g, b)], gr := t.gr ++ [rowG "one" (nD t.pl.length) (nD g)] }
    simp only [TS.n, List.length_append, List.length_cons, List.length_nil] at w1
    refine plB b2 _ _ _ gs.2.2 (by omega) (by omega) hb ?_ (plB b1 _ _ _ gs.2.1 (by omega) (by omega) hb (by simp only [TS.n, List.length_append, List.length_cons, List.length_nil]; omega) (pl_snoc hp s0 hb))
    simp only [TS.n, List.length_append, List.length_cons, List.length_nil]
    omega
  | .whl c blk, g, b, t, gs, hn, hd, hb, hw, hp => by
    have s0 := sh_stm gs hn hd
    rw [goodS] at gs
    rw [layS]
    simp only [nS] at hn
    simp only [dS, PyData.depth, PyData.depthAll] at hd
    simp only [TS.n, wS] at hw
    exact plB blk _ _ _ gs.2 (by omega) (by omega) hb (by simp only [TS.n, List.length_append, List.length_cons, List.length_nil]; omega) (pl_snoc hp s0 hb)
  | .tms true x c blk, g, b, t, gs, hn, hd, hb, hw, hp => by
    have s0 := sh_stm gs hn hd
    rw [goodS] at gs
    rw [layS]
    simp only [nS] at hn
    simp only [dS, PyData.depth, PyData.depthAll] at hd
    simp only [TS.n, wS] at hw
    exact plB blk _ _ _ gs.2.2 (by omega) (by omega) hb (by simp only [TS.n, List.length_append, List.length_cons, List.length_nil]; omega) (pl_snoc hp s0 hb)
  | .tms false x c blk, g, b, t, gs, hn, hd, hb, hw, hp => by
    have s0 := sh_stm gs hn hd
    rw [goodS] at gs
    rw [layS]
    simp only [nS] at hn
    simp only [dS, PyData.depth, PyData.depthAll] at hd
    simp only [TS.n, wS] at hw
    exact plB blk _ _ _ gs.2.2 (by omega) (by omega) hb (by simp only [TS.n, List.length_append, List.length_cons, List.length_nil]; omega) (pl_snoc hp s0 hb)
theorem plB : ∀ (blk : Blk) (g b : Nat) (t : Fb.TS), goodB blk → nB blk ≤ 60 → PyData.depthAll (dB blk) ≤ 40 → b ≤ 100000 → t.n + wB blk ≤ 100000 → PlOk t → PlOk (layB blk g b t)
  | .nil, g, b, t, _, _, _, _, _, hp => hp
  | .cons s r, g, b, t, gb, hn, hd, hb, hw, hp => by
    rw [goodB] at gb
    rw [layB]
    simp only [wB] at hw
    simp only [nB] at hn
    simp only [dB, PyData.depthAll] at hd
    have w1 := w_layS s g b t
    exact plB r g b _ gb.2 (by omega) (by omega) hb (by omega) (plS s g b t gb.1 (by omega) (by omega) hb (by omega) hp)
end
theorem sh_nums {l : List (PyData × Nat × Nat)} (h : ∀ e ∈ l, Sh e.1 96118 40 ∧ e.2.2 ≤ 100000) (n : l.length ≤ 60) : Sh (.list (l.map fun e => nD e.2.2)) 1000 1 := by
  refine (sh_lst (sha_all (a := 13) (m := 0) fun d z => ?_)).mono ?_ (Nat.le_refl _)
  · obtain ⟨e, he, rfl⟩ := List.mem_map.mp z
    exact sh_nD (by have := (h e he).2; omega) (Nat.le_refl _)
  · rw [List.length_map]
    have : l.length * (13 + 2) ≤ 60 * (13 + 2) := Nat.mul_le_mul_right _ n
    omega
theorem sh_stms {l : List (PyData × Nat × Nat)} (h : ∀ e ∈ l, Sh e.1 96118 40 ∧ e.2.2 ≤ 100000) (n : l.length ≤ 60) : Sh (.list (l.map (·.1))) 6000000 41 := by
  have h1 : ∀ d ∈ l.map (·.1), Sh d 96118 40 := fun d z => by
    obtain ⟨e, he, rfl⟩ := List.mem_map.mp z
    exact (h e he).1
  have h2 := sha_all h1
  have h3 := sh_lst h2
  have n2 : (l.map (·.1)).length ≤ 60 := by rw [List.length_map]; exact n
  generalize (l.map (·.1)).length = k at h3 n2
  have h4 : k * (96118 + 2) + 3 ≤ 6000000 := by omega
  exact h3.mono h4 (by omega)
end Fb
set_option Elab.async false
set_option linter.all false
set_option maxRecDepth 100000
set_option maxHeartbeats 2000000
namespace Fb
open PySem
/-! ### a statement put in at a place -/
mutual
def putS (m : Stm) : Stm → Int → Stm × Int
  | .mk w x r h, n => (.mk w x r h, n)
  | .no w r h, n => (.no w r h, n)
  | .fn x ps b, n => (.fn x ps (putB m b n).1, (putB m b n).2)
  | .ite a b1 b2, n => (.ite a (putB m b1 n).1 (putB m b2 (putB m b1 n).2).1, (putB m b2 (putB m b1 n).2).2)
  | .whl a b, n => (.whl a (putB m b n).1, (putB m b n).2)
  | .tms one x a b, n => (.tms one x a (putB m b n).1, (putB m b n).2)
def putB (m : Stm) : Blk → Int → Blk × Int
  | .nil, n => (if n = 0 then .cons m .nil else .nil, n - 1)
  | .cons s r, n => (if n = 0 then .cons m (.cons (putS m s (n - 1)).1 (putB m r (putS m s (n - 1)).2).1) else .cons (putS m s (n - 1)).1 (putB m r (putS m s (n - 1)).2).1, (putB m r (putS m s (n - 1)).2).2)
end
mutual
def cpS : Stm → Nat
  | .mk .. => 0
  | .no .. => 0
  | .fn _ _ b => cpB b
  | .ite _ b1 b2 => cpB b1 + cpB b2
  | .whl _ b => cpB b
  | .tms _ _ _ b => cpB b
def cpB : Blk → Nat
  | .nil => 1
  | .cons s r => 1 + cpS s + cpB r
end
variable {m : Stm}
mutual
theorem putS_2 : ∀ (s : Stm) (n : Int), (putS m s n).2 = n - cpS s
  | .mk .., n => by simp only [putS, cpS]; omega
  | .no .., n => by simp only [putS, cpS]; omega
  | .fn x ps b, n => by simp only [putS, cpS, putB_2 b]
  | .ite a b1 b2, n => by simp only [putS, cpS, putB_2 b1, putB_2 b2]; omega
  | .whl a b, n => by simp only [putS, cpS, putB_2 b]
  | .tms one x a b, n => by simp only [putS, cpS, putB_2 b]
theorem putB_2 : ∀ (b : Blk) (n : Int), (putB m b n).2 = n - cpB b
  | .nil, n => by simp only [putB, cpB]; omega
  | .cons s r, n => by simp only [putB, cpB, putB_2 r, putS_2 s]; omega
end
mutual
theorem putS_neg : ∀ (s : Stm) (n : Int), n < 0 → (putS m s n).1 = s
  | .mk .., n, h => rfl
  | .no .., n, h => rfl
  | .fn x ps b, n, h => by simp only [putS, putB_neg b n h]
  | .ite a b1 b2, n, h => by simp only [putS, putB_neg b1 n h, putB_2 b1, putB_neg b2 (n - cpB b1) (by omega)]
  | .whl a b, n, h => by simp only [putS, putB_neg b n h]
  | .tms one x a b, n, h => by simp only [putS, putB_neg b n h]
theorem putB_neg : ∀ (b : Blk) (n : Int), n < 0 → (putB m b n).1 = b
  | .nil, n, h => by simp only [putB]; rw [if_neg (by omega)]
  | .cons s r, n, h => by
    simp only [putB]
    rw [if_neg (by omega), putS_neg s (n - 1) (by omega), putS_2, putB_neg r _ (by omega)]
end
mutual
theorem putS_far : ∀ (s : Stm) (n : Int), (cpS s : Int) ≤ n → (putS m s n).1 = s
  | .mk .., n, h => rfl
  | .no .., n, h => rfl
  | .fn x ps b, n, h => by simp only [cpS] at h; simp only [putS, putB_far b n h]
  | .ite a b1 b2, n, h => by simp only [cpS] at h; simp only [putS, putB_far b1 n (by omega), putB_2 b1, putB_far b2 (n - cpB b1) (by omega)]
  | .whl a b, n, h => by simp only [cpS] at h; simp only [putS, putB_far b n h]
  | .tms one x a b, n, h => by simp only [cpS] at h; simp only [putS, putB_far b n h]
theorem putB_far : ∀ (b : Blk) (n : Int), (cpB b : Int) ≤ n → (putB m b n).1 = b
  | .nil, n, h => by simp only [cpB] at h; simp only [putB]; rw [if_neg (by omega)]
  | .cons s r, n, h => by
    simp only [cpB] at h
    simp only [putB]
    rw [if_neg (by omega), putS_far s (n - 1) (by omega), putS_2, putB_far r _ (by omega)]
end
mutual
theorem putS_good (gm : goodS m) : ∀ (s : Stm) (n : Int), goodS s → goodS (putS m s n).1
  | .mk .., n, h => h
  | .no .., n, h => h
  | .fn x ps b, n, h => by
    rw [goodS] at h
    simp only [putS]
    rw [goodS]
    exact ⟨h.1, h.2.1, h.2.2.1, putB_good gm b n h.2.2.2⟩
  | .ite a b1 b2, n, h => by
    rw [goodS] at h
    simp only [putS]
    rw [goodS]
    exact ⟨h.1, putB_good gm b1 n h.2.1, putB_good gm b2 _ h.2.2⟩
  | .whl a b, n, h => by
    rw [goodS] at h
    simp only [putS]
    rw [goodS]
    exact ⟨h.1, putB_good gm b n h.2⟩
  | .tms one x a b, n, h => by
    rw [goodS] at h
    simp only [putS]
    rw [goodS]
    exact ⟨h.1, h.2.1, putB_good gm b n h.2.2⟩
theorem putB_good (gm : goodS m) : ∀ (b : Blk) (n : Int), goodB b → goodB (putB m b n).1
  | .nil, n, h => by
    simp only [putB]
    split
    · rw [goodB]; exact ⟨gm, h⟩
    · exact h
  | .cons s r, n, h => by
    rw [goodB] at h
    have h2 : goodB (.cons (putS m s (n - 1)).1 (putB m r (putS m s (n - 1)).2).1) := by
      rw [goodB]
      exact ⟨putS_good gm s _ h.1, putB_good gm r _ h.2⟩
    simp only [putB]
    split
    · rw [goodB]; exact ⟨gm, h2⟩
    · exact h2
end
mutual
theorem putS_n (h1 : nS m = 1) : ∀ (s : Stm) (n : Int), 0 ≤ n → n < cpS s → nS (putS m s n).1 = nS s + 1
  | .mk .., n, a, b => by simp only [cpS] at b; omega
  | .no .., n, a, b => by simp only [cpS] at b; omega
  | .fn x ps b, n, h0, h => by simp only [cpS] at h; simp only [putS, nS, putB_n h1 b n h0 h]; omega
  | .ite a b1 b2, n, h0, h => by
    simp only [cpS] at h
    simp only [putS, nS, putB_2 b1]
    by_cases c : n < cpB b1
    · rw [putB_n h1 b1 n h0 c, putB_neg b2 _ (by omega)]; omega
    · rw [putB_far b1 n (by omega), putB_n h1 b2 (n - cpB b1) (by omega) (by omega)]; omega
  | .whl a b, n, h0, h => by simp only [cpS] at h; simp only [putS, nS, putB_n h1 b n h0 h]; omega
  | .tms one x a b, n, h0, h => by simp only [cpS] at h; simp only [putS, nS, putB_n h1 b n h0 h]; omega
theorem putB_n (h1 : nS m = 1) : ∀ (b : Blk) (n : Int), 0 ≤ n → n < cpB b → nB (putB m b n).1 = nB b + 1
  | .nil, n, h0, h => by
    simp only [cpB] at h
    simp only [putB]
    rw [if_pos (by omega)]
    simp only [nB, h1]
  | .cons s r, n, h0, h => by
    simp only [cpB] at h
    simp only [putB]
    by_cases c : n = 0
    · rw [if_pos c, putS_neg s _ (by omega), putS_2, putB_neg r _ (by omega), nB, h1]; omega
    · rw [if_neg c, putS_2, nB, nB]
      by_cases c2 : n - 1 < cpS s
      · rw [putS_n h1 s (n - 1) (by omega) c2, putB_neg r _ (by omega)]; omega
      · rw [putS_far s (n - 1) (by omega), putB_n h1 r _ (by omega) (by omega)]; omega
end
mutual
theorem putS_d (h1 : (dS m).depth ≤ 1) : ∀ (s : Stm) (n : Int), (dS (putS m s n).1).depth ≤ (dS s).depth + 1
  | .mk .., n => Nat.le_succ _
  | .no .., n => Nat.le_succ _
  | .fn x ps b, n => by
    have := putB_d h1 b n
    simp only [putS, dS, PyData.depth, PyData.depthAll]
    omega
  | .ite a b1 b2, n => by
    have := putB_d h1 b1 n
    have := putB_d h1 b2 (putB m b1 n).2
    simp only [putS, dS, PyData.depth, PyData.depthAll]
    omega
  | .whl a b, n => by
    have := putB_d h1 b n
    simp only [putS, dS, PyData.depth, PyData.depthAll]
    omega
  | .tms one x a b, n => by
    have := putB_d h1 b n
    simp only [putS, dS, PyData.depth, PyData.depthAll]
    omega
theorem putB_d (h1 : (dS m).depth ≤ 1) : ∀ (b : Blk) (n : Int), PyData.depthAll (dB (putB m b n).1) ≤ PyData.depthAll (dB b) + 1
  | .nil, n => by
    simp only [putB]
    split
    · simp only [dB, PyData.depthAll]; omega
    · exact Nat.le_succ _
  | .cons s r, n => by
    have a := putS_d h1 s (n - 1)
    have b := putB_d h1 r (putS m s (n - 1)).2
    simp only [putB]
    split
    · simp only [dB, PyData.depthAll]; omega
    · simp only [dB, PyData.depthAll]; omega
end
/-! ### what is laid of it -/
/-- a number, one more where it is at j or behind -/
def shD (j : Nat) : PyData → PyData
  | .int i => .int (i + if (j : Int) ≤ i then 1 else 0)
  | d => d
def latB (j : Nat) : PyData → PyData
  | .tuple (k :: r) => .tuple (shD j k :: r)
  | d => d
def latG (j : Nat) : PyData → PyData
  | .tuple (a :: k :: r) => .tuple (a :: shD j k :: r)
  | d => d
def kept (j : Nat) : PyData → Bool
  | .tuple (_ :: .int k :: _) => !decide (k = (j : Int))
  | _ => true
theorem sh_up {j n : Nat} (h : j ≤ n) : shD j (nD n) = nD (n + 1) := by
  show PyData.int _ = _
  rw [if_pos (by omega)]
  rfl
theorem sh_low {j n : Nat} (h : n < j) : shD j (nD n) = nD n := by
  show PyData.int _ = _
  rw [if_neg (by omega), Int.add_zero]
inductive Sim : PyData → PyData → Prop
  | same (d : PyData) : Sim d d
  | blk (w : Str) (r r' : List PyData) (h : w = "fn" ∨ w = "if" ∨ w = "while" ∨ w = "times") : Sim (.tuple (.str w :: r)) (.tuple (.str w :: r'))
abbrev PE3 := PyData × Nat × Nat
inductive A2 : List PE3 → List PE3 → Prop
  | nil : A2 [] []
  | cons {d d' : PyData} {q : Nat × Nat} {l l' : List PE3} : Sim d d' → A2 l l' → A2 ((d, q) :: l) ((d', q) :: l')
theorem A2.snoc {d d' : PyData} {q : Nat × Nat} (h : Sim d d') : ∀ {l l' : List PE3}, A2 l l' → A2 (l ++ [(d, q)]) (l' ++ [(d', q)])
  | _, _, .nil => .cons h .nil
  | _, _, .cons a t => .cons a (t.snoc h)
theorem A2.len : ∀ {l l' : List PE3}, A2 l l' → l.length = l'.length
  | _, _, .nil => rfl
  | _, _, .cons _ t => by rw [List.length_cons, List.length_cons, t.len]
theorem A2.app {a a' : List PE3} : ∀ {l l' : List PE3}, A2 l l' → A2 a a' → A2 (l ++ a) (l' ++ a')
  | _, _, .nil, h => h
  | _, _, .cons s t, h => .cons s (t.app h)
/-- ahead of the place -/
structure R0 (t t' : TS) : Prop where
  pl : A2 t.pl t'.pl
  bd : t'.bd = t.bd
  gr : t'.gr = t.gr
  mm : t'.mm = t.mm
  fb : ∀ d ∈ t.bd, ∀ j, t.pl.length ≤ j → latB j d = d
  fg : ∀ d ∈ t.gr, ∀ j, t.pl.length ≤ j → latG j d = d
  fm : ∀ d ∈ t.mm, ∀ j, t.pl.length ≤ j → latG j d = d ∧ kept j d = true
/-- behind it: c how many makings came in -/
structure R1 (m : Stm) (c j : Nat) (t t' : TS) : Prop where
  pl : ∃ A B A' B' q, t.pl = A ++ B ∧ t'.pl = A' ++ (dS m, q) :: B' ∧ A.length = j ∧ A2 A A' ∧ A2 B B'
  bd : t'.bd = t.bd.map (latB j)
  gr : t'.gr = t.gr.map (latG j)
  mm : t'.mm.filter (kept j) = t.mm.map (latG j)
  mn : t'.mm.length = t.mm.length + c
theorem R0.len {t t' : TS} (h : R0 t t') : t'.pl.length = t.pl.length := h.pl.len.symm
theorem R1.le {c j : Nat} {t t' : TS} (h : R1 m c j t t') : j ≤ t.pl.length := by
  obtain ⟨A, B, A', B', q, e, _, l, _, _⟩ := h.pl
  rw [e, List.length_append]
  omega
theorem R1.len {c j : Nat} {t t' : TS} (h : R1 m c j t t') : t'.pl.length = t.pl.length + 1 := by
  obtain ⟨A, B, A', B', q, e, e', l, a, b⟩ := h.pl
  have := a.len
  have := b.len
  rw [e, e', List.length_append, List.length_append, List.length_cons]
  omega
theorem R1.bl {c j : Nat} {t t' : TS} (h : R1 m c j t t') : t'.bd.length = t.bd.length := by rw [h.bd, List.length_map]
theorem R1.gl {c j : Nat} {t t' : TS} (h : R1 m c j t t') : t'.gr.length = t.gr.length := by rw [h.gr, List.length_map]
theorem R1.push {c j : Nat} {t t' : TS} (h : R1 m c j t t') {d d' : PyData} (q : Nat × Nat) (s : Sim d d') : R1 m c j { t with pl := t.pl ++ [(d, q)] } { t' with pl := t'.pl ++ [(d', q)] } := by
  obtain ⟨A, B, A', B', q', e, e', l, a, b⟩ := h.pl
  exact ⟨⟨A, B ++ [(d, q)], A', B' ++ [(d', q)], q', by rw [← List.append_assoc, ← e], by show t'.pl ++ _ = _; rw [e', List.append_assoc]; rfl, l, a, b.snoc s⟩, h.bd, h.gr, h.mm, h.mn⟩
theorem R1.ground {c j : Nat} {t t' : TS} (h : R1 m c j t t') {k : Str} {n : Nat} (hn : j ≤ n) (a : PyData) : R1 m c j { t with gr := t.gr ++ [rowG k (nD n) a] } { t' with gr := t'.gr ++ [rowG k (nD (n + 1)) a] } :=
  ⟨h.pl, h.bd, by show t'.gr ++ [rowG k (nD (n + 1)) a] = List.map (latG j) (t.gr ++ [rowG k (nD n) a]); rw [List.map_append, h.gr, ← sh_up hn]; rfl, h.mm, h.mn⟩
theorem R1.body {c j : Nat} {t t' : TS} (h : R1 m c j t t') {n : Nat} (hn : j ≤ n) (ps : List Str) : R1 m c j { t with bd := t.bd ++ [rowB (nD n) ps] } { t' with bd := t'.bd ++ [rowB (nD (n + 1)) ps] } :=
  ⟨h.pl, by show t'.bd ++ [rowB (nD (n + 1)) ps] = List.map (latB j) (t.bd ++ [rowB (nD n) ps]); rw [List.map_append, h.bd, ← sh_up hn]; rfl, h.gr, h.mm, h.mn⟩
theorem kept_up {j n g : Nat} {x : Str} (h : j ≤ n) : kept j (rowM x (n + 1) g) = true := by
  show (!decide (((n + 1 : Nat) : Int) = (j : Int))) = true
  rw [decide_eq_false (by omega)]
  rfl
theorem R1.make {c j : Nat} {t t' : TS} (h : R1 m c j t t') {n : Nat} (hn : j ≤ n) (x : Str) (g : Nat) : R1 m c j { t with mm := t.mm ++ [rowM x n g] } { t' with mm := t'.mm ++ [rowM x (n + 1) g] } := by
  refine ⟨h.pl, h.bd, h.gr, ?_, ?_⟩
  · show List.filter (kept j) (t'.mm ++ [rowM x (n + 1) g]) = List.map (latG j) (t.mm ++ [rowM x n g])
    rw [List.filter_append, List.map_append, h.mm, List.filter_cons, kept_up hn]
    simp only [if_true, List.filter_nil, List.map_cons, List.map_nil]
    rw [show latG j (rowM x n g) = rowM x (n + 1) g from by show PyData.tuple [_, shD j (nD n), _] = _; rw [sh_up hn]; rfl]
  · show (t'.mm ++ [rowM x (n + 1) g]).length = (t.mm ++ [rowM x n g]).length + c
    have := h.mn
    rw [List.length_append, List.length_append]
    simp only [List.length_cons, List.length_nil]
    omega
theorem R1.makes {c j n g : Nat} (hn : j ≤ n) : ∀ (ps : List Str) {t t' : TS}, R1 m c j t t' → R1 m c j { t with mm := t.mm ++ ps.map fun p => rowM p n g } { t' with mm := t'.mm ++ ps.map fun p => rowM p (n + 1) g }
  | [], t, t', h => by simp only [List.map_nil, List.append_nil]; exact h
  | p :: r, t, t', h => by
    have z := R1.makes (g := g) hn r (h.make hn p g)
    simp only [List.append_assoc] at z
    exact z
mutual
theorem r1S {c j : Nat} : ∀ (s : Stm) (g b : Nat) (t t' : TS), R1 m c j t t' → R1 m c j (layS s g b t) (layS s g b t')
  | .mk w x r h, g, b, t, t', z => by
    rw [layS, layS, z.len]
    exact (z.push (g, b) (.same _)).make z.le x g
  | .no w r h, g, b, t, t', z => by
    rw [layS, layS]
    exact z.push (g, b) (.same _)
  | .fn x ps blk, g, b, t, t', z => by
    rw [layS, layS, z.len, z.bl, z.gl]
    refine r1B blk _ _ _ _ ?_
    have y := R1.makes (g := t.gr.length) z.le ps (((z.push (g, b) (.same (dS (.fn x ps blk)))).make z.le x g))
    simp only [List.append_assoc] at y
    exact (y.body z.le ps).ground z.le (nD g)
  | .ite a b1 b2, g, b, t, t', z => by
    have y := r1B b1 t.gr.length b _ _ ((z.push (g, b) (.same (dS (.ite a b1 b2)))).ground (k := "one") z.le (nD g))
    rw [layS, layS, z.len, z.gl]
    have yl := y.gl
    have w := r1B b2 (layB b1 t.gr.length b { t with pl := t.pl ++ [(dS (.ite a b1 b2), g, b)], gr := t.gr ++ [rowG "one" (nD t.pl.length) (nD g)] }).gr.length b _ _ (y.ground (k := "other") z.le (nD g))
    rw [yl]
    exact w
  | .whl a blk, g, b, t, t', z => by
    rw [layS, layS, z.len, z.gl]
    exact r1B blk _ _ _ _ ((z.push (g, b) (.same (dS (.whl a blk)))).ground z.le (nD g))
  | .tms true x a blk, g, b, t, t', z => by
    rw [layS, layS, z.len, z.gl]
    exact r1B blk _ _ _ _ ((((z.push (g, b) (.same (dS (.tms true x a blk)))).make z.le x t.gr.length).ground z.le (nD g)).ground z.le (nD t.gr.length))
  | .tms false x a blk, g, b, t, t', z => by
    rw [layS, layS, z.len, z.gl]
    exact r1B blk _ _ _ _ (((z.push (g, b) (.same (dS (.tms false x a blk)))).make z.le x t.gr.length).ground z.le (nD g))
theorem r1B {c j : Nat} : ∀ (blk : Blk) (g b : Nat) (t t' : TS), R1 m c j t t' → R1 m c j (layB blk g b t) (layB blk g b t')
  | .nil, _, _, _, _, z => z
  | .cons s r, g, b, t, t', z => by
    rw [layB, layB]
    exact r1B r g b _ _ (r1S s g b t t' z)
end
/-! ahead of the place: nothing is otherwise but the statements around -/
theorem fixB {n j : Nat} {k : PyData} {ps : List Str} (h : shD j k = k) : latB j (rowB k ps) = rowB k ps := by
  show PyData.tuple (shD j k :: _) = _
  rw [h]
  rfl
theorem fixG {j : Nat} {s : Str} {k a : PyData} (h : shD j k = k) : latG j (rowG s k a) = rowG s k a := by
  show PyData.tuple (_ :: shD j k :: _) = _
  rw [h]
  rfl
theorem fixM {j n g : Nat} {x : Str} (h : n < j) : latG j (rowM x n g) = rowM x n g ∧ kept j (rowM x n g) = true := by
  refine ⟨?_, ?_⟩
  · show PyData.tuple (_ :: shD j (nD n) :: _) = _
    rw [sh_low h]
    rfl
  · show (!decide ((n : Int) = (j : Int))) = true
    rw [decide_eq_false (by omega)]
    rfl
theorem R0.push {t t' : TS} (h : R0 t t') {d d' : PyData} (q : Nat × Nat) (s : Sim d d') : R0 { t with pl := t.pl ++ [(d, q)] } { t' with pl := t'.pl ++ [(d', q)] } := by
  have up : ∀ j, (t.pl ++ [(d, q)]).length ≤ j → t.pl.length ≤ j := fun j z => by
    rw [List.length_append] at z
    simp only [List.length_cons, List.length_nil] at z
    omega
  exact ⟨h.pl.snoc s, h.bd, h.gr, h.mm, fun e z j y => h.fb e z j (up j y), fun e z j y => h.fg e z j (up j y), fun e z j y => h.fm e z j (up j y)⟩
theorem R0.ground {t t' : TS} (h : R0 t t') {k : Str} {n : Nat} (hn : n < t.pl.length) (a : PyData) : R0 { t with gr := t.gr ++ [rowG k (nD n) a] } { t' with gr := t'.gr ++ [rowG k (nD n) a] } := by
  refine ⟨h.pl, h.bd, by show t'.gr ++ _ = t.gr ++ _; rw [h.gr], h.mm, h.fb, fun e z j y => ?_, h.fm⟩
  have y' : t.pl.length ≤ j := y
  rcases List.mem_append.mp z with q | q
  · exact h.fg e q j y
  · rw [List.mem_singleton.mp q]
    exact fixG (sh_low (by omega))
theorem R0.body {t t' : TS} (h : R0 t t') {n : Nat} (hn : n < t.pl.length) (ps : List Str) : R0 { t with bd := t.bd ++ [rowB (nD n) ps] } { t' with bd := t'.bd ++ [rowB (nD n) ps] } := by
  refine ⟨h.pl, by show t'.bd ++ _ = t.bd ++ _; rw [h.bd], h.gr, h.mm, fun e z j y => ?_, h.fg, h.fm⟩
  have y' : t.pl.length ≤ j := y
  rcases List.mem_append.mp z with q | q
  · exact h.fb e q j y
  · rw [List.mem_singleton.mp q]
    exact fixB (n := n) (sh_low (by omega))
theorem R0.makes {t t' : TS} (h : R0 t t') {n : Nat} (hn : n < t.pl.length) (l : List (Str × Nat)) : R0 { t with mm := t.mm ++ l.map fun p => rowM p.1 n p.2 } { t' with mm := t'.mm ++ l.map fun p => rowM p.1 n p.2 } := by
  refine ⟨h.pl, h.bd, h.gr, by show t'.mm ++ _ = t.mm ++ _; rw [h.mm], h.fb, h.fg, fun e z j y => ?_⟩
  have y' : t.pl.length ≤ j := y
  rcases List.mem_append.mp z with q | q
  · exact h.fm e q j y
  · obtain ⟨p, _, rfl⟩ := List.mem_map.mp q
    exact fixM (by omega)
theorem lt_push {t : TS} {e : PE3} : t.pl.length < (t.pl ++ [e]).length := by
  rw [List.length_append]
  simp
mutual
theorem r0S : ∀ (s : Stm) (g b : Nat) (t t' : TS), R0 t t' → R0 (layS s g b t) (layS s g b t')
  | .mk w x r h, g, b, t, t', z => by
    rw [layS, layS, z.len]
    exact (z.push (g, b) (.same _)).makes lt_push [(x, g)]
  | .no w r h, g, b, t, t', z => by
    rw [layS, layS]
    exact z.push (g, b) (.same _)
  | .fn x ps blk, g, b, t, t', z => by
    rw [layS, layS, z.len, z.bd, z.gr]
    refine r0B blk _ _ _ _ ?_
    have y := ((((z.push (g, b) (.same (dS (.fn x ps blk)))).makes lt_push ((x, g) :: ps.map fun p => (p, t.gr.length))).body lt_push ps).ground (k := "body") lt_push (nD g))
    simp only [List.map_cons, List.map_map, z.bd, z.gr] at y
    exact y
  | .ite a b1 b2, g, b, t, t', z => by
    have y := r0B b1 t.gr.length b _ _ ((z.push (g, b) (.same (dS (.ite a b1 b2)))).ground (k := "one") lt_push (nD g))
    rw [layS, layS, z.len, show t'.gr.length = t.gr.length by rw [z.gr]]
    have yl : (layB b1 t.gr.length b { t' with pl := t'.pl ++ [(dS (.ite a b1 b2), g, b)], gr := t'.gr ++ [rowG "one" (nD t.pl.length) (nD g)] }).gr.length = (layB b1 t.gr.length b { t with pl := t.pl ++ [(dS (.ite a b1 b2), g, b)], gr := t.gr ++ [rowG "one" (nD t.pl.length) (nD g)] }).gr.length := congrArg List.length y.gr
    have lb := lenB b1 t.gr.length b { t with pl := t.pl ++ [(dS (.ite a b1 b2), g, b)], gr := t.gr ++ [rowG "one" (nD t.pl.length) (nD g)] }
    have lp : t.pl.length < (t.pl ++ [(dS (.ite a b1 b2), g, b)]).length := lt_push
    rw [yl]
    exact r0B b2 _ b _ _ (y.ground (k := "other") (n := t.pl.length) (by rw [lb]; exact Nat.lt_of_lt_of_le lp (Nat.le_add_right _ _)) (nD g))
  | .whl a blk, g, b, t, t', z => by
    rw [layS, layS, z.len, show t'.gr.length = t.gr.length by rw [z.gr]]
    exact r0B blk _ _ _ _ ((z.push (g, b) (.same (dS (.whl a blk)))).ground lt_push (nD g))
  | .tms true x a blk, g, b, t, t', z => by
    rw [layS, layS, z.len, show t'.gr.length = t.gr.length by rw [z.gr]]
    exact r0B blk _ _ _ _ ((((z.push (g, b) (.same (dS (.tms true x a blk)))).makes lt_push [(x, t.gr.length)]).ground lt_push (nD g)).ground lt_push (nD t.gr.length))
  | .tms false x a blk, g, b, t, t', z => by
    rw [layS, layS, z.len, show t'.gr.length = t.gr.length by rw [z.gr]]
    exact r0B blk _ _ _ _ (((z.push (g, b) (.same (dS (.tms false x a blk)))).makes lt_push [(x, t.gr.length)]).ground lt_push (nD g))
theorem r0B : ∀ (blk : Blk) (g b : Nat) (t t' : TS), R0 t t' → R0 (layB blk g b t) (layB blk g b t')
  | .nil, _, _, _, _, z => z
  | .cons s r, g, b, t, t', z => by
    rw [layB, layB]
    exact r0B r g b _ _ (r0S s g b t t' z)
end
/-! ### the place -/
def cM : Stm → Nat
  | .mk .. => 1
  | _ => 0
def flatS : Stm → Prop
  | .mk .. => True
  | .no .. => True
  | _ => False
theorem map_fix {α : Type} {f : α → α} : ∀ {l : List α}, (∀ d ∈ l, f d = d) → l.map f = l
  | [], _ => rfl
  | d :: r, h => by rw [List.map_cons, h d List.mem_cons_self, map_fix fun e z => h e (List.mem_cons_of_mem _ z)]
theorem filter_all {α : Type} {f : α → Bool} : ∀ {l : List α}, (∀ d ∈ l, f d = true) → l.filter f = l
  | [], _ => rfl
  | d :: r, h => by rw [List.filter_cons, if_pos (h d List.mem_cons_self), filter_all fun e z => h e (List.mem_cons_of_mem _ z)]
theorem R0.base {t t' : TS} (fm : flatS m) (h : R0 t t') (g b : Nat) : R1 m (cM m) t.pl.length t (layS m g b t') := by
  have e1 : t.bd.map (latB t.pl.length) = t.bd := map_fix fun d z => h.fb d z _ (Nat.le_refl _)
  have e2 : t.gr.map (latG t.pl.length) = t.gr := map_fix fun d z => h.fg d z _ (Nat.le_refl _)
  have e3 : t.mm.map (latG t.pl.length) = t.mm := map_fix fun d z => (h.fm d z _ (Nat.le_refl _)).1
  have e4 : t.mm.filter (kept t.pl.length) = t.mm := filter_all fun d z => (h.fm d z _ (Nat.le_refl _)).2
  cases m with
  | mk w x r hw =>
    rw [layS]
    refine ⟨⟨t.pl, [], t'.pl, [], (g, b), (List.append_nil _).symm, rfl, rfl, h.pl, .nil⟩, by rw [e1]; exact h.bd, by rw [e2]; exact h.gr, ?_, ?_⟩
    · show List.filter (kept t.pl.length) (t'.mm ++ [rowM x t'.pl.length g]) = List.map (latG t.pl.length) t.mm
      rw [List.filter_append, h.mm, e4, e3, h.len, List.filter_cons, if_neg, List.filter_nil, List.append_nil]
      show ¬ (!decide ((t.pl.length : Int) = (t.pl.length : Int))) = true
      rw [decide_eq_true rfl]
      exact Bool.false_ne_true
    · show (t'.mm ++ [rowM x t'.pl.length g]).length = t.mm.length + 1
      rw [List.length_append, h.mm]
      rfl
  | no w r hw =>
    rw [layS]
    exact ⟨⟨t.pl, [], t'.pl, [], (g, b), (List.append_nil _).symm, rfl, rfl, h.pl, .nil⟩, by rw [e1]; exact h.bd, by rw [e2]; exact h.gr, by rw [e3]; show List.filter _ t'.mm = _; rw [h.mm, e4], by show t'.mm.length = _; rw [h.mm]; rfl⟩
  | fn x ps b => exact fm.elim
  | ite a b1 b2 => exact fm.elim
  | whl a b => exact fm.elim
  | tms one x a b => exact fm.elim
theorem R1.low {c j : Nat} {t t' : TS} (h : R1 m c j t t') {k : Str} {n : Nat} (hn : n < j) (a : PyData) : R1 m c j { t with gr := t.gr ++ [rowG k (nD n) a] } { t' with gr := t'.gr ++ [rowG k (nD n) a] } :=
  ⟨h.pl, h.bd, by show t'.gr ++ [rowG k (nD n) a] = List.map (latG j) (t.gr ++ [rowG k (nD n) a]); rw [List.map_append, h.gr, List.map_cons, fixG (sh_low hn)]; rfl, h.mm, h.mn⟩
theorem sim_fn {x : Str} {ps : List Str} {b b' : Blk} : Sim (dS (.fn x ps b)) (dS (.fn x ps b')) := by
  rw [dS, dS]
  exact .blk _ _ _ (.inl rfl)
theorem sim_ite {a : PyData} {b b' c c' : Blk} : Sim (dS (.ite a b c)) (dS (.ite a b' c')) := by
  rw [dS, dS]
  exact .blk _ _ _ (.inr (.inl rfl))
theorem sim_whl {a : PyData} {b b' : Blk} : Sim (dS (.whl a b)) (dS (.whl a b')) := by
  rw [dS, dS]
  exact .blk _ _ _ (.inr (.inr (.inl rfl)))
theorem sim_tms {one : Bool} {x : Str} {a : PyData} {b b' : Blk} : Sim (dS (.tms one x a b)) (dS (.tms one x a b')) := by
  rw [dS, dS]
  exact .blk _ _ _ (.inr (.inr (.inr rfl)))
theorem len_push {t : TS} {e : PE3} : (t.pl ++ [e]).length = t.pl.length + 1 := by
  rw [List.length_append]
  rfl
mutual
theorem putS_rel (fm : flatS m) : ∀ (s : Stm) (n : Int) (g b : Nat) (t t' : TS), 0 ≤ n → n < cpS s → R0 t t' → ∃ j, t.pl.length < j ∧ R1 m (cM m) j (layS s g b t) (layS (putS m s n).1 g b t')
  | .mk .., n, _, _, _, _, h0, h1, _ => by simp only [cpS] at h1; omega
  | .no .., n, _, _, _, _, h0, h1, _ => by simp only [cpS] at h1; omega
  | .fn x ps blk, n, g, b, t, t', h0, h1, z => by
    simp only [cpS] at h1
    have y := ((((z.push (g, b) (sim_fn (x := x) (ps := ps) (b := blk) (b' := (putB m blk n).1))).makes lt_push ((x, g) :: ps.map fun p => (p, t.gr.length))).body lt_push ps).ground (k := "body") lt_push (nD g))
    simp only [List.map_cons, List.map_map, z.bd, z.gr] at y
    obtain ⟨j, hj, w⟩ := putB_rel fm blk n t.gr.length t.bd.length _ _ h0 h1 y
    refine ⟨j, Nat.lt_of_lt_of_le lt_push hj, ?_⟩
    simp only [putS]
    rw [layS, layS, z.len, z.bd, z.gr]
    exact w
  | .ite a b1 b2, n, g, b, t, t', h0, h1, z => by
    simp only [cpS] at h1
    simp only [putS, putB_2]
    rw [layS, layS, z.len, show t'.gr.length = t.gr.length by rw [z.gr]]
    by_cases c : n < cpB b1
    · rw [putB_neg b2 (n - cpB b1) (by omega)]
      obtain ⟨j, hj, w⟩ := putB_rel fm b1 n t.gr.length b _ _ h0 c ((z.push (g, b) (sim_ite (a := a) (b := b1) (b' := (putB m b1 n).1) (c := b2) (c' := b2))).ground (k := "one") lt_push (nD g))
      have hj' : t.pl.length < j := Nat.lt_of_lt_of_le lt_push hj
      have wl := w.gl
      refine ⟨j, hj', ?_⟩
      rw [wl]
      exact r1B b2 _ b _ _ (w.low (k := "other") hj' (nD g))
    · rw [putB_far b1 n (by omega)]
      have y := r0B b1 t.gr.length b _ _ ((z.push (g, b) (sim_ite (a := a) (b := b1) (b' := b1) (c := b2) (c' := (putB m b2 (n - cpB b1)).1))).ground (k := "one") lt_push (nD g))
      have yl := congrArg List.length y.gr
      have lb := lenB b1 t.gr.length b { t with pl := t.pl ++ [(dS (.ite a b1 b2), g, b)], gr := t.gr ++ [rowG "one" (nD t.pl.length) (nD g)] }
      have lp : t.pl.length < (t.pl ++ [(dS (.ite a b1 b2), g, b)]).length := lt_push
      have ll : t.pl.length < (layB b1 t.gr.length b { t with pl := t.pl ++ [(dS (.ite a b1 b2), g, b)], gr := t.gr ++ [rowG "one" (nD t.pl.length) (nD g)] }).pl.length := by
        rw [lb]
        exact Nat.lt_of_lt_of_le lp (Nat.le_add_right _ _)
      obtain ⟨j, hj, w⟩ := putB_rel fm b2 (n - cpB b1) (layB b1 t.gr.length b { t with pl := t.pl ++ [(dS (.ite a b1 b2), g, b)], gr := t.gr ++ [rowG "one" (nD t.pl.length) (nD g)] }).gr.length b _ _ (by omega) (by omega) (y.ground (k := "other") (n := t.pl.length) ll (nD g))
      refine ⟨j, Nat.lt_of_lt_of_le ll hj, ?_⟩
      rw [yl]
      exact w
  | .whl a blk, n, g, b, t, t', h0, h1, z => by
    simp only [cpS] at h1
    obtain ⟨j, hj, w⟩ := putB_rel fm blk n t.gr.length b _ _ h0 h1 ((z.push (g, b) (sim_whl (a := a) (b := blk) (b' := (putB m blk n).1))).ground (k := "while") lt_push (nD g))
    refine ⟨j, Nat.lt_of_lt_of_le lt_push hj, ?_⟩
    simp only [putS]
    rw [layS, layS, z.len, show t'.gr.length = t.gr.length by rw [z.gr]]
    exact w
  | .tms true x a blk, n, g, b, t, t', h0, h1, z => by
    simp only [cpS] at h1
    obtain ⟨j, hj, w⟩ := putB_rel fm blk n (t.gr.length + 1) b _ _ h0 h1 ((((z.push (g, b) (sim_tms (one := true) (x := x) (a := a) (b := blk) (b' := (putB m blk n).1))).makes lt_push [(x, t.gr.length)]).ground (k := "head") lt_push (nD g)).ground (k := "times") lt_push (nD t.gr.length))
    refine ⟨j, Nat.lt_of_lt_of_le lt_push hj, ?_⟩
    simp only [putS]
    rw [layS, layS, z.len, show t'.gr.length = t.gr.length by rw [z.gr]]
    exact w
  | .tms false x a blk, n, g, b, t, t', h0, h1, z => by
    simp only [cpS] at h1
    obtain ⟨j, hj, w⟩ := putB_rel fm blk n t.gr.length b _ _ h0 h1 (((z.push (g, b) (sim_tms (one := false) (x := x) (a := a) (b := blk) (b' := (putB m blk n).1))).makes lt_push [(x, t.gr.length)]).ground (k := "times") lt_push (nD g))
    refine ⟨j, Nat.lt_of_lt_of_le lt_push hj, ?_⟩
    simp only [putS]
    rw [layS, layS, z.len, show t'.gr.length = t.gr.length by rw [z.gr]]
    exact w
theorem putB_rel (fm : flatS m) : ∀ (blk : Blk) (n : Int) (g b : Nat) (t t' : TS), 0 ≤ n → n < cpB blk → R0 t t' → ∃ j, t.pl.length ≤ j ∧ R1 m (cM m) j (layB blk g b t) (layB (putB m blk n).1 g b t')
  | .nil, n, g, b, t, t', h0, h1, z => by
    simp only [cpB] at h1
    simp only [putB]
    rw [if_pos (by omega), layB, layB, layB]
    exact ⟨_, Nat.le_refl _, z.base fm g b⟩
  | .cons s r, n, g, b, t, t', h0, h1, z => by
    simp only [cpB] at h1
    simp only [putB]
    by_cases c : n = 0
    · rw [if_pos c, putS_neg s _ (by omega), putS_2, putB_neg r _ (by omega), layB, layB, layB]
      exact ⟨_, Nat.le_refl _, r1B r g b _ _ (r1S s g b _ _ (z.base fm g b))⟩
    · rw [if_neg c, putS_2, layB, layB]
      by_cases c2 : n - 1 < cpS s
      · rw [putB_neg r _ (by omega)]
        obtain ⟨j, hj, w⟩ := putS_rel fm s (n - 1) g b t t' (by omega) c2 z
        exact ⟨j, Nat.le_of_lt hj, r1B r g b _ _ w⟩
      · rw [putS_far s (n - 1) (by omega)]
        obtain ⟨j, hj, w⟩ := putB_rel fm r (n - 1 - cpS s) g b _ _ (by omega) (by omega) (r0S s g b _ _ z)
        have ls := lenS s g b t
        exact ⟨j, by omega, w⟩
end
end Fb
set_option Elab.async false
set_option linter.all false
set_option maxRecDepth 100000
set_option maxHeartbeats 2000000
namespace Fb
open PySem PySem.Spec PyProof.Rows L2
/-! rules that name the written part -/
section
variable {X : Cx} (K0 : PySem.W.Frag) (hK : X.K = K0)
include hK
theorem piLK {tg l : Expr} {tl : TE} (hl : PE X l tl) : PI X tg l (iList K0 tl) := by
  subst hK
  exact pi_list hl
theorem piTK {tg l : Expr} {tl : TE} (hl : PE X l tl) : PI X tg l (iTup K0 tl) := by
  subst hK
  exact pi_tup hl
theorem sumK (hc : X.calm = true) : CallR X (.builtin "sum") (rSum K0) := by
  subst hK
  exact cr_sum hc
/-- t + u, whatever they are -/
def rCatU (K : PySem.W.Frag) : R2 := fun x y H Q => ∃ a b xs ys, x = .ref a ∧ y = .ref b ∧ SqT K H a xs ∧ SqT K H b ys ∧ xs.length + ys.length ≤ sizeLine ∧ ∀ p H', SqT K H' p (xs ++ ys) → Same H H' → Q (.ref p) H'
theorem catU : OpR X (binaryOp .Add) (rCatU K0) := by
  subst hK
  intro pins s σ H x y v u Q I rx ry h
  obtain ⟨a, b, xs, ys, rfl, rfl, ha, hb, hz, q⟩ := h
  refine op_catA pins s σ H _ _ v u Q I rx ry ⟨a, b, xs, ys, rfl, rfl, ha, hb, hz, fun e => ?_, fun _ e => ?_, fun _ _ p np => q p _ (SqT.of upd_same) (same_new np)⟩
  · subst e
    exact q b H hb fun _ _ e => e
  · subst e
    exact q a H (by rw [List.append_nil]; exact ha) fun _ _ e => e
/-- t[lo:hi], whatever it is -/
def rSlU (K : PySem.W.Frag) : V → Option Int → Option Int → Hp → VK → Prop := fun x lo hi H Q => ∃ a xs, x = .ref a ∧ SqT K H a xs ∧ ∀ p H', SqT K H' p (cutV xs lo hi) → Same H H' → Q (.ref p) H'
theorem slU : SlR X (rSlU K0) := by
  subst hK
  intro pins s σ H x v vl vu lo hi sl Q I rx hs pl pu h
  obtain ⟨a, xs, rfl, hx, q⟩ := h
  refine sl_tupA pins s σ H _ v vl vu lo hi sl Q I rx hs pl pu ⟨a, xs, rfl, hx, fun e => q a H ?_ fun _ _ e => e, fun _ p np => q p _ (SqT.of upd_same) (same_new np)⟩
  unfold cutV
  rw [e.1, e.2, List.drop_zero, Nat.sub_zero, List.take_length]
  exact hx
theorem listK : CallR X (.type "list") (fun xs H Q => ∃ p ys, xs = [.ref p] ∧ (SqL K0 H p ys ∨ SqT K0 H p ys) ∧ ∀ l, H l = none → Q (.ref l) (L2.upd H l (.lst ys))) := by
  subst hK
  exact call_list_of
end
/-! cuts -/
theorem cut_to {xs : List V} {j : Nat} (h : j ≤ xs.length) : cutV xs none (some (j : Int)) = xs.take j := by
  unfold cutV
  rw [HT.sIx_none, HT.sIx_nat, List.drop_zero, Nat.sub_zero, Nat.min_eq_left h]
theorem cut_from {xs : List V} {j : Nat} (h : j ≤ xs.length) : cutV xs (some (j : Int)) none = xs.drop j := by
  unfold cutV
  rw [HT.sIx_none, HT.sIx_nat, Nat.min_eq_left h]
  exact List.take_of_length_le (by rw [List.length_drop]; omega)
theorem dps_take {K : PySem.W.Frag} {H : Hp} : ∀ {vs : List V} {ds : List PyData} (j : Nat), DpAll K H vs ds → DpAll K H (vs.take j) (ds.take j)
  | _, _, 0, _ => by rw [List.take_zero, List.take_zero]; exact .nil
  | _, _, _ + 1, .nil => .nil
  | _, _, j + 1, .cons a t => .cons a (dps_take j t)
theorem dps_drop {K : PySem.W.Frag} {H : Hp} : ∀ {vs : List V} {ds : List PyData} (j : Nat), DpAll K H vs ds → DpAll K H (vs.drop j) (ds.drop j)
  | _, _, 0, h => h
  | _, _, _ + 1, .nil => .nil
  | _, _, j + 1, .cons a t => dps_drop j t
/-! what is like itself -/
mutual
theorem eqv_refl : ∀ d : PyData, d.canLay0 = true → PyData.eqv d d = true
  | .none, _ => rfl
  | .bool b, _ => by show (b == b) = true; exact beq_self_eq_true b
  | .int i, _ => by show (i == i) = true; exact beq_self_eq_true i
  | .str x, _ => by show (x == x) = true; exact beq_self_eq_true x
  | .list xs, h => by
    show PyData.eqvAll xs xs = true
    exact eqvs_refl xs h
  | .tuple xs, h => by
    show PyData.eqvAll xs xs = true
    exact eqvs_refl xs h
  | .dict _, h => by cases h
theorem eqvs_refl : ∀ ds : List PyData, PyData.canLayAll0 ds = true → PyData.eqvAll ds ds = true
  | [], _ => rfl
  | d :: r, h => by
    rw [PyData.canLayAll0, Bool.and_eq_true] at h
    rw [PyData.eqvAll, eqv_refl d h.1, eqvs_refl r h.2]
    rfl
end
/-! ### the way of the loop: statement by statement, part by part -/
def bks : Stm → List Blk
  | .fn _ _ b => [b]
  | .ite _ b1 b2 => [b1, b2]
  | .whl _ b => [b]
  | .tms _ _ _ b => [b]
  | _ => []
def tB (b : Blk) : PyData := .tuple (dB b)
/-- what stands ahead of its blocks -/
def hdS : Stm → List PyData
  | .mk w x r _ => .str w :: .str x :: r
  | .no w r _ => .str w :: r
  | .fn x ps _ => [.str "fn", .str x, .tuple (ps.map .str)]
  | .ite a _ _ => [.str "if", a]
  | .whl a _ => [.str "while", a]
  | .tms one x a _ => [.str "times", .str (modeS one), .str x, a]
theorem dS_parts (s : Stm) : dS s = .tuple (hdS s ++ (bks s).map tB) := by
  cases s <;> simp [dS, hdS, bks, tB]
def parts (m : Stm) : List Blk → Int → List Blk × Int
  | [], n => ([], n)
  | b :: r, n => ((putB m b n).1 :: (parts m r (putB m b n).2).1, (parts m r (putB m b n).2).2)
theorem parts_snoc {m : Stm} : ∀ (l : List Blk) (b : Blk) (n : Int), parts m (l ++ [b]) n = ((parts m l n).1 ++ [(putB m b (parts m l n).2).1], (putB m b (parts m l n).2).2)
  | [], b, n => rfl
  | c :: r, b, n => by
    show ((putB m c n).1 :: (parts m (r ++ [b]) (putB m c n).2).1, (parts m (r ++ [b]) (putB m c n).2).2) = _
    rw [parts_snoc r]
    rfl
theorem put_parts {m : Stm} (s : Stm) (n : Int) : hdS (putS m s n).1 = hdS s ∧ bks (putS m s n).1 = (parts m (bks s) n).1 ∧ (putS m s n).2 = (parts m (bks s) n).2 := by
  cases s <;> simp [putS, hdS, bks, parts]
theorem parts_len {m : Stm} : ∀ (l : List Blk) (n : Int), (parts m l n).1.length = l.length
  | [], _ => rfl
  | b :: r, n => by
    show ((putB m b n).1 :: _).length = _
    rw [List.length_cons, parts_len r, List.length_cons]
def way (m : Stm) : List Stm → Int → List Stm × Int
  | [], n => ([], n)
  | s :: r, n => ((if n = 0 then [m] else []) ++ (putS m s (n - 1)).1 :: (way m r (putS m s (n - 1)).2).1, (way m r (putS m s (n - 1)).2).2)
theorem way_snoc {m : Stm} : ∀ (l : List Stm) (s : Stm) (n : Int), way m (l ++ [s]) n = ((way m l n).1 ++ (if (way m l n).2 = 0 then [m] else []) ++ [(putS m s ((way m l n).2 - 1)).1], (putS m s ((way m l n).2 - 1)).2)
  | [], s, n => by
    show ((if n = 0 then [m] else []) ++ (putS m s (n - 1)).1 :: [], (putS m s (n - 1)).2) = _
    rfl
  | c :: r, s, n => by
    show ((if n = 0 then [m] else []) ++ (putS m c (n - 1)).1 :: (way m (r ++ [s]) (putS m c (n - 1)).2).1, (way m (r ++ [s]) (putS m c (n - 1)).2).2) = _
    rw [way_snoc r]
    show _ = (((if n = 0 then [m] else []) ++ (putS m c (n - 1)).1 :: (way m r (putS m c (n - 1)).2).1) ++ _ ++ _, _)
    simp only [List.append_assoc, List.cons_append]
    rfl
theorem way_put {m : Stm} : ∀ (b : Blk) (n : Int), stms (putB m b n).1 = (way m (stms b) n).1 ++ (if (way m (stms b) n).2 = 0 then [m] else []) ∧ (putB m b n).2 = (way m (stms b) n).2 - 1
  | .nil, n => by
    simp only [putB, stms, way, List.nil_append]
    refine ⟨?_, trivial⟩
    by_cases h : n = 0
    · rw [if_pos h, if_pos h]; rfl
    · rw [if_neg h, if_neg h]; rfl
  | .cons s r, n => by
    obtain ⟨h1, h2⟩ := way_put (m := m) r (putS m s (n - 1)).2
    simp only [putB, stms, way]
    refine ⟨?_, h2⟩
    by_cases h : n = 0
    · rw [if_pos h, if_pos h]
      show m :: (putS m s (n - 1)).1 :: stms _ = _
      rw [h1]
      rfl
    · rw [if_neg h, if_neg h]
      show (putS m s (n - 1)).1 :: stms _ = _
      rw [h1]
      rfl
theorem hS_bks {s : Stm} {b : Blk} (h : b ∈ bks s) : hB b + 1 ≤ hS s := by
  cases s with
  | mk w x r hw => cases h
  | no w r hw => cases h
  | fn x ps c => rw [List.mem_singleton.mp h, hS]; omega
  | ite a b1 b2 =>
    rw [hS]
    simp only [bks, List.mem_cons, List.not_mem_nil, or_false] at h
    rcases h with e | e <;> (rw [e]; omega)
  | whl a c => rw [List.mem_singleton.mp h, hS]; omega
  | tms one x a c => rw [List.mem_singleton.mp h, hS]; omega
theorem good_bks {s : Stm} (g : goodS s) {b : Blk} (h : b ∈ bks s) : goodB b := by
  cases s with
  | mk w x r hw => cases h
  | no w r hw => cases h
  | fn x ps c => rw [goodS] at g; rw [List.mem_singleton.mp h]; exact g.2.2.2
  | ite a b1 b2 =>
    rw [goodS] at g
    simp only [bks, List.mem_cons, List.not_mem_nil, or_false] at h
    rcases h with e | e
    · rw [e]; exact g.2.1
    · rw [e]; exact g.2.2
  | whl a c => rw [goodS] at g; rw [List.mem_singleton.mp h]; exact g.2
  | tms one x a c => rw [goodS] at g; rw [List.mem_singleton.mp h]; exact g.2.2
theorem nS_bks {s : Stm} {b : Blk} (h : b ∈ bks s) : nB b ≤ nS s := by
  cases s with
  | mk w x r hw => cases h
  | no w r hw => cases h
  | fn x ps c => rw [List.mem_singleton.mp h, nS]; omega
  | ite a b1 b2 =>
    rw [nS]
    simp only [bks, List.mem_cons, List.not_mem_nil, or_false] at h
    rcases h with e | e <;> (rw [e]; omega)
  | whl a c => rw [List.mem_singleton.mp h, nS]; omega
  | tms one x a c => rw [List.mem_singleton.mp h, nS]; omega
theorem nS_mem : ∀ {b : Blk} {s : Stm}, s ∈ stms b → nS s ≤ nB b
  | .nil, _, h => by cases h
  | .cons x r, s, h => by
    rw [nB]
    rcases List.mem_cons.mp h with e | e
    · rw [e]; omega
    · have := nS_mem e
      omega
theorem stms_len : ∀ b : Blk, (stms b).length ≤ nB b
  | .nil => Nat.le_refl _
  | .cons s r => by
    rw [stms, List.length_cons, nB]
    have := stms_len r
    have : 1 ≤ nS s := by cases s <;> simp only [nS] <;> omega
    omega
theorem way_len {m : Stm} : ∀ (l : List Stm) (n : Int), (way m l n).1.length ≤ 2 * l.length
  | [], _ => Nat.le_refl _
  | s :: r, n => by
    have := way_len (m := m) r (putS m s (n - 1)).2
    show ((if n = 0 then [m] else []) ++ (putS m s (n - 1)).1 :: _).length ≤ 2 * (s :: r).length
    rw [List.length_append, List.length_cons, List.length_cons]
    by_cases h : n = 0
    · rw [if_pos h]; simp only [List.length_cons, List.length_nil]; omega
    · rw [if_neg h]; simp only [List.length_nil]; omega
/-- how many places, as the law sums them -/
def cps (s : Stm) : List Int := (bks s).map fun b => (cpB b : Int)
theorem cps_sum (s : Stm) : (cps s).sum = cpS s := by
  cases s <;> simp [cps, bks, cpS]
theorem cp_sum : ∀ b : Blk, 1 + ((stms b).map fun s => 1 + (cps s).sum).sum = (cpB b : Int)
  | .nil => rfl
  | .cons s r => by
    have := cp_sum r
    rw [stms, List.map_cons, List.sum_cons, cps_sum, cpB]
    omega
end Fb
set_option Elab.async false
set_option linter.all false
set_option maxRecDepth 100000
set_option maxHeartbeats 2000000
namespace Fb
open PySem
/-! ### the forms of the rows -/
def okK (d : PyData) : Prop := d = .none ∨ ∃ n : Nat, d = nD n
structure Form (t : TS) : Prop where
  bd : ∀ d ∈ t.bd, ∃ k ps, d = rowB k ps ∧ okK k
  gr : ∀ d ∈ t.gr, ∃ s k a, d = rowG s k a ∧ okK k ∧ okK a
  mm : ∀ d ∈ t.mm, ∃ x k g, d = rowM x k g
  pl : ∀ e ∈ t.pl, ∃ s, e.1 = dS s
theorem Form.push {t : TS} (h : Form t) (s : Stm) (q : Nat × Nat) : Form { t with pl := t.pl ++ [(dS s, q)] } := ⟨h.bd, h.gr, h.mm, fun e z => by
  rcases List.mem_append.mp z with z | z
  · exact h.pl e z
  · rw [List.mem_singleton.mp z]; exact ⟨s, rfl⟩⟩
theorem Form.body {t : TS} (h : Form t) (k : Nat) (ps : List Str) : Form { t with bd := t.bd ++ [rowB (nD k) ps] } := ⟨fun e z => by
  rcases List.mem_append.mp z with z | z
  · exact h.bd e z
  · rw [List.mem_singleton.mp z]; exact ⟨_, _, rfl, .inr ⟨_, rfl⟩⟩, h.gr, h.mm, h.pl⟩
theorem Form.ground {t : TS} (h : Form t) (s : Str) (k g : Nat) : Form { t with gr := t.gr ++ [rowG s (nD k) (nD g)] } := ⟨h.bd, fun e z => by
  rcases List.mem_append.mp z with z | z
  · exact h.gr e z
  · rw [List.mem_singleton.mp z]; exact ⟨_, _, _, rfl, .inr ⟨_, rfl⟩, .inr ⟨_, rfl⟩⟩, h.mm, h.pl⟩
theorem Form.makes {t : TS} (h : Form t) (l : List PyData) (hl : ∀ d ∈ l, ∃ x k g, d = rowM x k g) : Form { t with mm := t.mm ++ l } := ⟨h.bd, h.gr, fun e z => by
  rcases List.mem_append.mp z with z | z
  · exact h.mm e z
  · exact hl e z, h.pl⟩
theorem one_row {x : Str} {k g : Nat} : ∀ d ∈ [rowM x k g], ∃ x k g, d = rowM x k g := fun d z => by rw [List.mem_singleton.mp z]; exact ⟨_, _, _, rfl⟩
mutual
theorem formS : ∀ (s : Stm) (g b : Nat) (t : TS), Form t → Form (layS s g b t)
  | .mk w x r h, g, b, t, f => by
    rw [layS]
    exact (f.push (.mk w x r h) (g, b)).makes _ one_row
  | .no w r h, g, b, t, f => by
    rw [layS]
    exact f.push (.no w r h) (g, b)
  | .fn x ps blk, g, b, t, f => by
    rw [layS]
    refine formB blk _ _ _ ?_
    exact ((((f.push (.fn x ps blk) (g, b)).makes (rowM x t.pl.length g :: ps.map fun p => rowM p t.pl.length t.gr.length) fun d z => by
      rcases List.mem_cons.mp z with z | z
      · exact ⟨_, _, _, z⟩
      · obtain ⟨p, _, rfl⟩ := List.mem_map.mp z
        exact ⟨_, _, _, rfl⟩).body t.pl.length ps).ground "body" t.pl.length g)
  | .ite a b1 b2, g, b, t, f => by
    rw [layS]
    exact formB b2 _ _ _ ((formB b1 _ _ _ ((f.push (.ite a b1 b2) (g, b)).ground "one" t.pl.length g)).ground "other" t.pl.length g)
  | .whl a blk, g, b, t, f => by
    rw [layS]
    exact formB blk _ _ _ ((f.push (.whl a blk) (g, b)).ground "while" t.pl.length g)
  | .tms true x a blk, g, b, t, f => by
    rw [layS]
    exact formB blk _ _ _ ((((f.push (.tms true x a blk) (g, b)).makes _ one_row).ground "head" t.pl.length g).ground "times" t.pl.length t.gr.length)
  | .tms false x a blk, g, b, t, f => by
    rw [layS]
    exact formB blk _ _ _ (((f.push (.tms false x a blk) (g, b)).makes _ one_row).ground "times" t.pl.length g)
theorem formB : ∀ (blk : Blk) (g b : Nat) (t : TS), Form t → Form (layB blk g b t)
  | .nil, _, _, _, f => f
  | .cons s r, g, b, t, f => by
    rw [layB]
    exact formB r g b _ (formS s g b t f)
end
def t0 : TS := ⟨[], [rowB .none []], [rowG "body" .none .none], []⟩
theorem form0 : Form t0 := ⟨fun d z => by rw [List.mem_singleton.mp z]; exact ⟨_, _, rfl, .inl rfl⟩, fun d z => by rw [List.mem_singleton.mp z]; exact ⟨_, _, _, rfl, .inl rfl, .inl rfl⟩, (fun d z => by cases z), (fun d z => by cases z)⟩
theorem r00 : R0 t0 t0 := ⟨.nil, rfl, rfl, rfl, fun d z j _ => by rw [List.mem_singleton.mp z]; rfl, fun d z j _ => by rw [List.mem_singleton.mp z]; rfl, (fun d z => by cases z)⟩
end Fb
set_option Elab.async false
set_option linter.all false
set_option maxRecDepth 100000
set_option maxHeartbeats 2000000
/-! A layer over the rules' readings that speaks of data, not of heaps: what is read and never changed is plain data; what a def changes is its own. -/
namespace VL
open PySem PySem.Spec PyProof.Rows L2
inductive D : Type
  | non | bl (b : Bool) | int (i : Int) | str (s : Str)
  | tup (l : List D) | lst (l : List D) | dct (ks : List Key) (l : List D) | obj (C : Addr) (fs : List Str) (l : List D)
/-- how a thing is held: as it is (nobody changes it), or one's own list, dict, instance -/
inductive Sh : Type
  | s | l (e : Sh) | d (f : Key → Sh) | o (f : Str → Sh)
abbrev Env := List (Option D)
def Fx : HO → Prop
  | .tup _ => True
  | .frz _ _ => True
  | _ => False
def ExtT (H H' : Hp) : Prop := ∀ b o, H b = some o → Fx o → H' b = some o
theorem ExtT.refl (H : Hp) : ExtT H H := fun _ _ e _ => e
theorem ExtT.trans {H H1 H2 : Hp} (a : ExtT H H1) (b : ExtT H1 H2) : ExtT H H2 := fun c o e f => b c o (a c o e f) f
theorem ExtT.same {H H' : Hp} (s : Same H H') : ExtT H H' := fun b o e _ => s b o e
theorem ExtT.upd {H : Hp} {a : Addr} {o : HO} (h : ∀ u, H a = some u → ¬ Fx u) : ExtT H (L2.upd H a o) := fun b u e f => by
  rw [upd_ne (show b ≠ a from fun z => h u (by rw [← z]; exact e) f)]
  exact e
theorem same_new {H : Hp} {p : Addr} {o : HO} (h : H p = none) : Same H (L2.upd H p o) := fun b x e => by
  rw [upd_ne (ne_of_none e h)]
  exact e
theorem sqT_ext {K : PySem.W.Frag} {H H' : Hp} {a : Addr} {xs : List V} (e : ExtT H H') (h : SqT K H a xs) : SqT K H' a xs := by
  rcases h with (h | ⟨o, h⟩) | h
  · exact .inl (.inl (e _ _ h True.intro))
  · exact .inl (.inr ⟨o, e _ _ h True.intro⟩)
  · exact .inr h
/-- a list of the module's own -/
def KLs (K : PySem.W.Frag) (a : Addr) (vs : List V) : Prop := ∃ (its : List Value) (n : Nat), K.lookup a = some { cls := .type "list", data := .seq its.toArray n } ∧ its.length ≤ sizeLine ∧ Vals vs its
def LsR (K : PySem.W.Frag) (H : Hp) (a : Addr) (vs : List V) : Prop := Rd H a (.lst vs) ∨ KLs K a vs
/-- a list that is read and that nobody changes -/
def LsS (K : PySem.W.Frag) (ow : Addr → Prop) (H : Hp) (a : Addr) (vs : List V) : Prop := (Rd H a (.lst vs) ∧ ¬ ow a) ∨ KLs K a vs
theorem LsR.sq {K : PySem.W.Frag} {H : Hp} {a : Addr} {vs : List V} (h : LsR K H a vs) : SqL K H a vs := by
  rcases h with h | ⟨its, n, h, z, r⟩
  · exact .inl h
  · exact .inr ⟨_, its.toArray, n, h, rfl, rfl, rfl, by rw [List.size_toArray]; exact z, by simpa using r⟩
theorem LsS.r {K : PySem.W.Frag} {ow : Addr → Prop} {H : Hp} {a : Addr} {vs : List V} (h : LsS K ow H a vs) : LsR K H a vs := by
  rcases h with h | h
  · exact .inl h.1
  · exact .inr h
theorem LsS.sq {K : PySem.W.Frag} {ow : Addr → Prop} {H : Hp} {a : Addr} {vs : List V} (h : LsS K ow H a vs) : SqL K H a vs := h.r.sq
mutual
def RS (K : PySem.W.Frag) (ow : Addr → Prop) (H : Hp) : D → V → Prop
  | .non, v => v = .non
  | .bl b, v => v = .bl b
  | .int i, v => v = .int i
  | .str s, v => v = .str s
  | .tup l, v => ∃ a vs, v = .ref a ∧ SqT K H a vs ∧ RSs K ow H l vs
  | .lst l, v => ∃ a vs, v = .ref a ∧ LsS K ow H a vs ∧ RSs K ow H l vs
  | .dct ks l, v => ∃ a vs, v = .ref a ∧ Rd H a (.dK (ks.zip vs)) ∧ ¬ ow a ∧ ks.length = vs.length ∧ RSs K ow H l vs
  | .obj C fs l, v => ∃ a dx vs, v = .ref a ∧ H a = some (.ins C dx (fs.zip vs)) ∧ ¬ ow a ∧ fs.length = vs.length ∧ RSs K ow H l vs
def RSs (K : PySem.W.Frag) (ow : Addr → Prop) (H : Hp) : List D → List V → Prop
  | [], vs => vs = []
  | d :: ds, vs => ∃ v r, vs = v :: r ∧ RS K ow H d v ∧ RSs K ow H ds r
end
mutual
def RO (K : PySem.W.Frag) (ow : Addr → Prop) (H : Hp) : D → Sh → V → List Addr → Prop
  | d, .s, v, fp => fp = [] ∧ RS K ow H d v
  | .lst l, .l e, v, fp => ∃ a vs fps, v = .ref a ∧ H a = some (.lst vs) ∧ ROs K ow H l (l.map fun _ => e) vs fps ∧ fp = a :: fps
  | .dct ks l, .d f, v, fp => ∃ a vs fps, v = .ref a ∧ H a = some (.dK (ks.zip vs)) ∧ ks.length = vs.length ∧ ROs K ow H l (ks.map f) vs fps ∧ fp = a :: fps
  | .obj C fs l, .o f, v, fp => ∃ a dx vs fps, v = .ref a ∧ H a = some (.ins C dx (fs.zip vs)) ∧ fs.length = vs.length ∧ ROs K ow H l (fs.map f) vs fps ∧ fp = a :: fps
  | _, _, _, _ => False
def ROs (K : PySem.W.Frag) (ow : Addr → Prop) (H : Hp) : List D → List Sh → List V → List Addr → Prop
  | [], shs, vs, fp => shs = [] ∧ vs = [] ∧ fp = []
  | d :: ds, shs, vs, fp => ∃ sh shs' v vs' f1 f2, shs = sh :: shs' ∧ vs = v :: vs' ∧ fp = f1 ++ f2 ∧ RO K ow H d sh v f1 ∧ ROs K ow H ds shs' vs' f2
end
section
variable {K : PySem.W.Frag} {ow ow' : Addr → Prop} {H H' : Hp}
theorem RO_s {d : D} {v : V} {fp : List Addr} : RO K ow H d .s v fp ↔ fp = [] ∧ RS K ow H d v := by
  cases d <;> simp only [RO]
/-! ### lists of data -/
theorem RSs.len : ∀ {ds : List D} {vs : List V}, RSs K ow H ds vs → vs.length = ds.length
  | [], _, h => by simp only [RSs] at h; rw [h]; rfl
  | d :: ds, _, h => by
    simp only [RSs] at h
    obtain ⟨v, r, rfl, _, h⟩ := h
    rw [List.length_cons, List.length_cons, RSs.len h]
theorem RSs.nil : RSs K ow H [] [] := by simp only [RSs]
theorem RSs.cons {d : D} {v : V} {ds : List D} {vs : List V} (h : RS K ow H d v) (t : RSs K ow H ds vs) : RSs K ow H (d :: ds) (v :: vs) := by
  simp only [RSs]
  exact ⟨v, vs, rfl, h, t⟩
theorem RSs.uncons {d : D} {v : V} {ds : List D} {vs : List V} (h : RSs K ow H (d :: ds) (v :: vs)) : RS K ow H d v ∧ RSs K ow H ds vs := by
  simp only [RSs] at h
  obtain ⟨v', r, e, h1, h2⟩ := h
  cases e
  exact ⟨h1, h2⟩
theorem RSs.app {es : List D} {ws : List V} (h2 : RSs K ow H es ws) : ∀ {ds : List D} {vs : List V}, RSs K ow H ds vs → RSs K ow H (ds ++ es) (vs ++ ws)
  | [], _, h => by simp only [RSs] at h; rw [h]; exact h2
  | d :: ds, _, h => by
    simp only [RSs] at h
    obtain ⟨v, r, rfl, h, t⟩ := h
    exact .cons h (RSs.app h2 t)
theorem RSs.take : ∀ {ds : List D} {vs : List V} (n : Nat), RSs K ow H ds vs → RSs K ow H (ds.take n) (vs.take n)
  | _, _, 0, _ => by rw [List.take_zero, List.take_zero]; exact .nil
  | [], _, n + 1, h => by simp only [RSs] at h; rw [h]; exact .nil
  | d :: ds, _, n + 1, h => by
    simp only [RSs] at h
    obtain ⟨v, r, rfl, h, t⟩ := h
    exact .cons h (RSs.take n t)
theorem RSs.drop : ∀ {ds : List D} {vs : List V} (n : Nat), RSs K ow H ds vs → RSs K ow H (ds.drop n) (vs.drop n)
  | _, _, 0, h => h
  | [], _, n + 1, h => by simp only [RSs] at h; rw [h]; exact .nil
  | d :: ds, _, n + 1, h => by
    simp only [RSs] at h
    obtain ⟨v, r, rfl, h, t⟩ := h
    exact RSs.drop n t
theorem RSs.get : ∀ {ds : List D} {vs : List V} {i : Nat} {d : D}, RSs K ow H ds vs → ds[i]? = some d → ∃ v, vs[i]? = some v ∧ RS K ow H d v
  | [], _, i, d, _, e => by simp at e
  | d0 :: ds, _, 0, d, h, e => by
    simp only [RSs] at h
    obtain ⟨v, r, rfl, h, t⟩ := h
    simp only [List.getElem?_cons_zero, Option.some.injEq] at e
    subst e
    exact ⟨v, rfl, h⟩
  | d0 :: ds, _, i + 1, d, h, e => by
    simp only [RSs] at h
    obtain ⟨v, r, rfl, h, t⟩ := h
    simp only [List.getElem?_cons_succ] at e
    obtain ⟨u, h1, h2⟩ := RSs.get t e
    exact ⟨u, by simpa using h1, h2⟩
theorem RSs.getV {ds : List D} {vs : List V} {i : Nat} {v : V} (h : RSs K ow H ds vs) (e : vs[i]? = some v) : ∃ d, ds[i]? = some d ∧ RS K ow H d v := by
  have hl := h.len
  have hi : i < ds.length := by
    have := (List.getElem?_eq_some_iff.mp e).1
    omega
  obtain ⟨u, h1, h2⟩ := h.get (List.getElem?_eq_getElem hi)
  rw [e] at h1
  cases h1
  exact ⟨_, List.getElem?_eq_getElem hi, h2⟩
theorem RSs.set : ∀ {ds : List D} {vs : List V} {d : D} {v : V} (i : Nat), RSs K ow H ds vs → RS K ow H d v → RSs K ow H (ds.set i d) (vs.set i v)
  | [], _, _, _, _, h, _ => by simp only [RSs] at h; rw [h]; exact .nil
  | d0 :: ds, _, _, _, 0, h, r => by
    simp only [RSs] at h
    obtain ⟨v, r', rfl, h, t⟩ := h
    exact .cons r t
  | d0 :: ds, _, _, _, i + 1, h, r => by
    simp only [RSs] at h
    obtain ⟨v, r', rfl, h, t⟩ := h
    exact .cons h (RSs.set i t r)
/-! ### what stays -/
structure Fr (ow : Addr → Prop) (H H' : Hp) : Prop where
  kp : ∀ b o, H b = some o → ¬ ow b → H' b = some o
  tp : ExtT H H'
theorem Fr.rd {a : Addr} {u : HO} (F : Fr ow H H') (h : Rd H a u) (n : ¬ ow a) : Rd H' a u := by
  rcases h with h | ⟨o, h⟩
  · exact .inl (F.kp _ _ h n)
  · exact .inr ⟨o, F.kp _ _ h n⟩
theorem Rd.some {a : Addr} {u : HO} (h : Rd H a u) : H a ≠ none := by
  rcases h with h | ⟨o, h⟩ <;> (rw [h]; simp)
mutual
theorem RS.fr (F : Fr ow H H') (how : ∀ a, ow' a → ow a ∨ H a = none) : ∀ (d : D) (v : V), RS K ow H d v → RS K ow' H' d v
  | .non, _, h => by simp only [RS] at h ⊢; exact h
  | .bl b, _, h => by simp only [RS] at h ⊢; exact h
  | .int i, _, h => by simp only [RS] at h ⊢; exact h
  | .str s, _, h => by simp only [RS] at h ⊢; exact h
  | .tup l, _, h => by
    simp only [RS] at h ⊢
    obtain ⟨a, vs, e, q, t⟩ := h
    exact ⟨a, vs, e, sqT_ext F.tp q, RSs.fr F how l vs t⟩
  | .lst l, _, h => by
    simp only [RS] at h ⊢
    obtain ⟨a, vs, e, q, t⟩ := h
    refine ⟨a, vs, e, ?_, RSs.fr F how l vs t⟩
    rcases q with ⟨q, n⟩ | q
    · exact .inl ⟨F.rd q n, fun z => (how a z).elim n (Rd.some q)⟩
    · exact .inr q
  | .dct ks l, _, h => by
    simp only [RS] at h ⊢
    obtain ⟨a, vs, e, q, n, k, t⟩ := h
    exact ⟨a, vs, e, F.rd q n, fun z => (how a z).elim n (Rd.some q), k, RSs.fr F how l vs t⟩
  | .obj C fs l, _, h => by
    simp only [RS] at h ⊢
    obtain ⟨a, dx, vs, e, q, n, k, t⟩ := h
    exact ⟨a, dx, vs, e, F.kp _ _ q n, fun z => (how a z).elim n (by rw [q]; simp), k, RSs.fr F how l vs t⟩
theorem RSs.fr (F : Fr ow H H') (how : ∀ a, ow' a → ow a ∨ H a = none) : ∀ (ds : List D) (vs : List V), RSs K ow H ds vs → RSs K ow' H' ds vs
  | [], _, h => by simp only [RSs] at h ⊢; exact h
  | d :: ds, _, h => by
    simp only [RSs] at h
    obtain ⟨v, r, rfl, h, t⟩ := h
    exact .cons (RS.fr F how d v h) (RSs.fr F how ds r t)
end
theorem Fr.refl (ow : Addr → Prop) (H : Hp) : Fr ow H H := ⟨fun _ _ e _ => e, ExtT.refl H⟩
theorem Fr.same (s : Same H H') : Fr ow H H' := ⟨fun b o e _ => s b o e, ExtT.same s⟩
/-- fewer are avoided -/
theorem RS.less {d : D} {v : V} (h : RS K ow H d v) (how : ∀ a, ow' a → ow a) : RS K ow' H d v := RS.fr (Fr.refl _ _) (fun a z => .inl (how a z)) d v h
theorem RSs.less {ds : List D} {vs : List V} (h : RSs K ow H ds vs) (how : ∀ a, ow' a → ow a) : RSs K ow' H ds vs := RSs.fr (Fr.refl _ _) (fun a z => .inl (how a z)) ds vs h
mutual
theorem RO.fr (hk : ∀ b o, H b = some o → ¬ ow b → H' b = some o) (hT : ExtT H H') (how : ∀ a, ow' a → ow a ∨ H a = none) : ∀ (d : D) (sh : Sh) (v : V) (fp : List Addr), RO K ow H d sh v fp → (∀ b ∈ fp, ∀ o, H b = some o → H' b = some o) → RO K ow' H' d sh v fp
  | d, .s, v, fp, h, _ => by
    rw [RO_s] at h ⊢
    exact ⟨h.1, RS.fr ⟨hk, hT⟩ how d v h.2⟩
  | .lst l, .l e, v, fp, h, k => by
    simp only [RO] at h ⊢
    obtain ⟨a, vs, fps, rfl, q, t, rfl⟩ := h
    exact ⟨a, vs, fps, rfl, k a List.mem_cons_self _ q, ROs.fr hk hT how l _ vs fps t (fun b z => k b (List.mem_cons_of_mem _ z)), rfl⟩
  | .dct ks l, .d f, v, fp, h, k => by
    simp only [RO] at h ⊢
    obtain ⟨a, vs, fps, rfl, q, n, t, rfl⟩ := h
    exact ⟨a, vs, fps, rfl, k a List.mem_cons_self _ q, n, ROs.fr hk hT how l _ vs fps t (fun b z => k b (List.mem_cons_of_mem _ z)), rfl⟩
  | .obj C fs l, .o f, v, fp, h, k => by
    simp only [RO] at h ⊢
    obtain ⟨a, dx, vs, fps, rfl, q, n, t, rfl⟩ := h
    exact ⟨a, dx, vs, fps, rfl, k a List.mem_cons_self _ q, n, ROs.fr hk hT how l _ vs fps t (fun b z => k b (List.mem_cons_of_mem _ z)), rfl⟩
  | .non, .l _, _, _, h, _ | .bl _, .l _, _, _, h, _ | .int _, .l _, _, _, h, _ | .str _, .l _, _, _, h, _ | .tup _, .l _, _, _, h, _ | .dct _ _, .l _, _, _, h, _ | .obj _ _ _, .l _, _, _, h, _ => by simp only [RO] at h
  | .non, .d _, _, _, h, _ | .bl _, .d _, _, _, h, _ | .int _, .d _, _, _, h, _ | .str _, .d _, _, _, h, _ | .tup _, .d _, _, _, h, _ | .lst _, .d _, _, _, h, _ | .obj _ _ _, .d _, _, _, h, _ => by simp only [RO] at h
  | .non, .o _, _, _, h, _ | .bl _, .o _, _, _, h, _ | .int _, .o _, _, _, h, _ | .str _, .o _, _, _, h, _ | .tup _, .o _, _, _, h, _ | .lst _, .o _, _, _, h, _ | .dct _ _, .o _, _, _, h, _ => by simp only [RO] at h
theorem ROs.fr (hk : ∀ b o, H b = some o → ¬ ow b → H' b = some o) (hT : ExtT H H') (how : ∀ a, ow' a → ow a ∨ H a = none) : ∀ (ds : List D) (shs : List Sh) (vs : List V) (fp : List Addr), ROs K ow H ds shs vs fp → (∀ b ∈ fp, ∀ o, H b = some o → H' b = some o) → ROs K ow' H' ds shs vs fp
  | [], _, _, _, h, _ => by simp only [ROs] at h ⊢; exact h
  | d :: ds, _, _, _, h, k => by
    simp only [ROs] at h ⊢
    obtain ⟨sh, shs', v, vs', f1, f2, e1, e2, e3, h1, h2⟩ := h
    subst e3
    exact ⟨sh, shs', v, vs', f1, f2, e1, e2, rfl, RO.fr hk hT how d sh v f1 h1 (fun b z => k b (List.mem_append_left _ z)), ROs.fr hk hT how ds shs' vs' f2 h2 (fun b z => k b (List.mem_append_right _ z))⟩
end
/-! what is one's own stands, and is no tuple -/
mutual
theorem RO.at : ∀ (d : D) (sh : Sh) (v : V) (fp : List Addr), RO K ow H d sh v fp → ∀ a ∈ fp, ∃ o, H a = some o ∧ ¬ Fx o
  | d, .s, v, fp, h => by
    rw [RO_s] at h
    rw [h.1]
    intro a z
    cases z
  | .lst l, .l e, v, fp, h => by
    simp only [RO] at h
    obtain ⟨a, vs, fps, rfl, q, t, rfl⟩ := h
    intro b z
    rcases List.mem_cons.mp z with e | e
    · rw [e]; exact ⟨_, q, id⟩
    · exact ROs.at l _ vs fps t b e
  | .dct ks l, .d f, v, fp, h => by
    simp only [RO] at h
    obtain ⟨a, vs, fps, rfl, q, n, t, rfl⟩ := h
    intro b z
    rcases List.mem_cons.mp z with e | e
    · rw [e]; exact ⟨_, q, id⟩
    · exact ROs.at l _ vs fps t b e
  | .obj C fs l, .o f, v, fp, h => by
    simp only [RO] at h
    obtain ⟨a, dx, vs, fps, rfl, q, n, t, rfl⟩ := h
    intro b z
    rcases List.mem_cons.mp z with e | e
    · rw [e]; exact ⟨_, q, id⟩
    · exact ROs.at l _ vs fps t b e
  | .non, .l _, _, _, h | .bl _, .l _, _, _, h | .int _, .l _, _, _, h | .str _, .l _, _, _, h | .tup _, .l _, _, _, h | .dct _ _, .l _, _, _, h | .obj _ _ _, .l _, _, _, h => by simp only [RO] at h
  | .non, .d _, _, _, h | .bl _, .d _, _, _, h | .int _, .d _, _, _, h | .str _, .d _, _, _, h | .tup _, .d _, _, _, h | .lst _, .d _, _, _, h | .obj _ _ _, .d _, _, _, h => by simp only [RO] at h
  | .non, .o _, _, _, h | .bl _, .o _, _, _, h | .int _, .o _, _, _, h | .str _, .o _, _, _, h | .tup _, .o _, _, _, h | .lst _, .o _, _, _, h | .dct _ _, .o _, _, _, h => by simp only [RO] at h
theorem ROs.at : ∀ (ds : List D) (shs : List Sh) (vs : List V) (fp : List Addr), ROs K ow H ds shs vs fp → ∀ a ∈ fp, ∃ o, H a = some o ∧ ¬ Fx o
  | [], _, _, _, h => by
    simp only [ROs] at h
    rw [h.2.2]
    intro a z
    cases z
  | d :: ds, _, _, _, h => by
    simp only [ROs] at h
    obtain ⟨sh, shs', v, vs', f1, f2, e1, e2, e3, h1, h2⟩ := h
    subst e3
    intro a z
    rcases List.mem_append.mp z with e | e
    · exact RO.at d sh v f1 h1 a e
    · exact ROs.at ds shs' vs' f2 h2 a e
end
/-! one's own let go: from now on nobody changes it -/
mutual
theorem RO.let : ∀ (d : D) (sh : Sh) (v : V) (fp : List Addr), RO K ow H d sh v fp → (∀ a, ow' a → ow a ∧ a ∉ fp) → RS K ow' H d v
  | d, .s, v, fp, h, k => by
    rw [RO_s] at h
    exact h.2.less fun a z => (k a z).1
  | .lst l, .l e, v, fp, h, k => by
    simp only [RO] at h
    obtain ⟨a, vs, fps, rfl, q, t, rfl⟩ := h
    simp only [RS]
    exact ⟨a, vs, rfl, .inl ⟨.inl q, fun z => (k a z).2 List.mem_cons_self⟩, ROs.let l _ vs fps t fun b z => ⟨(k b z).1, fun y => (k b z).2 (List.mem_cons_of_mem _ y)⟩⟩
  | .dct ks l, .d f, v, fp, h, k => by
    simp only [RO] at h
    obtain ⟨a, vs, fps, rfl, q, n, t, rfl⟩ := h
    simp only [RS]
    exact ⟨a, vs, rfl, .inl q, fun z => (k a z).2 List.mem_cons_self, n, ROs.let l _ vs fps t fun b z => ⟨(k b z).1, fun y => (k b z).2 (List.mem_cons_of_mem _ y)⟩⟩
  | .obj C fs l, .o f, v, fp, h, k => by
    simp only [RO] at h
    obtain ⟨a, dx, vs, fps, rfl, q, n, t, rfl⟩ := h
    simp only [RS]
    exact ⟨a, dx, vs, rfl, q, fun z => (k a z).2 List.mem_cons_self, n, ROs.let l _ vs fps t fun b z => ⟨(k b z).1, fun y => (k b z).2 (List.mem_cons_of_mem _ y)⟩⟩
  | .non, .l _, _, _, h, _ | .bl _, .l _, _, _, h, _ | .int _, .l _, _, _, h, _ | .str _, .l _, _, _, h, _ | .tup _, .l _, _, _, h, _ | .dct _ _, .l _, _, _, h, _ | .obj _ _ _, .l _, _, _, h, _ => by simp only [RO] at h
  | .non, .d _, _, _, h, _ | .bl _, .d _, _, _, h, _ | .int _, .d _, _, _, h, _ | .str _, .d _, _, _, h, _ | .tup _, .d _, _, _, h, _ | .lst _, .d _, _, _, h, _ | .obj _ _ _, .d _, _, _, h, _ => by simp only [RO] at h
  | .non, .o _, _, _, h, _ | .bl _, .o _, _, _, h, _ | .int _, .o _, _, _, h, _ | .str _, .o _, _, _, h, _ | .tup _, .o _, _, _, h, _ | .lst _, .o _, _, _, h, _ | .dct _ _, .o _, _, _, h, _ => by simp only [RO] at h
theorem ROs.let : ∀ (ds : List D) (shs : List Sh) (vs : List V) (fp : List Addr), ROs K ow H ds shs vs fp → (∀ a, ow' a → ow a ∧ a ∉ fp) → RSs K ow' H ds vs
  | [], _, _, _, h, _ => by
    simp only [ROs] at h
    rw [h.2.1]
    exact .nil
  | d :: ds, _, _, _, h, k => by
    simp only [ROs] at h
    obtain ⟨sh, shs', v, vs', f1, f2, e1, e2, e3, h1, h2⟩ := h
    subst e2 e3
    exact .cons (RO.let d sh v f1 h1 fun b z => ⟨(k b z).1, fun y => (k b z).2 (List.mem_append_left _ y)⟩) (ROs.let ds shs' vs' f2 h2 fun b z => ⟨(k b z).1, fun y => (k b z).2 (List.mem_append_right _ y)⟩)
end
end
end VL
set_option Elab.async false
set_option linter.all false
set_option maxRecDepth 100000
set_option maxHeartbeats 2000000
namespace VL
open PySem PySem.Spec PyProof.Rows L2
/-! ### where a def stands: what it holds in hand, its names, the heap -/
abbrev Tm := Sh × V × D
structure Vc where
  K : PySem.W.Frag
  H0 : Hp
  io : Addr → Prop
  av : Addr → Prop
  M : List Sh
  rt : List (Nat × V)
section
variable (K : PySem.W.Frag) (ow : Addr → Prop) (H : Hp)
def RT : List Tm → List Addr → Prop
  | [], fp => fp = []
  | t :: T, fp => ∃ f1 f2, fp = f1 ++ f2 ∧ RO K ow H t.2.2 t.1 t.2.1 f1 ∧ RT T f2
def Slot (sh : Sh) (x : Option V) (y : Option D) (fp : List Addr) : Prop :=
  match y with
  | none => fp = []
  | some d => ∃ v, x = some v ∧ RO K ow H d sh v fp
def RV : List Sh → L2.St → Env → List Addr → Prop
  | [], σ, e, fp => σ = [] ∧ e = [] ∧ fp = []
  | sh :: M, σ, e, fp => ∃ x σ' y e' f1 f2, σ = x :: σ' ∧ e = y :: e' ∧ fp = f1 ++ f2 ∧ Slot K ow H sh x y f1 ∧ RV M σ' e' f2
end
section
variable {K : PySem.W.Frag} {ow ow' : Addr → Prop} {H H' : Hp}
theorem RT.fr (hk : ∀ b o, H b = some o → ¬ ow b → H' b = some o) (hT : ExtT H H') (how : ∀ a, ow' a → ow a ∨ H a = none) : ∀ {T : List Tm} {fp : List Addr}, RT K ow H T fp → (∀ b ∈ fp, ∀ o, H b = some o → H' b = some o) → RT K ow' H' T fp
  | [], _, h, _ => h
  | t :: T, _, ⟨f1, f2, e, h1, h2⟩, k => by
    subst e
    exact ⟨f1, f2, rfl, RO.fr hk hT how _ _ _ _ h1 (fun b z => k b (List.mem_append_left _ z)), RT.fr hk hT how h2 (fun b z => k b (List.mem_append_right _ z))⟩
theorem Slot.fr (hk : ∀ b o, H b = some o → ¬ ow b → H' b = some o) (hT : ExtT H H') (how : ∀ a, ow' a → ow a ∨ H a = none) {sh : Sh} {x : Option V} {y : Option D} {fp : List Addr} (h : Slot K ow H sh x y fp) (k : ∀ b ∈ fp, ∀ o, H b = some o → H' b = some o) : Slot K ow' H' sh x y fp := by
  cases y with
  | none => exact h
  | some d =>
    obtain ⟨v, e, r⟩ := h
    exact ⟨v, e, RO.fr hk hT how _ _ _ _ r k⟩
theorem RV.fr (hk : ∀ b o, H b = some o → ¬ ow b → H' b = some o) (hT : ExtT H H') (how : ∀ a, ow' a → ow a ∨ H a = none) : ∀ {M : List Sh} {σ : L2.St} {e : Env} {fp : List Addr}, RV K ow H M σ e fp → (∀ b ∈ fp, ∀ o, H b = some o → H' b = some o) → RV K ow' H' M σ e fp
  | [], _, _, _, h, _ => h
  | sh :: M, _, _, _, ⟨x, σ', y, e', f1, f2, e1, e2, e3, h1, h2⟩, k => by
    subst e3
    exact ⟨x, σ', y, e', f1, f2, e1, e2, rfl, h1.fr hk hT how (fun b z => k b (List.mem_append_left _ z)), RV.fr hk hT how h2 (fun b z => k b (List.mem_append_right _ z))⟩
theorem RT.at : ∀ {T : List Tm} {fp : List Addr}, RT K ow H T fp → ∀ a ∈ fp, ∃ o, H a = some o ∧ ¬ Fx o
  | [], _, h, a, z => by
    have h : _ = [] := h
    rw [h] at z
    cases z
  | t :: T, _, ⟨f1, f2, e, h1, h2⟩, a, z => by
    subst e
    rcases List.mem_append.mp z with q | q
    · exact RO.at _ _ _ _ h1 a q
    · exact RT.at h2 a q
theorem Slot.at {sh : Sh} {x : Option V} {y : Option D} {fp : List Addr} (h : Slot K ow H sh x y fp) : ∀ a ∈ fp, ∃ o, H a = some o ∧ ¬ Fx o := by
  cases y with
  | none =>
    have h : fp = [] := h
    rw [h]
    intro a z
    cases z
  | some d =>
    obtain ⟨v, e, r⟩ := h
    exact RO.at _ _ _ _ r
theorem RV.at : ∀ {M : List Sh} {σ : L2.St} {e : Env} {fp : List Addr}, RV K ow H M σ e fp → ∀ a ∈ fp, ∃ o, H a = some o ∧ ¬ Fx o
  | [], _, _, _, h, a, z => by
    rw [h.2.2] at z
    cases z
  | sh :: M, _, _, _, ⟨x, σ', y, e', f1, f2, e1, e2, e3, h1, h2⟩, a, z => by
    subst e3
    rcases List.mem_append.mp z with q | q
    · exact h1.at a q
    · exact RV.at h2 a q
/-- one name among the others -/
theorem RV.split : ∀ {M : List Sh} {σ : L2.St} {e : Env} {fV : List Addr} {i : Nat} {sh : Sh}, RV K ow H M σ e fV → M[i]? = some sh →
    ∃ f1 fp f2 x y, σ[i]? = some x ∧ e[i]? = some y ∧ fV = f1 ++ (fp ++ f2) ∧ Slot K ow H sh x y fp ∧
      ∀ {H' : Hp} {ow' : Addr → Prop} {x' : Option V} {y' : Option D} {fp' : List Addr}, (∀ b o, H b = some o → ¬ ow b → H' b = some o) → ExtT H H' → (∀ a, ow' a → ow a ∨ H a = none) → (∀ b ∈ f1 ++ f2, ∀ o, H b = some o → H' b = some o) → Slot K ow' H' sh x' y' fp' →
        RV K ow' H' M (σ.set i x') (e.set i y') (f1 ++ (fp' ++ f2))
  | [], _, _, _, i, _, _, hM => by simp at hM
  | sh0 :: M, _, _, _, 0, sh, ⟨x, σ', y, e', f1, f2, e1, e2, e3, h1, h2⟩, hM => by
    subst e1 e2 e3
    simp only [List.getElem?_cons_zero, Option.some.injEq] at hM
    subst hM
    refine ⟨[], f1, f2, x, y, rfl, rfl, rfl, h1, fun {H' ow' x' y' fp'} hk hT how k s => ?_⟩
    exact ⟨x', σ', y', e', fp', f2, rfl, rfl, rfl, s, RV.fr hk hT how h2 (fun b z => k b z)⟩
  | sh0 :: M, _, _, _, i + 1, sh, ⟨x, σ', y, e', f1, f2, e1, e2, e3, h1, h2⟩, hM => by
    subst e1 e2 e3
    simp only [List.getElem?_cons_succ] at hM
    obtain ⟨g1, fp, g2, x2, y2, a1, a2, a3, a4, a5⟩ := RV.split h2 hM
    subst a3
    refine ⟨f1 ++ g1, fp, g2, x2, y2, by simpa using a1, by simpa using a2, by simp, a4, fun {H' ow' x' y' fp'} hk hT how k s => ?_⟩
    refine ⟨x, σ'.set i x', y, e'.set i y', f1, g1 ++ (fp' ++ g2), rfl, rfl, by simp, h1.fr hk hT how (fun b z => k b (by simp [z])), ?_⟩
    exact a5 hk hT how (fun b z => k b (by
      rcases List.mem_append.mp z with q | q
      · simp [q]
      · simp [q])) s
end
def owOf (c : Vc) (fT fV : List Addr) : Addr → Prop := fun a => a ∈ fT ++ fV ∨ c.av a
structure RX (c : Vc) (fT fV : List Addr) (T : List Tm) (σ : L2.St) (e : Env) (H : Hp) : Prop where
  tm : RT c.K (owOf c fT fV) H T fT
  vr : RV c.K (owOf c fT fV) H c.M σ e fV
  nd : (fT ++ fV).Nodup
  fr : ∀ a ∈ fT ++ fV, c.io a ∨ c.H0 a = none
  kp : ∀ b o, c.H0 b = some o → ¬ c.io b → H b = some o
  tp : ExtT c.H0 H
  al : ∀ b, c.H0 b ≠ none → H b ≠ none
  ok : ∀ a, c.av a → c.H0 a ≠ none ∧ ¬ c.io a
  rt : ∀ p ∈ c.rt, σ[p.1]? = some (some p.2)
def R (c : Vc) (T : List Tm) (σ : L2.St) (e : Env) (H : Hp) : Prop := ∃ fT fV, RX c fT fV T σ e H
section
variable {c : Vc} {fT fV : List Addr} {T : List Tm} {σ : L2.St} {e : Env} {H H' : Hp}
theorem RX.at (h : RX c fT fV T σ e H) : ∀ a ∈ fT ++ fV, ∃ o, H a = some o ∧ ¬ Fx o := fun a z => by
  rcases List.mem_append.mp z with q | q
  · exact h.tm.at a q
  · exact h.vr.at a q
/-- what is new is not one's own yet -/
theorem RX.new (h : RX c fT fV T σ e H) {p : Addr} (hp : H p = none) : p ∉ fT ++ fV ∧ c.H0 p = none := by
  refine ⟨fun z => ?_, ?_⟩
  · obtain ⟨o, e, _⟩ := h.at p z
    rw [hp] at e
    cases e
  · cases q : c.H0 p with
    | none => rfl
    | some o => exact absurd hp (h.al p (by rw [q]; simp))
theorem RX.avn (h : RX c fT fV T σ e H) {a : Addr} (z : c.av a) : H a ≠ none := h.al a (h.ok a z).1
/-- what is avoided stands in the heap -/
theorem RX.owS (h : RX c fT fV T σ e H) {a : Addr} (z : owOf c fT fV a) : H a ≠ none := by
  rcases z with z | z
  · obtain ⟨o, q, _⟩ := h.at a z
    rw [q]
    simp
  · exact h.avn z
/-- nothing that stood is otherwise -/
theorem RX.same (h : RX c fT fV T σ e H) (s : Same H H') : RX c fT fV T σ e H' := by
  have hT := ExtT.same s
  exact ⟨h.tm.fr (fun b o q _ => s b o q) hT (fun _ z => .inl z) (fun b _ o q => s b o q), h.vr.fr (fun b o q _ => s b o q) hT (fun _ z => .inl z) (fun b _ o q => s b o q), h.nd, h.fr,
    fun b o q n => s b o (h.kp b o q n), h.tp.trans hT, fun b q z => (h.al b q) (by
      cases y : H b with
      | none => rfl
      | some o => rw [s b o y] at z; cases z), h.ok, h.rt⟩
theorem RX.pushS (h : RX c fT fV T σ e H) {v : V} {d : D} (r : RS c.K (owOf c fT fV) H d v) : RX c fT fV ((.s, v, d) :: T) σ e H :=
  ⟨⟨[], fT, rfl, RO_s.mpr ⟨rfl, r⟩, h.tm⟩, h.vr, h.nd, h.fr, h.kp, h.tp, h.al, h.ok, h.rt⟩
theorem ow_grow {fp : List Addr} (hf : ∀ a ∈ fp, H a = none) : ∀ a, owOf c (fp ++ fT) fV a → owOf c fT fV a ∨ H a = none := fun a z => by
  rcases z with z | z
  · simp only [List.append_assoc, List.mem_append] at z
    rcases z with z | z | z
    · exact .inr (hf a z)
    · exact .inl (.inl (List.mem_append_left _ z))
    · exact .inl (.inl (List.mem_append_right _ z))
  · exact .inl (.inr z)
/-- a new thing, one's own -/
theorem RX.pushO (h : RX c fT fV T σ e H) (s : Same H H') {sh : Sh} {v : V} {d : D} {fp : List Addr} (nd : fp.Nodup) (hf : ∀ a ∈ fp, H a = none) (r : RO c.K (owOf c (fp ++ fT) fV) H' d sh v fp) : RX c (fp ++ fT) fV ((sh, v, d) :: T) σ e H' := by
  have h' := h.same s
  have hT := ExtT.same s
  have how := ow_grow (c := c) (fT := fT) (fV := fV) hf
  refine ⟨⟨fp, fT, rfl, r, h.tm.fr (fun b o q _ => s b o q) hT how (fun b _ o q => s b o q)⟩, h.vr.fr (fun b o q _ => s b o q) hT how (fun b _ o q => s b o q), ?_, fun a z => ?_, h'.kp, h'.tp, h'.al, h.ok, h.rt⟩
  · rw [List.append_assoc]
    exact List.nodup_append.mpr ⟨nd, h.nd, fun a z b y q => by subst q; exact (h.new (hf a z)).1 y⟩
  · rw [List.append_assoc] at z
    rcases List.mem_append.mp z with z | z
    · exact .inr (h.new (hf a z)).2
    · exact h.fr a z
theorem ow_less {f1 : List Addr} : ∀ a, owOf c fT fV a → owOf c (f1 ++ fT) fV a := fun a z => by
  rcases z with z | z
  · exact .inl (by
      rw [List.append_assoc]
      exact List.mem_append_right _ z)
  · exact .inr z
theorem RX.pop {t : Tm} (h : RX c fT fV (t :: T) σ e H) : ∃ fT', RX c fT' fV T σ e H := by
  obtain ⟨f1, f2, e1, h1, h2⟩ := h.tm
  subst e1
  have n := h.nd
  rw [List.append_assoc] at n
  have how : ∀ a, owOf c f2 fV a → owOf c (f1 ++ f2) fV a ∨ H a = none := fun a z => .inl (ow_less a z)
  exact ⟨f2, h2.fr (fun _ _ q _ => q) (ExtT.refl H) how (fun _ _ _ q => q), h.vr.fr (fun _ _ q _ => q) (ExtT.refl H) how (fun _ _ _ q => q), (List.nodup_append.mp n).2.1, fun a z => h.fr a (by rw [List.append_assoc]; exact List.mem_append_right _ z), h.kp, h.tp, h.al, h.ok, h.rt⟩
theorem R.pop {t : Tm} (h : R c (t :: T) σ e H) : R c T σ e H := by
  obtain ⟨fT, fV, h⟩ := h
  obtain ⟨fT', h⟩ := h.pop
  exact ⟨fT', fV, h⟩
/-- .. let go -/
theorem RX.let {sh : Sh} {v : V} {d : D} (h : RX c fT fV ((sh, v, d) :: T) σ e H) : ∃ fT', RX c fT' fV ((.s, v, d) :: T) σ e H := by
  obtain ⟨fT', hp⟩ := h.pop
  obtain ⟨f1, f2, e1, h1, h2⟩ := h.tm
  subst e1
  have n := h.nd
  rw [List.append_assoc] at n
  obtain ⟨n1, n2, n3⟩ := List.nodup_append.mp n
  have how : ∀ a, owOf c f2 fV a → owOf c (f1 ++ f2) fV a ∨ H a = none := fun a z => .inl (ow_less a z)
  have hp : RX c f2 fV T σ e H := ⟨h2.fr (fun _ _ q _ => q) (ExtT.refl H) how (fun _ _ _ q => q), h.vr.fr (fun _ _ q _ => q) (ExtT.refl H) how (fun _ _ _ q => q), n2, fun a z => h.fr a (by rw [List.append_assoc]; exact List.mem_append_right _ z), h.kp, h.tp, h.al, h.ok, h.rt⟩
  refine ⟨f2, hp.pushS (RO.let _ _ _ _ h1 fun a z => ⟨ow_less a z, fun y => ?_⟩)⟩
  rcases z with z | z
  · exact n3 a y a z rfl
  · rcases h.fr a (List.mem_append_left _ (List.mem_append_left _ y)) with q | q
    · exact (h.ok a z).2 q
    · exact (h.ok a z).1 q
theorem R.let {sh : Sh} {v : V} {d : D} (h : R c ((sh, v, d) :: T) σ e H) : R c ((.s, v, d) :: T) σ e H := by
  obtain ⟨fT, fV, h⟩ := h
  obtain ⟨fT', h⟩ := h.let
  exact ⟨fT', fV, h⟩
/-- what is on top is given a name -/
theorem R.set {sh : Sh} {v : V} {d : D} {i : Nat} (h : R c ((sh, v, d) :: T) σ e H) (hM : c.M[i]? = some sh) (hr : ∀ p ∈ c.rt, p.1 ≠ i) : R c T (σ.set i (some v)) (e.set i (some d)) H := by
  obtain ⟨fT, fV, h⟩ := h
  obtain ⟨f1, f2, e1, h1, h2⟩ := h.tm
  subst e1
  obtain ⟨g1, fp, g2, x, y, a1, a2, a3, a4, a5⟩ := h.vr.split hM
  subst a3
  have n := h.nd
  have sub : ∀ a, a ∈ f2 ++ (g1 ++ (f1 ++ g2)) → a ∈ f1 ++ f2 ++ (g1 ++ (fp ++ g2)) := fun a z => by
    simp only [List.mem_append] at z ⊢
    rcases z with z | z | z | z <;> simp [z]
  have how : ∀ a, owOf c f2 (g1 ++ (f1 ++ g2)) a → owOf c (f1 ++ f2) (g1 ++ (fp ++ g2)) a ∨ H a = none := fun a z => by
    rcases z with z | z
    · exact .inl (.inl (sub a z))
    · exact .inl (.inr z)
  refine ⟨f2, g1 ++ (f1 ++ g2), h2.fr (fun _ _ q _ => q) (ExtT.refl H) how (fun _ _ _ q => q), a5 (fun _ _ q _ => q) (ExtT.refl H) how (fun _ _ _ q => q) ⟨v, rfl, RO.fr (fun _ _ q _ => q) (ExtT.refl H) how _ _ _ _ h1 (fun _ _ _ q => q)⟩, ?_, fun a z => h.fr a (sub a z), h.kp, h.tp, h.al, h.ok, fun p hp => ?_⟩
  · have n' : (f1 ++ (f2 ++ (g1 ++ (fp ++ g2)))).Nodup := by simpa using n
    have p1 : List.Perm (f1 ++ (f2 ++ (g1 ++ (fp ++ g2)))) (fp ++ (f2 ++ (g1 ++ (f1 ++ g2)))) := by
      rw [List.perm_iff_count]
      intro a
      simp only [List.count_append]
      omega
    exact (List.nodup_append.mp (p1.nodup n')).2.1
  · rw [List.getElem?_set_ne (by exact fun z => hr p hp z.symm)]
    exact h.rt p hp
/-- a name's own thing is changed -/
theorem RX.upd {i : Nat} {sh : Sh} {d : D} (h : RX c fT fV T σ e H) (hM : c.M[i]? = some sh) (hd : e[i]? = some (some d)) :
    ∃ v fp, σ[i]? = some (some v) ∧ RO c.K (owOf c fT fV) H d sh v fp ∧ (∀ a ∈ fp, a ∈ fT ++ fV) ∧ fp.Nodup ∧
      ∀ (H' : Hp) (d' : D) (fp' : List Addr), (∀ b o, H b = some o → b ∉ fp → H' b = some o) → ExtT H H' → (∀ b, H b ≠ none → H' b ≠ none) → fp'.Nodup → (∀ a ∈ fp', a ∈ fp ∨ H a = none) →
        (∀ ow', (∀ a, ow' a → owOf c fT fV a ∨ H a = none) → RO c.K ow' H' d' sh v fp') → ∃ fV', RX c fT fV' T σ (e.set i (some d')) H' := by
  obtain ⟨f1, fp, f2, x, y, a1, a2, a3, a4, a5⟩ := h.vr.split hM
  subst a3
  rw [hd] at a2
  cases a2
  obtain ⟨v, rfl, ro⟩ := a4
  have n := h.nd
  have hsub : ∀ a ∈ fp, a ∈ fT ++ (f1 ++ (fp ++ f2)) := fun a z => by simp [z]
  have nd1 : (fp ++ (fT ++ (f1 ++ f2))).Nodup := by
    have p1 : List.Perm (fT ++ (f1 ++ (fp ++ f2))) (fp ++ (fT ++ (f1 ++ f2))) := by
      rw [List.perm_iff_count]
      intro a
      simp only [List.count_append]
      omega
    exact p1.nodup n
  obtain ⟨nf, nr, nx⟩ := List.nodup_append.mp nd1
  refine ⟨v, fp, a1, ro, hsub, nf, fun H' d' fp' hk hT hal nd' hf' hro => ⟨f1 ++ (fp' ++ f2), ?_⟩⟩
  have how : ∀ a, owOf c fT (f1 ++ (fp' ++ f2)) a → owOf c fT (f1 ++ (fp ++ f2)) a ∨ H a = none := fun a z => by
    rcases z with z | z
    · simp only [List.mem_append] at z
      rcases z with z | z | z | z
      · exact .inl (.inl (by simp [z]))
      · exact .inl (.inl (by simp [z]))
      · rcases hf' a z with q | q
        · exact .inl (.inl (by simp [q]))
        · exact .inr q
      · exact .inl (.inl (by simp [z]))
    · exact .inl (.inr z)
  have kow : ∀ b o, H b = some o → ¬ owOf c fT (f1 ++ (fp ++ f2)) b → H' b = some o := fun b o q n => hk b o q fun z => n (.inl (hsub b z))
  have koth : ∀ b ∈ fT ++ (f1 ++ f2), ∀ o, H b = some o → H' b = some o := fun b z o q => hk b o q fun y => nx b y b z rfl
  have hs : σ.set i (some v) = σ := by
    apply List.ext_getElem?
    intro j
    by_cases e : i = j
    · subst e
      rw [a1]
      have : i < σ.length := (List.getElem?_eq_some_iff.mp a1).1
      simp [this]
    · rw [List.getElem?_set_ne e]
  have vr' := a5 (H' := H') (ow' := owOf c fT (f1 ++ (fp' ++ f2))) (x' := some v) (y' := some d') (fp' := fp') kow hT how (fun b z => koth b (List.mem_append_right _ z)) ⟨v, rfl, hro _ how⟩
  rw [hs] at vr'
  refine ⟨h.tm.fr kow hT how (fun b z => koth b (List.mem_append_left _ z)), vr', ?_, fun a z => ?_, fun b o q n => ?_, h.tp.trans hT, fun b q => hal b (h.al b q), h.ok, h.rt⟩
  · have nn : (fp' ++ (fT ++ (f1 ++ f2))).Nodup := List.nodup_append.mpr ⟨nd', nr, fun a z b y q => by
      subst q
      rcases hf' a z with q | q
      · exact nx a q a y rfl
      · obtain ⟨o, w, _⟩ := h.at a (by
          simp only [List.mem_append] at y ⊢
          rcases y with y | y | y <;> simp [y])
        rw [q] at w
        cases w⟩
    have p1 : List.Perm (fp' ++ (fT ++ (f1 ++ f2))) (fT ++ (f1 ++ (fp' ++ f2))) := by
      rw [List.perm_iff_count]
      intro a
      simp only [List.count_append]
      omega
    exact p1.nodup nn
  · simp only [List.mem_append] at z
    rcases z with z | z | z | z
    · exact h.fr a (by simp [z])
    · exact h.fr a (by simp [z])
    · rcases hf' a z with q | q
      · exact h.fr a (by simp [q])
      · exact .inr (h.new q).2
    · exact h.fr a (by simp [z])
  · refine hk b o (h.kp b o q n) fun z => ?_
    rcases h.fr b (hsub b z) with y | y
    · exact n y
    · rw [y] at q
      cases q
/-- a name that is only read -/
theorem RX.var {i : Nat} {d : D} (h : RX c fT fV T σ e H) (hM : c.M[i]? = some .s) (hd : e[i]? = some (some d)) : ∃ v, σ[i]? = some (some v) ∧ RS c.K (owOf c fT fV) H d v := by
  obtain ⟨v, fp, a1, ro, _⟩ := h.upd hM hd
  exact ⟨v, a1, (RO_s.mp ro).2⟩
end
end VL
set_option Elab.async false
set_option linter.all false
set_option maxRecDepth 100000
set_option maxHeartbeats 2000000
namespace VL
open PySem PySem.Spec PyProof.Rows L2
/-! ### readings over data -/
structure Exn where
  C : Addr
  fs : List Str
  ds : List D
abbrev QV := D → Env → Prop
abbrev QX := Exn → Env → Prop
abbrev VT := Env → QV → QX → Prop
abbrev VTB := Env → (Bool → Env → Prop) → QX → Prop
abbrev VTA := Env → (List D → Env → Prop) → QX → Prop
abbrev VTO := Env → (Option Int → Env → Prop) → QX → Prop
structure VEnds where
  nx : Env → Prop
  rt : D → Env → Prop
  bk : Env → Prop
  ct : Env → Prop
  ex : QX
abbrev VTS := VEnds → Env → Prop
abbrev XW := Value → Option Addr → L2.St → Hp → Prop
def scV : D → V
  | .bl b => .bl b
  | .int i => .int i
  | .str s => .str s
  | _ => .non
def isSc : D → Bool
  | .non | .bl _ | .int _ | .str _ => true
  | _ => false
def XAt (H : Hp) (x : Exn) (d : Option Addr) : Prop := (x.fs = [] ∧ x.ds = [] ∧ d = none) ∨ ∃ dd, d = some dd ∧ H dd = some (.xd (x.fs.zip (x.ds.map scV))) ∧ x.fs.length = x.ds.length ∧ x.ds.all isSc = true
inductive Md | n | e
def Post (m : Md) (H H' : Hp) (e e' : Env) : Prop := m = .n → Same H H'
theorem Post.refl (m : Md) (H : Hp) (e : Env) : Post m H H e e := fun _ => fun _ _ q => q
theorem Post.trans {m : Md} {H H1 H2 : Hp} {e e1 e2 : Env} (a : Post m H H1 e e1) (b : Post m H1 H2 e1 e2) : Post m H H2 e e2 := fun q => (a q).trans (b q)
theorem Post.same {m : Md} {H H' : Hp} {e e' : Env} (s : Same H H') : Post m H H' e e' := fun _ => s
theorem Post.e {H H' : Hp} {e e' : Env} : Post .e H H' e e' := fun q => by cases q
def VE (c : Vc) (W : XW) (m : Md) (te : TE) (sh : Sh) (f : VT) : Prop := ∀ (T : List Tm) (σ : L2.St) (e : Env) (H : Hp) (Q : VK) (Qv : QV) (Qx : QX), R c T σ e H → f e Qv Qx →
  (∀ v d e' H', R c ((sh, v, d) :: T) σ e' H' → Post m H H' e e' → Qv d e' → Q v H') → (∀ x d e' H', R c T σ e' H' → XAt H' x d → Qx x e' → W (.ref x.C) d σ H') → te σ H Q
/-- read on the spot: what is on top may be one's own, what is in it nobody changes -/
def RB (K : PySem.W.Frag) (ow : Addr → Prop) (H : Hp) : D → V → Prop
  | .lst l, v => ∃ a vs, v = .ref a ∧ LsR K H a vs ∧ RSs K ow H l vs
  | .dct ks l, v => ∃ a vs, v = .ref a ∧ Rd H a (.dK (ks.zip vs)) ∧ ks.length = vs.length ∧ RSs K ow H l vs
  | .obj C fs l, v => ∃ a dx vs, v = .ref a ∧ H a = some (.ins C dx (fs.zip vs)) ∧ fs.length = vs.length ∧ RSs K ow H l vs
  | d, v => RS K ow H d v
theorem RS.b {K : PySem.W.Frag} {ow : Addr → Prop} {H : Hp} {d : D} {v : V} (h : RS K ow H d v) : RB K ow H d v := by
  cases d with
  | lst l =>
    simp only [RS] at h
    obtain ⟨a, vs, e, q, t⟩ := h
    exact ⟨a, vs, e, q.r, t⟩
  | dct ks l =>
    simp only [RS] at h
    obtain ⟨a, vs, e, q, _, n, t⟩ := h
    exact ⟨a, vs, e, q, n, t⟩
  | obj C fs l =>
    simp only [RS] at h
    obtain ⟨a, dx, vs, e, q, _, n, t⟩ := h
    exact ⟨a, dx, vs, e, q, n, t⟩
  | _ => exact h
def VB (c : Vc) (te : TE) (f : VT) : Prop := ∀ (fT fV : List Addr) (T : List Tm) (σ : L2.St) (e : Env) (H : Hp) (Q : VK) (Qv : QV) (Qx : QX), RX c fT fV T σ e H → f e Qv Qx → (∀ v d, RB c.K (owOf c fT fV) H d v → Qv d e → Q v H) → te σ H Q
def VQ (c : Vc) (te : TE) (f : VT) : Prop := ∀ (fT fV : List Addr) (T : List Tm) (σ : L2.St) (e : Env) (H : Hp) (Q : VK) (Qv : QV) (Qx : QX), RX c fT fV T σ e H → f e Qv Qx → (∀ v d, RS c.K (owOf c fT fV) H d v → Qv d e → Q v H) → te σ H Q
def VBt (c : Vc) (W : XW) (m : Md) (tt : TT) (f : VTB) : Prop := ∀ (T : List Tm) (σ : L2.St) (e : Env) (H : Hp) (Q : Bool → Hp → Prop) (Qv : Bool → Env → Prop) (Qx : QX), R c T σ e H → f e Qv Qx →
  (∀ b e' H', R c T σ e' H' → Post m H H' e e' → Qv b e' → Q b H') → (∀ x d e' H', R c T σ e' H' → XAt H' x d → Qx x e' → W (.ref x.C) d σ H') → tt σ H Q
def VA (c : Vc) (W : XW) (m : Md) (ta : TA) (f : VTA) : Prop := ∀ (T : List Tm) (σ : L2.St) (e : Env) (H : Hp) (Q : List V → Hp → Prop) (Qv : List D → Env → Prop) (Qx : QX), R c T σ e H → f e Qv Qx →
  (∀ fT fV vs ds e' H', RX c fT fV T σ e' H' → RSs c.K (owOf c fT fV) H' ds vs → Post m H H' e e' → Qv ds e' → Q vs H') → (∀ x d e' H', R c T σ e' H' → XAt H' x d → Qx x e' → W (.ref x.C) d σ H') → ta σ H Q
def VBA (c : Vc) (ta : TA) (f : VTA) : Prop := ∀ (fT fV : List Addr) (T : List Tm) (σ : L2.St) (e : Env) (H : Hp) (Q : List V → Hp → Prop) (Qv : List D → Env → Prop) (Qx : QX), RX c fT fV T σ e H → f e Qv Qx → (∀ vs ds, Paired (RB c.K (owOf c fT fV) H) ds vs → Qv ds e → Q vs H) → ta σ H Q
def VO (c : Vc) (W : XW) (m : Md) (to : TO) (f : VTO) : Prop := ∀ (T : List Tm) (σ : L2.St) (e : Env) (H : Hp) (Q : Option Int → Hp → Prop) (Qv : Option Int → Env → Prop) (Qx : QX), R c T σ e H → f e Qv Qx →
  (∀ o e' H', R c T σ e' H' → Post m H H' e e' → Qv o e' → Q o H') → (∀ x d e' H', R c T σ e' H' → XAt H' x d → Qx x e' → W (.ref x.C) d σ H') → to σ H Q
section
variable {c : Vc} {W : XW} {m : Md}
theorem RX.topS {fT fV : List Addr} {T : List Tm} {σ : L2.St} {e : Env} {H : Hp} {v : V} {d : D} (h : RX c fT fV ((.s, v, d) :: T) σ e H) : RS c.K (owOf c fT fV) H d v ∧ RX c fT fV T σ e H := by
  obtain ⟨f1, f2, e1, h1, h2⟩ := h.tm
  have h1 := RO_s.mp h1
  have z : f1 = [] := h1.1
  subst z
  have z : fT = f2 := e1
  subst z
  exact ⟨h1.2, h2, h.vr, h.nd, h.fr, h.kp, h.tp, h.al, h.ok, h.rt⟩
theorem VQ.b {te : TE} {f : VT} (h : VQ c te f) : VB c te f := fun fT fV T σ e H Q Qv Qx hR hf hq => h fT fV T σ e H Q Qv Qx hR hf fun v d r q => hq v d r.b q
theorem VQ.e {te : TE} {f : VT} (h : VQ c te f) : VE c W m te .s f := fun T σ e H Q Qv Qx ⟨fT, fV, hR⟩ hf hn hx => h fT fV T σ e H Q Qv Qx hR hf fun v d r q => hn v d e H ⟨fT, fV, hR.pushS r⟩ (Post.refl _ _ _) q
/-- whatever it is, from now on nobody changes it -/
theorem VE.s {te : TE} {sh : Sh} {f : VT} (h : VE c W m te sh f) : VE c W m te .s f := fun T σ e H Q Qv Qx hR hf hn hx => h T σ e H Q Qv Qx hR hf (fun v d e' H' r p q => hn v d e' H' r.let p q) hx
/-! names, constants -/
def vVar (i : Nat) : VT := fun e Q _ => ∃ d, e[i]? = some (some d) ∧ Q d e
def vC (d : D) : VT := fun e Q _ => Q d e
theorem q_var {i : Nat} (hM : c.M[i]? = some .s) : VQ c (tVar i) (vVar i) := fun fT fV T σ e H Q Qv Qx hR ⟨d, hd, q⟩ hn => by
  obtain ⟨v, hv, r⟩ := hR.var hM hd
  exact ⟨v, hv, hn v d r q⟩
theorem q_int {i : Int} : VQ c (tC (.int i)) (vC (.int i)) := fun fT fV T σ e H Q Qv Qx hR q hn => hn _ _ (by simp only [RS]) q
theorem q_str {x : Str} : VQ c (tC (.str x)) (vC (.str x)) := fun fT fV T σ e H Q Qv Qx hR q hn => hn _ _ (by simp only [RS]) q
theorem q_bl {b : Bool} : VQ c (tC (.bl b)) (vC (.bl b)) := fun fT fV T σ e H Q Qv Qx hR q hn => hn _ _ (by simp only [RS]) q
theorem q_non : VQ c (tC .non) (vC .non) := fun fT fV T σ e H Q Qv Qx hR q hn => hn _ _ (by simp only [RS]) q
/-- a name of one's own list, read on the spot -/
theorem RO.bl {K : PySem.W.Frag} {ow : Addr → Prop} {H : Hp} {d : D} {v : V} {fp : List Addr} (h : RO K ow H d (.l .s) v fp) : RB K ow H d v ∧ ∃ l, d = .lst l := by
  cases d with
  | lst l =>
    simp only [RO] at h
    obtain ⟨a, vs, fps, rfl, q, t, rfl⟩ := h
    have r : RSs K ow H l vs := by
      clear q
      induction l generalizing vs fps with
      | nil =>
        simp only [List.map_nil, ROs] at t
        rw [t.2.1]
        exact .nil
      | cons x r ih =>
        simp only [List.map_cons, ROs] at t
        obtain ⟨sh, shs', v, vs', f1, f2, e1, e2, e3, h1, h2⟩ := t
        cases e1
        subst e2
        exact .cons (RO_s.mp h1).2 (ih vs' f2 h2)
    exact ⟨⟨a, vs, rfl, .inl (.inl q), r⟩, l, rfl⟩
  | _ => simp only [RO] at h
theorem b_varL {i : Nat} (hM : c.M[i]? = some (.l .s)) : VB c (tVar i) (vVar i) := fun fT fV T σ e H Q Qv Qx hR ⟨d, hd, q⟩ hn => by
  obtain ⟨v, fp, hv, r, _⟩ := hR.upd hM hd
  exact ⟨v, hv, hn v d r.bl.1 q⟩
/-! operators -/
abbrev G2 := D → D → (D → Prop) → Prop
abbrev GA := List D → (D → Prop) → Prop
abbrev G2L := D → D → (List D → Prop) → Prop
abbrev GAL := List D → (List D → Prop) → Prop
def OpD (K : PySem.W.Frag) (r : R2) (g : G2) : Prop := ∀ (ow : Addr → Prop) (H : Hp) (x y : V) (dx dy : D) (Q : VK) (Qd : D → Prop), RB K ow H dx x → RB K ow H dy y → g dx dy Qd → (∀ z v, RS K ow H z v → Qd z → Q v H) → r x y H Q
def OpL (K : PySem.W.Frag) (r : R2) (g : G2L) : Prop := ∀ (ow : Addr → Prop) (H : Hp) (x y : V) (dx dy : D) (Q : VK) (Qd : List D → Prop), RB K ow H dx x → RB K ow H dy y → g dx dy Qd → (∀ zs vs p, RSs K ow H zs vs → Qd zs → H p = none → Q (.ref p) (upd H p (.lst vs))) → r x y H Q
def OpT (K : PySem.W.Frag) (r : R2) (g : G2L) : Prop := ∀ (ow : Addr → Prop) (H : Hp) (x y : V) (dx dy : D) (Q : VK) (Qd : List D → Prop), RB K ow H dx x → RB K ow H dy y → g dx dy Qd → (∀ zs vs p H', RSs K ow H zs vs → Qd zs → Same H H' → SqT K H' p vs → Q (.ref p) H') → r x y H Q
def CaD (K : PySem.W.Frag) (r : List V → Hp → VK → Prop) (g : GA) : Prop := ∀ (ow : Addr → Prop) (H : Hp) (vs : List V) (ds : List D) (Q : VK) (Qd : D → Prop), Paired (RB K ow H) ds vs → g ds Qd → (∀ z v, RS K ow H z v → Qd z → Q v H) → r vs H Q
def CaL (K : PySem.W.Frag) (r : List V → Hp → VK → Prop) (g : GAL) : Prop := ∀ (ow : Addr → Prop) (H : Hp) (vs : List V) (ds : List D) (Q : VK) (Qd : List D → Prop), Paired (RB K ow H) ds vs → g ds Qd → (∀ zs ws p, RSs K ow H zs ws → Qd zs → H p = none → Q (.ref p) (upd H p (.lst ws))) → r vs H Q
def CaT (K : PySem.W.Frag) (r : List V → Hp → VK → Prop) (g : GAL) : Prop := ∀ (ow : Addr → Prop) (H : Hp) (vs : List V) (ds : List D) (Q : VK) (Qd : List D → Prop), Paired (RB K ow H) ds vs → g ds Qd → (∀ zs ws p H', RSs K ow H zs ws → Qd zs → Same H H' → SqT K H' p ws → Q (.ref p) H') → r vs H Q
theorem RSs.pb {K : PySem.W.Frag} {ow : Addr → Prop} {H : Hp} : ∀ {ds : List D} {vs : List V}, RSs K ow H ds vs → Paired (RB K ow H) ds vs
  | [], _, h => by simp only [RSs] at h; rw [h]; exact .nil
  | d :: ds, _, h => by
    simp only [RSs] at h
    obtain ⟨v, r, rfl, h, t⟩ := h
    exact .cons h.b (RSs.pb t)
def vOp2 (g : G2) (fa fb : VT) : VT := fun e Q Qx => fa e (fun x e1 => fb e1 (fun y e2 => g x y fun z => Q z e2) Qx) Qx
def vOp2L (g : G2L) (fa fb : VT) : VT := fun e Q Qx => fa e (fun x e1 => fb e1 (fun y e2 => g x y fun z => Q (.lst z) e2) Qx) Qx
def vOp2T (g : G2L) (fa fb : VT) : VT := fun e Q Qx => fa e (fun x e1 => fb e1 (fun y e2 => g x y fun z => Q (.tup z) e2) Qx) Qx
def vCa (g : GA) (fa : VTA) : VT := fun e Q Qx => fa e (fun xs e1 => g xs fun z => Q z e1) Qx
def vCaL (g : GAL) (fa : VTA) : VT := fun e Q Qx => fa e (fun xs e1 => g xs fun z => Q (.lst z) e1) Qx
def vCaT (g : GAL) (fa : VTA) : VT := fun e Q Qx => fa e (fun xs e1 => g xs fun z => Q (.tup z) e1) Qx
variable {ta tb te : TE} {fa fb f : VT} {tA : TA} {fA : VTA}
/-- two values, one behind the other -/
theorem two (ha : VE c W m ta .s fa) (hb : VE c W m tb .s fb) {T : List Tm} {σ : L2.St} {e : Env} {H : Hp} {Q : V → V → Hp → Prop} {Qv : D → D → Env → Prop} {Qx : QX} (hR : R c T σ e H) (hf : fa e (fun x e1 => fb e1 (fun y e2 => Qv x y e2) Qx) Qx)
    (hn : ∀ fT fV x y dx dy e' H', RX c fT fV T σ e' H' → RS c.K (owOf c fT fV) H' dx x → RS c.K (owOf c fT fV) H' dy y → Post m H H' e e' → Qv dx dy e' → Q x y H') (hx : ∀ x d e' H', R c T σ e' H' → XAt H' x d → Qx x e' → W (.ref x.C) d σ H') :
    ta σ H fun x H1 => tb σ H1 fun y H2 => Q x y H2 := by
  refine ha T σ e H _ _ Qx hR hf (fun x dx e1 H1 R1 P1 h1 => ?_) hx
  refine hb ((.s, x, dx) :: T) σ e1 H1 _ _ Qx R1 h1 (fun y dy e2 H2 R2 P2 h2 => ?_) (fun xn d e' H' R' X' q' => hx xn d e' H' R'.pop X' q')
  obtain ⟨fT, fV, R2⟩ := R2
  obtain ⟨ry, R2⟩ := R2.topS
  obtain ⟨rx, R2⟩ := R2.topS
  exact hn fT fV x y dx dy e2 H2 R2 rx ry (P1.trans P2) h2
theorem v_op {r : R2} {g : G2} (ha : VE c W m ta .s fa) (hb : VE c W m tb .s fb) (ho : OpD c.K r g) : VE c W m (tOp r ta tb) .s (vOp2 g fa fb) := fun T σ e H Q Qv Qx hR hf hn hx =>
  two ha hb hR hf (fun fT fV x y dx dy e' H' hR rx ry p q => ho _ H' x y dx dy Q _ rx.b ry.b q fun z v rz qz => hn v z e' H' ⟨fT, fV, hR.pushS rz⟩ p qz) hx
theorem q_op {r : R2} {g : G2} (ha : VB c ta fa) (hb : VB c tb fb) (ho : OpD c.K r g) : VQ c (tOp r ta tb) (vOp2 g fa fb) := fun fT fV T σ e H Q Qv Qx hR hf hn =>
  ha fT fV T σ e H _ _ Qx hR hf fun x dx rx h1 => hb fT fV T σ e H _ _ Qx hR h1 fun y dy ry h2 => ho _ H x y dx dy Q _ rx ry h2 fun z v rz qz => hn v z rz qz
/-- a new list on top -/
theorem RX.newL {fT fV : List Addr} {T : List Tm} {σ : L2.St} {e : Env} {H : Hp} {p : Addr} {zs : List D} {vs : List V} (h : RX c fT fV T σ e H) (hp : H p = none) (r : RSs c.K (owOf c fT fV) H zs vs) : R c ((.l .s, .ref p, .lst zs) :: T) σ e (L2.upd H p (.lst vs)) := by
  refine ⟨[p] ++ fT, fV, h.pushO (same_new hp) (by simp) (fun a z => by rw [List.mem_singleton.mp z]; exact hp) ?_⟩
  simp only [RO]
  refine ⟨p, vs, [], rfl, upd_same, ?_, rfl⟩
  have r' : RSs c.K (owOf c ([p] ++ fT) fV) (L2.upd H p (.lst vs)) zs vs := RSs.fr (Fr.same (same_new hp)) (ow_grow (fp := [p]) (fun a z => by rw [List.mem_singleton.mp z]; exact hp)) _ _ r
  clear r
  generalize L2.upd H p (HO.lst vs) = H2 at r'
  generalize owOf c ([p] ++ fT) fV = ow at r'
  clear h hp
  induction zs generalizing vs with
  | nil =>
    simp only [RSs] at r'
    simp only [List.map_nil, ROs]
    exact ⟨trivial, r', trivial⟩
  | cons z zs ih =>
    simp only [RSs] at r'
    obtain ⟨v, w, rfl, h1, h2⟩ := r'
    simp only [List.map_cons, ROs]
    exact ⟨.s, _, v, w, [], [], rfl, rfl, rfl, RO_s.mpr ⟨rfl, h1⟩, ih h2⟩
theorem RX.newT {fT fV : List Addr} {T : List Tm} {σ : L2.St} {e : Env} {H H' : Hp} {p : Addr} {zs : List D} {vs : List V} (h : RX c fT fV T σ e H) (s : Same H H') (q : SqT c.K H' p vs) (r : RSs c.K (owOf c fT fV) H zs vs) : R c ((.s, .ref p, .tup zs) :: T) σ e H' := by
  refine ⟨fT, fV, (h.same s).pushS ?_⟩
  simp only [RS]
  exact ⟨p, vs, rfl, q, RSs.fr (Fr.same s) (fun _ z => .inl z) _ _ r⟩
theorem v_opL {r : R2} {g : G2L} (ha : VE c W m ta .s fa) (hb : VE c W m tb .s fb) (ho : OpL c.K r g) : VE c W m (tOp r ta tb) (.l .s) (vOp2L g fa fb) := fun T σ e H Q Qv Qx hR hf hn hx =>
  two ha hb hR hf (fun fT fV x y dx dy e' H' hR rx ry p q => ho _ H' x y dx dy Q _ rx.b ry.b q fun zs vs a rz qz ha => hn _ _ e' _ (hR.newL ha rz) (p.trans (Post.same (same_new ha))) qz) hx
theorem v_opLq {r : R2} {g : G2L} (ha : VB c ta fa) (hb : VB c tb fb) (ho : OpL c.K r g) : VE c W m (tOp r ta tb) (.l .s) (vOp2L g fa fb) := fun T σ e H Q Qv Qx ⟨fT, fV, hR⟩ hf hn hx =>
  ha fT fV T σ e H _ _ Qx hR hf fun x dx rx h1 => hb fT fV T σ e H _ _ Qx hR h1 fun y dy ry h2 => ho _ H x y dx dy Q _ rx ry h2 fun zs vs a rz qz ha => hn _ _ e _ (hR.newL ha rz) (Post.same (same_new ha)) qz
theorem v_opT {r : R2} {g : G2L} (ha : VE c W m ta .s fa) (hb : VE c W m tb .s fb) (ho : OpT c.K r g) : VE c W m (tOp r ta tb) .s (vOp2T g fa fb) := fun T σ e H Q Qv Qx hR hf hn hx =>
  two ha hb hR hf (fun fT fV x y dx dy e' H' hR rx ry p q => ho _ H' x y dx dy Q _ rx.b ry.b q fun zs vs a H2 rz qz s sq => hn _ _ e' _ (hR.newT s sq rz) (p.trans (Post.same s)) qz) hx
/-! arguments -/
def vNil : VTA := fun e Q _ => Q [] e
def vCons (fa : VT) (fr : VTA) : VTA := fun e Q Qx => fa e (fun x e1 => fr e1 (fun xs e2 => Q (x :: xs) e2) Qx) Qx
theorem va_nil : VA c W m tNil vNil := fun T σ e H Q Qv Qx ⟨fT, fV, hR⟩ hf hn hx => hn fT fV [] [] e H hR .nil (Post.refl _ _ _) hf
theorem va_cons (ha : VE c W m ta .s fa) (hr : VA c W m tA fA) : VA c W m (tCons ta tA) (vCons fa fA) := fun T σ e H Q Qv Qx hR hf hn hx => by
  refine ha T σ e H _ _ Qx hR hf (fun x dx e1 H1 R1 P1 h1 => ?_) hx
  refine hr ((.s, x, dx) :: T) σ e1 H1 _ _ Qx R1 h1 (fun fT fV vs ds e2 H2 R2 rs P2 h2 => ?_) (fun xn d e' H' R' X' q' => hx xn d e' H' R'.pop X' q')
  obtain ⟨rx, R2⟩ := R2.topS
  exact hn fT fV _ _ e2 H2 R2 (.cons rx rs) (P1.trans P2) h2
theorem vba_nil : VBA c tNil vNil := fun fT fV T σ e H Q Qv Qx hR hf hn => hn [] [] .nil hf
theorem vba_cons (ha : VB c ta fa) (hr : VBA c tA fA) : VBA c (tCons ta tA) (vCons fa fA) := fun fT fV T σ e H Q Qv Qx hR hf hn =>
  ha fT fV T σ e H _ _ Qx hR hf fun x dx rx h1 => hr fT fV T σ e H _ _ Qx hR h1 fun vs ds rs h2 => hn _ _ (.cons rx rs) h2
theorem v_ca {r : List V → Hp → VK → Prop} {g : GA} (ha : VA c W m tA fA) (ho : CaD c.K r g) : VE c W m (tCB r tA) .s (vCa g fA) := fun T σ e H Q Qv Qx hR hf hn hx =>
  ha T σ e H _ _ Qx hR hf (fun fT fV vs ds e1 H1 R1 rs p q => ho _ H1 vs ds Q _ rs.pb q fun z v rz qz => hn v z e1 H1 ⟨fT, fV, R1.pushS rz⟩ p qz) hx
theorem q_ca {r : List V → Hp → VK → Prop} {g : GA} (ha : VBA c tA fA) (ho : CaD c.K r g) : VQ c (tCB r tA) (vCa g fA) := fun fT fV T σ e H Q Qv Qx hR hf hn =>
  ha fT fV T σ e H _ _ Qx hR hf fun vs ds rs q => ho _ H vs ds Q _ rs q fun z v rz qz => hn v z rz qz
theorem v_caL {r : List V → Hp → VK → Prop} {g : GAL} (ha : VA c W m tA fA) (ho : CaL c.K r g) : VE c W m (tCB r tA) (.l .s) (vCaL g fA) := fun T σ e H Q Qv Qx hR hf hn hx =>
  ha T σ e H _ _ Qx hR hf (fun fT fV vs ds e1 H1 R1 rs p q => ho _ H1 vs ds Q _ rs.pb q fun zs ws a rz qz ha => hn _ _ e1 _ (R1.newL ha rz) (p.trans (Post.same (same_new ha))) qz) hx
theorem v_caLq {r : List V → Hp → VK → Prop} {g : GAL} (ha : VBA c tA fA) (ho : CaL c.K r g) : VE c W m (tCB r tA) (.l .s) (vCaL g fA) := fun T σ e H Q Qv Qx ⟨fT, fV, hR⟩ hf hn hx =>
  ha fT fV T σ e H _ _ Qx hR hf fun vs ds rs q => ho _ H vs ds Q _ rs q fun zs ws a rz qz ha => hn _ _ e _ (hR.newL ha rz) (Post.same (same_new ha)) qz
theorem v_caT {r : List V → Hp → VK → Prop} {g : GAL} (ha : VA c W m tA fA) (ho : CaT c.K r g) : VE c W m (tCB r tA) .s (vCaT g fA) := fun T σ e H Q Qv Qx hR hf hn hx =>
  ha T σ e H _ _ Qx hR hf (fun fT fV vs ds e1 H1 R1 rs p q => ho _ H1 vs ds Q _ rs.pb q fun zs ws a H2 rz qz s sq => hn _ _ e1 _ (R1.newT s sq rz) (p.trans (Post.same s)) qz) hx
theorem v_caTq {r : List V → Hp → VK → Prop} {g : GAL} (ha : VBA c tA fA) (ho : CaT c.K r g) : VE c W m (tCB r tA) .s (vCaT g fA) := fun T σ e H Q Qv Qx ⟨fT, fV, hR⟩ hf hn hx =>
  ha fT fV T σ e H _ _ Qx hR hf fun vs ds rs q => ho _ H vs ds Q _ rs q fun zs ws a H2 rz qz s sq => hn _ _ e _ (hR.newT s sq rz) (Post.same s) qz
/-! displays -/
def vTup (fA : VTA) : VT := fun e Q Qx => fA e (fun xs e1 => xs.length ≤ sizeLine ∧ Q (.tup xs) e1) Qx
def vLst (fA : VTA) : VT := fun e Q Qx => fA e (fun xs e1 => xs.length ≤ sizeLine ∧ Q (.lst xs) e1) Qx
theorem v_tup (ha : VA c W m tA fA) : VE c W m (tTup tA) .s (vTup fA) := fun T σ e H Q Qv Qx hR hf hn hx =>
  ha T σ e H _ _ Qx hR hf (fun fT fV vs ds e1 H1 R1 rs p ⟨hl, q⟩ => ⟨by rw [rs.len]; exact hl, fun a ha => hn _ _ e1 _ (R1.newT (same_new ha) (SqT.of upd_same) rs) (p.trans (Post.same (same_new ha))) q⟩) hx
theorem v_lst (ha : VA c W m tA fA) : VE c W m (tLst tA) (.l .s) (vLst fA) := fun T σ e H Q Qv Qx hR hf hn hx =>
  ha T σ e H _ _ Qx hR hf (fun fT fV vs ds e1 H1 R1 rs p ⟨hl, q⟩ => ⟨by rw [rs.len]; exact hl, fun a ha => hn _ _ e1 _ (R1.newL ha rs) (p.trans (Post.same (same_new ha))) q⟩) hx
/-! tests -/
def vTest (f : VT) : VTB := fun e Q Qx => f e (fun d e1 => ∃ b, d = .bl b ∧ Q b e1) Qx
theorem RS.bl_of {K : PySem.W.Frag} {ow : Addr → Prop} {H : Hp} {b : Bool} {v : V} (h : RS K ow H (.bl b) v) : v = .bl b := by simpa only [RS] using h
theorem vt_test (h : VE c W m te .s f) : VBt c W m (tTest te) (vTest f) := fun T σ e H Q Qv Qx hR hf hn hx =>
  h T σ e H _ _ Qx hR hf (fun v d e1 H1 R1 p ⟨b, hb, q⟩ => by
    subst hb
    obtain ⟨fT, fV, R1⟩ := R1
    obtain ⟨r, R1⟩ := R1.topS
    exact ⟨b, r.bl_of, hn b e1 H1 ⟨fT, fV, R1⟩ p q⟩) hx
theorem vt_b (h : VE c W m te .s f) : VBt c W m (tB te) (vTest f) := vt_test h
variable {t1 t2 : TT} {g1 g2 : VTB}
def vAnd (g1 g2 : VTB) : VTB := fun e Q Qx => g1 e (fun b e1 => if b = true then g2 e1 Q Qx else Q false e1) Qx
def vOr (g1 g2 : VTB) : VTB := fun e Q Qx => g1 e (fun b e1 => if b = true then Q true e1 else g2 e1 Q Qx) Qx
def vNot (g1 : VTB) : VTB := fun e Q Qx => g1 e (fun b e1 => Q (!b) e1) Qx
theorem vt_and (h1 : VBt c W m t1 g1) (h2 : VBt c W m t2 g2) : VBt c W m (tAnd t1 t2) (vAnd g1 g2) := fun T σ e H Q Qv Qx hR hf hn hx =>
  h1 T σ e H _ _ Qx hR hf (fun b e1 H1 R1 p q => by
    cases b with
    | true => exact h2 T σ e1 H1 Q Qv Qx R1 q (fun b2 e2 H2 R2 p2 q2 => hn b2 e2 H2 R2 (p.trans p2) q2) hx
    | false => exact hn false e1 H1 R1 p q) hx
theorem vt_or (h1 : VBt c W m t1 g1) (h2 : VBt c W m t2 g2) : VBt c W m (tOr t1 t2) (vOr g1 g2) := fun T σ e H Q Qv Qx hR hf hn hx =>
  h1 T σ e H _ _ Qx hR hf (fun b e1 H1 R1 p q => by
    cases b with
    | false => exact h2 T σ e1 H1 Q Qv Qx R1 q (fun b2 e2 H2 R2 p2 q2 => hn b2 e2 H2 R2 (p.trans p2) q2) hx
    | true => exact hn true e1 H1 R1 p q) hx
theorem vt_not (h1 : VBt c W m t1 g1) : VBt c W m (tNot t1) (vNot g1) := fun T σ e H Q Qv Qx hR hf hn hx =>
  h1 T σ e H _ _ Qx hR hf (fun b e1 H1 R1 p q => hn (!b) e1 H1 R1 p q) hx
def vIf (g1 : VTB) (fa fb : VT) : VT := fun e Q Qx => g1 e (fun b e1 => if b = true then fa e1 Q Qx else fb e1 Q Qx) Qx
theorem v_if {sh : Sh} (h1 : VBt c W m t1 g1) (ha : VE c W m ta sh fa) (hb : VE c W m tb sh fb) : VE c W m (tIf t1 ta tb) sh (vIf g1 fa fb) := fun T σ e H Q Qv Qx hR hf hn hx =>
  h1 T σ e H _ _ Qx hR hf (fun b e1 H1 R1 p q => by
    cases b with
    | true => exact ha T σ e1 H1 Q Qv Qx R1 q (fun v d e2 H2 R2 p2 q2 => hn v d e2 H2 R2 (p.trans p2) q2) hx
    | false => exact hb T σ e1 H1 Q Qv Qx R1 q (fun v d e2 H2 R2 p2 q2 => hn v d e2 H2 R2 (p.trans p2) q2) hx) hx
def vAndV (fa fb : VT) : VT := fun e Q Qx => fa e (fun x e1 => ∃ b, x = .bl b ∧ if b = true then fb e1 Q Qx else Q (.bl false) e1) Qx
def vOrV (fa fb : VT) : VT := fun e Q Qx => fa e (fun x e1 => ∃ b, x = .bl b ∧ if b = true then Q (.bl true) e1 else fb e1 Q Qx) Qx
def vNotV (fa : VT) : VT := fun e Q Qx => fa e (fun x e1 => ∃ b, x = .bl b ∧ Q (.bl (!b)) e1) Qx
theorem R.pushBl {T : List Tm} {σ : L2.St} {e : Env} {H : Hp} {b : Bool} (h : R c T σ e H) : R c ((.s, .bl b, .bl b) :: T) σ e H := by
  obtain ⟨fT, fV, h⟩ := h
  exact ⟨fT, fV, h.pushS (by simp only [RS])⟩
theorem R.topBl {T : List Tm} {σ : L2.St} {e : Env} {H : Hp} {b : Bool} {v : V} (h : R c ((.s, v, .bl b) :: T) σ e H) : v = .bl b ∧ R c T σ e H := by
  obtain ⟨fT, fV, h⟩ := h
  obtain ⟨r, h⟩ := h.topS
  exact ⟨r.bl_of, fT, fV, h⟩
theorem v_and (ha : VE c W m ta .s fa) (hb : VE c W m tb .s fb) : VE c W m (tAndV ta tb) .s (vAndV fa fb) := fun T σ e H Q Qv Qx hR hf hn hx =>
  ha T σ e H _ _ Qx hR hf (fun v d e1 H1 R1 p ⟨b, hb', q⟩ => by
    subst hb'
    obtain ⟨hv, R2⟩ := R1.topBl
    subst hv
    refine ⟨b, rfl, ?_⟩
    cases b with
    | true => exact hb T σ e1 H1 Q Qv Qx R2 q (fun v d e2 H2 R2 p2 q2 => hn v d e2 H2 R2 (p.trans p2) q2) hx
    | false => exact hn _ _ e1 H1 R2.pushBl p q) hx
theorem v_or (ha : VE c W m ta .s fa) (hb : VE c W m tb .s fb) : VE c W m (tOrV ta tb) .s (vOrV fa fb) := fun T σ e H Q Qv Qx hR hf hn hx =>
  ha T σ e H _ _ Qx hR hf (fun v d e1 H1 R1 p ⟨b, hb', q⟩ => by
    subst hb'
    obtain ⟨hv, R2⟩ := R1.topBl
    subst hv
    refine ⟨b, rfl, ?_⟩
    cases b with
    | false => exact hb T σ e1 H1 Q Qv Qx R2 q (fun v d e2 H2 R2 p2 q2 => hn v d e2 H2 R2 (p.trans p2) q2) hx
    | true => exact hn _ _ e1 H1 R2.pushBl p q) hx
theorem v_not (ha : VE c W m ta .s fa) : VE c W m (tNotV ta) .s (vNotV fa) := fun T σ e H Q Qv Qx hR hf hn hx =>
  ha T σ e H _ _ Qx hR hf (fun v d e1 H1 R1 p ⟨b, hb', q⟩ => by
    subst hb'
    obtain ⟨hv, R2⟩ := R1.topBl
    subst hv
    exact ⟨b, rfl, hn _ _ e1 H1 R2.pushBl p q⟩) hx
/-! slices -/
def vNo : VTO := fun e Q _ => Q none e
def vPart (f : VT) : VTO := fun e Q Qx => f e (fun d e1 => ∃ i, d = .int i ∧ Q (some i) e1) Qx
theorem vo_none : VO c W m tNoPart vNo := fun T σ e H Q Qv Qx hR hf hn hx => hn none e H hR (Post.refl _ _ _) hf
theorem vo_some (h : VE c W m te .s f) : VO c W m (tPart te) (vPart f) := fun T σ e H Q Qv Qx hR hf hn hx =>
  h T σ e H _ _ Qx hR hf (fun v d e1 H1 R1 p ⟨i, hi, q⟩ => by
    subst hi
    obtain ⟨fT, fV, R1⟩ := R1
    obtain ⟨r, R1⟩ := R1.topS
    simp only [RS] at r
    exact ⟨i, r, hn (some i) e1 H1 ⟨fT, fV, R1⟩ p q⟩) hx
abbrev RSl := V → Option Int → Option Int → Hp → VK → Prop
def SlD (K : PySem.W.Frag) (r : RSl) (g : D → Option Int → Option Int → (D → Prop) → Prop) : Prop := ∀ (ow : Addr → Prop) (H : Hp) (x : V) (dx : D) (lo hi : Option Int) (Q : VK) (Qd : D → Prop), RB K ow H dx x → g dx lo hi Qd → (∀ z v, RS K ow H z v → Qd z → Q v H) → r x lo hi H Q
def SlL (K : PySem.W.Frag) (r : RSl) (g : D → Option Int → Option Int → (List D → Prop) → Prop) : Prop := ∀ (ow : Addr → Prop) (H : Hp) (x : V) (dx : D) (lo hi : Option Int) (Q : VK) (Qd : List D → Prop), RB K ow H dx x → g dx lo hi Qd → (∀ zs vs p, RSs K ow H zs vs → Qd zs → H p = none → Q (.ref p) (upd H p (.lst vs))) → r x lo hi H Q
def SlT (K : PySem.W.Frag) (r : RSl) (g : D → Option Int → Option Int → (List D → Prop) → Prop) : Prop := ∀ (ow : Addr → Prop) (H : Hp) (x : V) (dx : D) (lo hi : Option Int) (Q : VK) (Qd : List D → Prop), RB K ow H dx x → g dx lo hi Qd → (∀ zs vs p H', RSs K ow H zs vs → Qd zs → Same H H' → SqT K H' p vs → Q (.ref p) H') → r x lo hi H Q
def vSl (g : D → Option Int → Option Int → (D → Prop) → Prop) (f : VT) (fl fh : VTO) : VT := fun e Q Qx => f e (fun x e1 => fl e1 (fun lo e2 => fh e2 (fun hi e3 => g x lo hi fun z => Q z e3) Qx) Qx) Qx
def vSlL (g : D → Option Int → Option Int → (List D → Prop) → Prop) (f : VT) (fl fh : VTO) : VT := fun e Q Qx => f e (fun x e1 => fl e1 (fun lo e2 => fh e2 (fun hi e3 => g x lo hi fun z => Q (.lst z) e3) Qx) Qx) Qx
def vSlT (g : D → Option Int → Option Int → (List D → Prop) → Prop) (f : VT) (fl fh : VTO) : VT := fun e Q Qx => f e (fun x e1 => fl e1 (fun lo e2 => fh e2 (fun hi e3 => g x lo hi fun z => Q (.tup z) e3) Qx) Qx) Qx
variable {tl th : TO} {fl fh : VTO}
theorem sl3 (h : VE c W m te .s f) (hl : VO c W m tl fl) (hh : VO c W m th fh) {T : List Tm} {σ : L2.St} {e : Env} {H : Hp} {Q : V → Option Int → Option Int → Hp → Prop} {Qv : D → Option Int → Option Int → Env → Prop} {Qx : QX} (hR : R c T σ e H)
    (hf : f e (fun x e1 => fl e1 (fun lo e2 => fh e2 (fun hi e3 => Qv x lo hi e3) Qx) Qx) Qx) (hn : ∀ fT fV x dx lo hi e' H', RX c fT fV T σ e' H' → RS c.K (owOf c fT fV) H' dx x → Post m H H' e e' → Qv dx lo hi e' → Q x lo hi H') (hx : ∀ x d e' H', R c T σ e' H' → XAt H' x d → Qx x e' → W (.ref x.C) d σ H') :
    te σ H fun x H1 => tl σ H1 fun lo H2 => th σ H2 fun hi H3 => Q x lo hi H3 := by
  refine h T σ e H _ _ Qx hR hf (fun x dx e1 H1 R1 P1 h1 => ?_) hx
  have hx' : ∀ xn d e' H', R c ((.s, x, dx) :: T) σ e' H' → XAt H' xn d → Qx xn e' → W (.ref xn.C) d σ H' := fun xn d e' H' R' X' q' => hx xn d e' H' R'.pop X' q'
  refine hl _ σ e1 H1 _ _ Qx R1 h1 (fun lo e2 H2 R2 P2 h2 => hh _ σ e2 H2 _ _ Qx R2 h2 (fun hi e3 H3 R3 P3 h3 => ?_) hx') hx'
  obtain ⟨fT, fV, R3⟩ := R3
  obtain ⟨rx, R3⟩ := R3.topS
  exact hn fT fV x dx lo hi e3 H3 R3 rx (P1.trans (P2.trans P3)) h3
theorem v_sl {r : RSl} {g : D → Option Int → Option Int → (D → Prop) → Prop} (h : VE c W m te .s f) (hl : VO c W m tl fl) (hh : VO c W m th fh) (ho : SlD c.K r g) : VE c W m (tSl r te tl th) .s (vSl g f fl fh) := fun T σ e H Q Qv Qx hR hf hn hx =>
  sl3 h hl hh hR hf (fun fT fV x dx lo hi e' H' R' rx p q => ho _ H' x dx lo hi Q _ rx.b q fun z v rz qz => hn v z e' H' ⟨fT, fV, R'.pushS rz⟩ p qz) hx
theorem v_slL {r : RSl} {g : D → Option Int → Option Int → (List D → Prop) → Prop} (h : VE c W m te .s f) (hl : VO c W m tl fl) (hh : VO c W m th fh) (ho : SlL c.K r g) : VE c W m (tSl r te tl th) (.l .s) (vSlL g f fl fh) := fun T σ e H Q Qv Qx hR hf hn hx =>
  sl3 h hl hh hR hf (fun fT fV x dx lo hi e' H' R' rx p q => ho _ H' x dx lo hi Q _ rx.b q fun zs vs a rz qz ha => hn _ _ e' _ (R'.newL ha rz) (p.trans (Post.same (same_new ha))) qz) hx
theorem v_slT {r : RSl} {g : D → Option Int → Option Int → (List D → Prop) → Prop} (h : VE c W m te .s f) (hl : VO c W m tl fl) (hh : VO c W m th fh) (ho : SlT c.K r g) : VE c W m (tSl r te tl th) .s (vSlT g f fl fh) := fun T σ e H Q Qv Qx hR hf hn hx =>
  sl3 h hl hh hR hf (fun fT fV x dx lo hi e' H' R' rx p q => ho _ H' x dx lo hi Q _ rx.b q fun zs vs a H2 rz qz s sq => hn _ _ e' _ (R'.newT s sq rz) (p.trans (Post.same s)) qz) hx
end
end VL
set_option Elab.async false
set_option linter.all false
set_option maxRecDepth 100000
set_option maxHeartbeats 2000000
namespace VL
open PySem PySem.Spec PyProof.Rows L2
/-! ### lists of whatever sort, put together -/
section
variable {X : Cx} {pins : List (Addr × Obj)} {σ : L2.St} {H : Hp} {s : Shared} {a : Addr} {xs : List V}
theorem lsR_at (I : Inv X pins σ H s) (h : LsR X.K H a xs) : xs.length ≤ sizeLine ∧ ∃ (its : List Value) (n : Nat), Vals xs its ∧ xs.length = its.length ∧ s.heap.get? a = some { cls := .type "list", data := .seq its.toArray n } := by
  rcases h with h | ⟨its, n, h, z, r⟩
  · obtain ⟨z, its, n, r, e⟩ := h.ok I.hok
    exact ⟨z, its, n, r, r.length, e⟩
  · exact ⟨by rw [r.length]; exact z, its, n, r, r.length, I.kIn a _ h⟩
def rCatR (K : PySem.W.Frag) : R2 := fun x y H Q => ∃ l b xs zs, x = .ref l ∧ y = .ref b ∧ LsR K H l xs ∧ LsR K H b zs ∧ xs.length + zs.length ≤ sizeLine ∧ ∀ p, H p = none → Q (.ref p) (upd H p (.lst (xs ++ zs)))
theorem catR (K0 : PySem.W.Frag) (hK : X.K = K0) : OpR X (binaryOp .Add) (rCatR K0) := by
  subst hK
  intro pins s σ H x y v u Q I rx ry h
  obtain ⟨l, b, xs, zs, rfl, rfl, hH, hB, hz, q⟩ := h
  cases rx
  cases ry
  obtain ⟨z, its, n, r, hl, e⟩ := lsR_at I hH
  obtain ⟨z2, its2, n2, r2, hl2, e2⟩ := lsR_at I hB
  refine PySem.P.add_list e e2 ?_ (by rw [List.size_toArray, List.size_toArray]; omega)
  have ea : its.toArray ++ its2.toArray = (its ++ its2).toArray := by simp
  rw [ea]
  exact ⟨.ref _, _, I.lnew (t' := s.toks) (r.append r2) (by rw [List.length_append]; omega), rfl, q _ I.fresh⟩
def rExtR (K : PySem.W.Frag) : V → List V → Hp → VK → Prop := fun x vs H Q => ∃ l b xs zs, x = .ref l ∧ vs = [.ref b] ∧ H l = some (.lst xs) ∧ LsR K H b zs ∧ xs.length + zs.length ≤ sizeLine ∧ Q .non (upd H l (.lst (xs ++ zs)))
theorem extR (K0 : PySem.W.Frag) (hK : X.K = K0) : MtM X "list.extend" (rExtR K0) := by
  subst hK
  intro pins s σ H x vs v us Q I rx rv h
  obtain ⟨l, b, xs, zs, rfl, rfl, hH, hB, hz, q⟩ := h
  cases rx
  obtain ⟨u, rfl, ru⟩ := rv.one
  cases ru
  obtain ⟨z, its, n, r, hl, e⟩ := I.lstM hH
  obtain ⟨z2, its2, n2, r2, hl2, e2⟩ := lsR_at I hB
  have hsz : its.toArray.size + its2.toArray.size ≤ sizeLine := by rw [List.size_toArray, List.size_toArray]; omega
  have hlong : ¬ (!its.toArray.isEmpty && Builtin.List.listTooLong (its.toArray.size + its2.toArray.size)) = true := by
    rw [notLongL hsz, Bool.and_false]
    exact Bool.false_ne_true
  refine call_meets F.slot_list_extend ⟨_, e, rfl⟩ F.entry_list_extend (F.args_list_extend_2 _ _)
    (AutoSeq1.list_extend_list_list_0 l its.toArray n b its2.toArray n2 hlong (by rw [List.size_toArray]; omega) (by omega)) ⟨e, e2, ?_⟩
  refine ⟨.non, _, I.lset (its' := its ++ its2) hH e (by simp) (r.append r2) ?_, rfl, q⟩
  rw [List.length_append]
  omega
/-- t + u, whatever they are -/
def rCatU (K : PySem.W.Frag) : R2 := fun x y H Q => ∃ a b xs ys, x = .ref a ∧ y = .ref b ∧ SqT K H a xs ∧ SqT K H b ys ∧ xs.length + ys.length ≤ sizeLine ∧ ∀ p H', SqT K H' p (xs ++ ys) → Same H H' → Q (.ref p) H'
theorem catU (K0 : PySem.W.Frag) (hK : X.K = K0) : OpR X (binaryOp .Add) (rCatU K0) := by
  subst hK
  intro pins s σ H x y v u Q I rx ry h
  obtain ⟨a, b, xs, ys, rfl, rfl, ha, hb, hz, q⟩ := h
  refine op_catA pins s σ H _ _ v u Q I rx ry ⟨a, b, xs, ys, rfl, rfl, ha, hb, hz, fun e => ?_, fun _ e => ?_, fun _ _ p np => q p _ (SqT.of upd_same) (same_new np)⟩
  · subst e
    exact q b H hb fun _ _ e => e
  · subst e
    exact q a H (by rw [List.append_nil]; exact ha) fun _ _ e => e
/-- t[lo:hi], whatever it is -/
def rSlU (K : PySem.W.Frag) : V → Option Int → Option Int → Hp → VK → Prop := fun x lo hi H Q => ∃ a xs, x = .ref a ∧ SqT K H a xs ∧ ∀ p H', SqT K H' p (cutV xs lo hi) → Same H H' → Q (.ref p) H'
theorem slU (K0 : PySem.W.Frag) (hK : X.K = K0) : SlR X (rSlU K0) := by
  subst hK
  intro pins s σ H x v vl vu lo hi sl Q I rx hs pl pu h
  obtain ⟨a, xs, rfl, hx, q⟩ := h
  refine sl_tupA pins s σ H _ v vl vu lo hi sl Q I rx hs pl pu ⟨a, xs, rfl, hx, fun e => q a H ?_ fun _ _ e => e, fun _ p np => q p _ (SqT.of upd_same) (same_new np)⟩
  unfold cutV
  rw [e.1, e.2, List.drop_zero, Nat.sub_zero, List.take_length]
  exact hx
end
/-! rules that name the written part (for the blocks of comprehensions) -/
section
variable {X : Cx} (K0 : PySem.W.Frag) (hK : X.K = K0)
include hK
theorem ixL : IxR X (rIxL K0) := by subst hK; exact ix_list
theorem ixT : IxR X (rIxT K0) := by subst hK; exact ix_tup
theorem slL : SlR X (rSlL K0) := by subst hK; exact sl_list
theorem lenK : CallR X (.builtin "len") (fun xs H Q => ∃ p ys, xs = [.ref p] ∧ (SqL K0 H p ys ∨ SqT K0 H p ys) ∧ Q (.int ys.length) H) := by subst hK; exact call_len_seq
theorem inK : OpR X (compareOp .In) (rIn K0 false) := by subst hK; exact op_in_seq
theorem notInK : OpR X (compareOp .NotIn) (rIn K0 true) := by subst hK; exact op_notIn_seq
theorem sumK (hc : X.calm = true) : CallR X (.builtin "sum") (rSum K0) := by subst hK; exact cr_sum hc
theorem allK (hc : X.calm = true) : CallR X (.builtin "all") (rAll K0) := by subst hK; exact cr_all hc
theorem anyK (hc : X.calm = true) : CallR X (.builtin "any") (rAny K0) := by subst hK; exact cr_any hc
theorem listK : CallR X (.type "list") (fun xs H Q => ∃ p ys, xs = [.ref p] ∧ (SqL K0 H p ys ∨ SqT K0 H p ys) ∧ ∀ l, H l = none → Q (.ref l) (upd H l (.lst ys))) := by subst hK; exact call_list_of
theorem tupleK : CallR X (.type "tuple") (fun xs H Q => ∃ p ys, xs = [.ref p] ∧ ((SqL K0 H p ys ∧ ∀ l, H l = none → Q (.ref l) (upd H l (.tup ys))) ∨ (SqT K0 H p ys ∧ Q (.ref p) H))) := by subst hK; exact call_tuple_of
theorem eqDK (hu : X.A.units + 64 < cLine) : OpR X (compareOp .Eq) (rEqD K0) := by subst hK; exact op_eqD hu
theorem neDK (hu : X.A.units + 64 < cLine) : OpR X (compareOp .NotEq) (rNeD K0) := by subst hK; exact op_neD hu
theorem inDK (hu : X.A.units + 65 < cLine) : OpR X (compareOp .In) (rInD K0) := by subst hK; exact op_inD hu
theorem notInDK (hu : X.A.units + 65 < cLine) : OpR X (compareOp .NotIn) (rNotInD K0) := by subst hK; exact op_notInD hu
theorem indexDK (hu : X.A.units + 65 < cLine) : MtR X "list.index" (rIndexD K0) := by subst hK; exact mt_indexD hu
theorem reprK (gd : X.A.guards = some []) (hu : X.A.units + 64 < cLine) : CallR X (.builtin "repr") (Fb.rReprD K0) := by subst hK; exact Fb.call_reprD gd hu
theorem piLK {tg l : Expr} {tl : TE} (hl : PE X l tl) : PI X tg l (iList K0 tl) := by subst hK; exact pi_list hl
theorem piTK {tg l : Expr} {tl : TE} (hl : PE X l tl) : PI X tg l (iTup K0 tl) := by subst hK; exact pi_tup hl
theorem fldK {e : Expr} {ta : TE} {f : Str} {pos : Pos} (he : PE X e ta) (hb : attributeBase e f X.env (eval e X.env) = eval e X.env) : PE X (.Attribute e f pos) (tFld K0 ta f) := by subst hK; exact pe_fld he hb
theorem tupTK {es : List Expr} {k : Nat} {pos : Pos} {n : Nat} {t : TGs} (hc : X.calm = true) (h : PGs X es t) (hn : (assignEach es X.env).length = n := by rfl) (hst : (assignEach es X.env).findIdx? (·.1) = none := by rfl) : PG X (.Tuple es k pos) (gTup K0 n t) := by subst hK; exact pg_tup hc h hn hst
end
/-! ### what is read off data -/
section
variable {K : PySem.W.Frag} {ow : Addr → Prop} {H : Hp} {x : V}
theorem RB.int {i : Int} (h : RB K ow H (.int i) x) : x = .int i := by simpa only [RB, RS] using h
theorem RB.str {i : Str} (h : RB K ow H (.str i) x) : x = .str i := by simpa only [RB, RS] using h
theorem RB.bl {i : Bool} (h : RB K ow H (.bl i) x) : x = .bl i := by simpa only [RB, RS] using h
theorem RB.non (h : RB K ow H .non x) : x = .non := by simpa only [RB, RS] using h
theorem RB.tup {l : List D} (h : RB K ow H (.tup l) x) : ∃ a vs, x = .ref a ∧ SqT K H a vs ∧ RSs K ow H l vs := by simpa only [RB, RS] using h
theorem RB.lst {l : List D} (h : RB K ow H (.lst l) x) : ∃ a vs, x = .ref a ∧ LsR K H a vs ∧ RSs K ow H l vs := h
theorem RB.dct {ks : List Key} {l : List D} (h : RB K ow H (.dct ks l) x) : ∃ a vs, x = .ref a ∧ Rd H a (.dK (ks.zip vs)) ∧ ks.length = vs.length ∧ RSs K ow H l vs := h
theorem rs_int {i : Int} : RS K ow H (.int i) (.int i) := by simp only [RS]
theorem rs_str {i : Str} : RS K ow H (.str i) (.str i) := by simp only [RS]
theorem rs_bl {i : Bool} : RS K ow H (.bl i) (.bl i) := by simp only [RS]
theorem rs_non : RS K ow H .non .non := by simp only [RS]
theorem RB.sc {d : D} (h : RB K ow H d x) (s : isSc d = true) : x = scV d := by
  cases d with
  | non => exact h.non
  | bl b => exact h.bl
  | int i => exact h.int
  | str z => exact h.str
  | _ => cases s
theorem rs_sc {d : D} (s : isSc d = true) : RS K ow H d (scV d) := by
  cases d with
  | non => exact rs_non
  | bl b => exact rs_bl
  | int i => exact rs_int
  | str z => exact rs_str
  | _ => cases s
theorem RSs.sc : ∀ {ds : List D} {vs : List V}, RSs K ow H ds vs → ds.all isSc = true → vs = ds.map scV
  | [], _, h, _ => by simp only [RSs] at h; rw [h]; rfl
  | d :: ds, _, h, s => by
    simp only [RSs] at h
    obtain ⟨v, r, rfl, h, t⟩ := h
    rw [List.all_cons, Bool.and_eq_true] at s
    rw [List.map_cons, RSs.sc t s.2, h.b.sc s.1]
theorem RSs.at {l : List D} {vs : List V} {i : Int} {d : D} (h : RSs K ow H l vs) (e : atI l i = some d) : ∃ v, atI vs i = some v ∧ RS K ow H d v := by
  unfold atI at e ⊢
  rw [h.len]
  cases q : ixN l.length i with
  | none =>
    rw [q] at e
    cases e
  | some j =>
    rw [q] at e
    exact h.get e
theorem RSs.cut {l : List D} {vs : List V} (h : RSs K ow H l vs) (lo hi : Option Int) : RSs K ow H ((l.drop (HT.sIx l.length 0 lo)).take (HT.sIx l.length l.length hi - HT.sIx l.length 0 lo)) (cutV vs lo hi) := by
  unfold cutV
  rw [h.len]
  exact (h.drop _).take _
end
def cuD (l : List D) (lo hi : Option Int) : List D := (l.drop (HT.sIx l.length 0 lo)).take (HT.sIx l.length l.length hi - HT.sIx l.length 0 lo)
/-! whole numbers, texts -/
def gI (C : Int → Int → Prop) (h : Int → Int → D) : G2
  | .int i, .int j, Q => C i j ∧ Q (h i j)
  | _, _, _ => False
def gI0 (h : Int → Int → D) : G2
  | .int i, .int j, Q => Q (h i j)
  | _, _, _ => False
section
variable {K : PySem.W.Frag}
theorem od_i {C : Int → Int → Prop} {k : Int → Int → Int} : OpD K (rI C fun i j => .int (k i j)) (gI C fun i j => .int (k i j)) := fun ow H x y dx dy Q Qd rx ry hg hn => by
  cases dx <;> first | exact hg.elim | skip
  cases dy <;> first | exact hg.elim | skip
  exact ⟨_, _, rx.int, ry.int, hg.1, hn _ _ rs_int hg.2⟩
theorem od_i0 {k : Int → Int → Int} : OpD K (rI0 fun i j => .int (k i j)) (gI0 fun i j => .int (k i j)) := fun ow H x y dx dy Q Qd rx ry hg hn => by
  cases dx <;> first | exact hg.elim | skip
  cases dy <;> first | exact hg.elim | skip
  exact ⟨_, _, rx.int, ry.int, hn _ _ rs_int hg⟩
theorem od_b0 {k : Int → Int → Bool} : OpD K (rI0 fun i j => .bl (k i j)) (gI0 fun i j => .bl (k i j)) := fun ow H x y dx dy Q Qd rx ry hg hn => by
  cases dx <;> first | exact hg.elim | skip
  cases dy <;> first | exact hg.elim | skip
  exact ⟨_, _, rx.int, ry.int, hn _ _ rs_bl hg⟩
def gAddS : G2
  | .str a, .str b, Q => a.length + b.length ≤ sizeLine ∧ Q (.str (a ++ b))
  | _, _, _ => False
theorem od_addS : OpD K (fun x y H Q => ∃ i j, x = .str i ∧ y = .str j ∧ i.length + j.length ≤ sizeLine ∧ Q (.str (i ++ j)) H) gAddS := fun ow H x y dx dy Q Qd rx ry hg hn => by
  cases dx <;> first | exact hg.elim | skip
  cases dy <;> first | exact hg.elim | skip
  exact ⟨_, _, rx.str, ry.str, hg.1, hn _ _ rs_str hg.2⟩
def gS (p : Str → Str → Bool) : G2
  | .str a, .str b, Q => Q (.bl (p a b))
  | _, _, _ => False
theorem od_s {p : Str → Str → Bool} : OpD K (fun x y H Q => ∃ i j, x = .str i ∧ y = .str j ∧ Q (.bl (p i j)) H) (gS p) := fun ow H x y dx dy Q Qd rx ry hg hn => by
  cases dx <;> first | exact hg.elim | skip
  cases dy <;> first | exact hg.elim | skip
  exact ⟨_, _, rx.str, ry.str, hn _ _ rs_bl hg⟩
def gSg (p : Nat → Str → Bool) : G2
  | .str a, .str b, Q => ∃ c, a = ⟨#[c]⟩ ∧ Q (.bl (p c b))
  | _, _, _ => False
theorem od_sg {p : Nat → Str → Bool} : OpD K (fun x y H Q => ∃ (c : Nat) (z : Str), x = .str ⟨#[c]⟩ ∧ y = .str z ∧ Q (.bl (p c z)) H) (gSg p) := fun ow H x y dx dy Q Qd rx ry hg hn => by
  cases dx <;> first | exact hg.elim | skip
  cases dy <;> first | exact hg.elim | skip
  obtain ⟨c, rfl, q⟩ := hg
  exact ⟨c, _, rx.str, ry.str, hn _ _ rs_bl q⟩
/-! ==, !=, is None -/
def scalD (x y : D) : Bool := isSc x && isSc y && scal (scV x) (scV y)
def eqD : D → D → Bool
  | .non, .non => true
  | .bl a, .bl b => decide (a = b)
  | .int a, .int b => decide (a = b)
  | .str a, .str b => decide (a = b)
  | _, _ => false
def gEq : G2 := fun x y Q => scalD x y = true ∧ Q (.bl (eqD x y))
def gNe : G2 := fun x y Q => scalD x y = true ∧ Q (.bl (!eqD x y))
theorem eqD_dec {x y : D} (h : scalD x y = true) : decide (scV x = scV y) = eqD x y := by
  unfold scalD at h
  rw [Bool.and_eq_true, Bool.and_eq_true] at h
  cases x <;> first | (simp [isSc] at h; done) | skip
  all_goals (cases y <;> first | (simp [isSc] at h; done) | simp [scV, eqD])
theorem od_eq : OpD K rEq gEq := fun ow H x y dx dy Q Qd rx ry hg hn => by
  obtain ⟨h, q⟩ := hg
  have z := h
  unfold scalD at z
  rw [Bool.and_eq_true, Bool.and_eq_true] at z
  rw [rx.sc z.1.1, ry.sc z.1.2]
  exact ⟨z.2, by rw [eqD_dec h]; exact hn _ _ rs_bl q⟩
theorem od_ne : OpD K rNe gNe := fun ow H x y dx dy Q Qd rx ry hg hn => by
  obtain ⟨h, q⟩ := hg
  have z := h
  unfold scalD at z
  rw [Bool.and_eq_true, Bool.and_eq_true] at z
  rw [rx.sc z.1.1, ry.sc z.1.2]
  exact ⟨z.2, by rw [eqD_dec h]; exact hn _ _ rs_bl q⟩
def isNon : D → Bool
  | .non => true
  | _ => false
theorem RB.isNon {ow : Addr → Prop} {H : Hp} {d : D} {x : V} (h : RB K ow H d x) : decide (x = .non) = VL.isNon d := by
  cases d with
  | non => rw [h.non]; rfl
  | bl b => rw [h.bl]; rfl
  | int i => rw [h.int]; rfl
  | str z => rw [h.str]; rfl
  | tup l => obtain ⟨a, vs, rfl, _⟩ := h.tup; rfl
  | lst l => obtain ⟨a, vs, rfl, _⟩ := h.lst; rfl
  | dct ks l => obtain ⟨a, vs, rfl, _⟩ := h.dct; rfl
  | obj C fs l =>
    obtain ⟨a, dx, vs, rfl, _⟩ := h
    rfl
def gIsN : G2
  | x, .non, Q => Q (.bl (isNon x))
  | _, _, _ => False
def gNotN : G2
  | x, .non, Q => Q (.bl (!isNon x))
  | _, _, _ => False
theorem od_isN : OpD K (fun x y H Q => y = .non ∧ Q (.bl (decide (x = .non))) H) gIsN := fun ow H x y dx dy Q Qd rx ry hg hn => by
  cases dy <;> first | (simp [gIsN] at hg; done) | skip
  exact ⟨ry.non, by rw [rx.isNon]; exact hn _ _ rs_bl (by simpa only [gIsN] using hg)⟩
theorem od_notN : OpD K (fun x y H Q => y = .non ∧ Q (.bl (!decide (x = .non))) H) gNotN := fun ow H x y dx dy Q Qd rx ry hg hn => by
  cases dy <;> first | (simp [gNotN] at hg; done) | skip
  exact ⟨ry.non, by rw [rx.isNon]; exact hn _ _ rs_bl (by simpa only [gNotN] using hg)⟩
/-! items -/
def gIxL : G2
  | .lst l, .int i, Q => ∃ d, atI l i = some d ∧ Q d
  | _, _, _ => False
def gIxT : G2
  | .tup l, .int i, Q => ∃ d, atI l i = some d ∧ Q d
  | _, _, _ => False
def gIxS : G2
  | .str z, .int i, Q => z.length ≤ sizeLine ∧ ∃ c, atI z.cps.toList i = some c ∧ Q (.str ⟨#[c]⟩)
  | _, _, _ => False
theorem od_ixL : OpD K (rIxL K) gIxL := fun ow H x y dx dy Q Qd rx ry hg hn => by
  cases dx <;> first | exact hg.elim | skip
  cases dy <;> first | exact hg.elim | skip
  obtain ⟨d, e, q⟩ := hg
  obtain ⟨a, vs, rfl, s, r⟩ := rx.lst
  obtain ⟨v, ev, rv⟩ := r.at e
  exact ⟨a, vs, _, v, rfl, ry.int, s.sq, ev, hn _ _ rv q⟩
theorem od_ixT : OpD K (rIxT K) gIxT := fun ow H x y dx dy Q Qd rx ry hg hn => by
  cases dx <;> first | exact hg.elim | skip
  cases dy <;> first | exact hg.elim | skip
  obtain ⟨d, e, q⟩ := hg
  obtain ⟨a, vs, rfl, s, r⟩ := rx.tup
  obtain ⟨v, ev, rv⟩ := r.at e
  exact ⟨a, vs, _, v, rfl, ry.int, s, ev, hn _ _ rv q⟩
theorem od_ixS : OpD K rIxS gIxS := fun ow H x y dx dy Q Qd rx ry hg hn => by
  cases dx <;> first | exact hg.elim | skip
  cases dy <;> first | exact hg.elim | skip
  obtain ⟨hz, c, e, q⟩ := hg
  exact ⟨_, _, c, rx.str, ry.int, hz, e, hn _ _ rs_str q⟩
/-! in, of flat things -/
def gIn (neg : Bool) : G2
  | x, .lst l, Q => isSc x = true ∧ l.all isSc = true ∧ Q (.bl (if neg then !inV (scV x) (l.map scV) else inV (scV x) (l.map scV)))
  | x, .tup l, Q => isSc x = true ∧ l.all isSc = true ∧ Q (.bl (if neg then !inV (scV x) (l.map scV) else inV (scV x) (l.map scV)))
  | _, _, _ => False
theorem flat_sc (d : D) : flatV (scV d) = true := by cases d <;> rfl
theorem flats_sc (l : List D) : (l.map scV).all flatV = true := by
  rw [List.all_eq_true]
  intro v hv
  obtain ⟨d, _, rfl⟩ := List.mem_map.mp hv
  exact flat_sc d
theorem od_in {neg : Bool} : OpD K (rIn K neg) (gIn neg) := fun ow H x y dx dy Q Qd rx ry hg hn => by
  cases dy <;> first | (simp only [gIn] at hg; done) | skip
  · simp only [gIn] at hg
    obtain ⟨h1, h2, q⟩ := hg
    obtain ⟨a, vs, rfl, s, r⟩ := ry.tup
    have e := r.sc h2
    subst e
    rw [rx.sc h1]
    exact ⟨a, _, rfl, .inr s, flat_sc _, flats_sc _, hn _ _ rs_bl q⟩
  · simp only [gIn] at hg
    obtain ⟨h1, h2, q⟩ := hg
    obtain ⟨a, vs, rfl, s, r⟩ := ry.lst
    have e := r.sc h2
    subst e
    rw [rx.sc h1]
    exact ⟨a, _, rfl, .inl s.sq, flat_sc _, flats_sc _, hn _ _ rs_bl q⟩
/-! lists, tuples put together, cut -/
def gCat : G2L
  | .lst a, .lst b, Q => a.length + b.length ≤ sizeLine ∧ Q (a ++ b)
  | _, _, _ => False
theorem ol_cat : OpL K (rCatR K) gCat := fun ow H x y dx dy Q Qd rx ry hg hn => by
  cases dx <;> first | exact hg.elim | skip
  cases dy <;> first | exact hg.elim | skip
  obtain ⟨a, vs, rfl, s, r⟩ := rx.lst
  obtain ⟨b, ws, rfl, s2, r2⟩ := ry.lst
  exact ⟨a, b, vs, ws, rfl, rfl, s, s2, by rw [r.len, r2.len]; exact hg.1, fun p hp => hn _ _ p (RSs.app r2 r) hg.2 hp⟩
def gCatT : G2L
  | .tup a, .tup b, Q => a.length + b.length ≤ sizeLine ∧ Q (a ++ b)
  | _, _, _ => False
theorem ot_cat : OpT K (rCatU K) gCatT := fun ow H x y dx dy Q Qd rx ry hg hn => by
  cases dx <;> first | exact hg.elim | skip
  cases dy <;> first | exact hg.elim | skip
  obtain ⟨a, vs, rfl, s, r⟩ := rx.tup
  obtain ⟨b, ws, rfl, s2, r2⟩ := ry.tup
  exact ⟨a, b, vs, ws, rfl, rfl, s, s2, by rw [r.len, r2.len]; exact hg.1, fun p H' sq sm => hn _ _ p H' (RSs.app r2 r) hg.2 sm sq⟩
def gSlL : D → Option Int → Option Int → (List D → Prop) → Prop
  | .lst l, lo, hi, Q => Q (cuD l lo hi)
  | _, _, _, _ => False
def gSlT : D → Option Int → Option Int → (List D → Prop) → Prop
  | .tup l, lo, hi, Q => Q (cuD l lo hi)
  | _, _, _, _ => False
def gSlS : D → Option Int → Option Int → (D → Prop) → Prop
  | .str z, lo, hi, Q => z.length ≤ sizeLine ∧ Q (.str (cutS z lo hi))
  | _, _, _, _ => False
theorem ol_sl : SlL K (rSlL K) gSlL := fun ow H x dx lo hi Q Qd rx hg hn => by
  cases dx <;> first | exact hg.elim | skip
  obtain ⟨a, vs, rfl, s, r⟩ := rx.lst
  exact ⟨a, vs, rfl, s.sq, fun p hp => hn _ _ p (r.cut lo hi) hg hp⟩
theorem ot_sl : SlT K (rSlU K) gSlT := fun ow H x dx lo hi Q Qd rx hg hn => by
  cases dx <;> first | exact hg.elim | skip
  obtain ⟨a, vs, rfl, s, r⟩ := rx.tup
  exact ⟨a, vs, rfl, s, fun p H' sq sm => hn _ _ p H' (r.cut lo hi) hg sm sq⟩
theorem od_sl : SlD K rSlS gSlS := fun ow H x dx lo hi Q Qd rx hg hn => by
  cases dx <;> first | exact hg.elim | skip
  exact ⟨_, rx.str, hg.1, hn _ _ rs_str hg.2⟩
/-! data of any depth -/
mutual
def py : D → PyData
  | .non => .none
  | .bl b => .bool b
  | .int i => .int i
  | .str s => .str s
  | .tup l => .tuple (pys l)
  | .lst l => .list (pys l)
  | .dct _ _ => .none
  | .obj _ _ _ => .none
def pys : List D → List PyData
  | [] => []
  | d :: ds => py d :: pys ds
end
mutual
def plain : D → Bool
  | .tup l => plains l
  | .lst l => plains l
  | .dct _ _ => false
  | .obj _ _ _ => false
  | _ => true
def plains : List D → Bool
  | [] => true
  | d :: ds => plain d && plains ds
end
theorem pys_map : ∀ l : List D, pys l = l.map py
  | [] => by rw [pys]; rfl
  | d :: r => by rw [pys, pys_map r]; rfl
mutual
theorem RS.dp {ow : Addr → Prop} {H : Hp} : ∀ (d : D) (v : V), RS K ow H d v → plain d = true → Dp K H v (py d)
  | .non, _, h, _ => by simp only [RS] at h; rw [h, py]; exact .non
  | .bl b, _, h, _ => by simp only [RS] at h; rw [h, py]; exact .bl b
  | .int i, _, h, _ => by simp only [RS] at h; rw [h, py]; exact .int i
  | .str s, _, h, _ => by simp only [RS] at h; rw [h, py]; exact .str s
  | .tup l, _, h, p => by
    simp only [RS] at h
    obtain ⟨a, vs, rfl, q, t⟩ := h
    rw [py]
    exact .tup q (RSs.dp l vs t (by simpa only [plain] using p))
  | .lst l, _, h, p => by
    simp only [RS] at h
    obtain ⟨a, vs, rfl, q, t⟩ := h
    rw [py]
    exact .lst q.sq (RSs.dp l vs t (by simpa only [plain] using p))
  | .dct _ _, _, _, p => by simp [plain] at p
  | .obj _ _ _, _, _, p => by simp [plain] at p
theorem RSs.dp {ow : Addr → Prop} {H : Hp} : ∀ (ds : List D) (vs : List V), RSs K ow H ds vs → plains ds = true → DpAll K H vs (pys ds)
  | [], _, h, _ => by simp only [RSs] at h; rw [h, pys]; exact .nil
  | d :: ds, _, h, p => by
    simp only [RSs] at h
    obtain ⟨v, r, rfl, h, t⟩ := h
    simp only [plains, Bool.and_eq_true] at p
    rw [pys]
    exact .cons (RS.dp d v h p.1) (RSs.dp ds r t p.2)
end
theorem RB.dp {ow : Addr → Prop} {H : Hp} {d : D} {v : V} (h : RB K ow H d v) (p : plain d = true) : Dp K H v (py d) := by
  cases d with
  | lst l =>
    obtain ⟨a, vs, rfl, s, r⟩ := h.lst
    rw [py]
    exact .lst s.sq (RSs.dp l vs r (by simpa only [plain] using p))
  | dct ks l => simp [plain] at p
  | obj C fs l => simp [plain] at p
  | non => exact RS.dp _ _ (by simpa only [RB] using h) p
  | bl b => exact RS.dp _ _ (by simpa only [RB] using h) p
  | int i => exact RS.dp _ _ (by simpa only [RB] using h) p
  | str z => exact RS.dp _ _ (by simpa only [RB] using h) p
  | tup l => exact RS.dp _ _ (by simpa only [RB] using h) p
def gEqD : G2 := fun x y Q => plain x = true ∧ plain y = true ∧ SeqAt.shaped (py x) = true ∧ SeqAt.shaped (py y) = true ∧ Q (.bl (PyData.eqv (py x) (py y)))
def gNeD : G2 := fun x y Q => plain x = true ∧ plain y = true ∧ SeqAt.shaped (py x) = true ∧ SeqAt.shaped (py y) = true ∧ Q (.bl (!PyData.eqv (py x) (py y)))
theorem od_eqD : OpD K (rEqD K) gEqD := fun ow H x y dx dy Q Qd rx ry ⟨h1, h2, h3, h4, q⟩ hn => ⟨_, _, rx.dp h1, ry.dp h2, h3, h4, hn _ _ rs_bl q⟩
theorem od_neD : OpD K (rNeD K) gNeD := fun ow H x y dx dy Q Qd rx ry ⟨h1, h2, h3, h4, q⟩ hn => ⟨_, _, rx.dp h1, ry.dp h2, h3, h4, hn _ _ rs_bl q⟩
def gInD (neg : Bool) : G2
  | x, .lst l, Q => plain x = true ∧ plains l = true ∧ SeqAt.shaped (py x) = true ∧ SeqAt.shaped (.list (pys l)) = true ∧ Q (.bl (if neg then !(pys l).any fun z => PyData.eqv z (py x) else (pys l).any fun z => PyData.eqv z (py x)))
  | _, _, _ => False
theorem od_inD : OpD K (rInD K) (gInD false) := fun ow H x y dx dy Q Qd rx ry hg hn => by
  cases dy <;> first | (simp only [gInD] at hg; done) | skip
  simp only [gInD] at hg
  obtain ⟨h1, h2, h3, h4, q⟩ := hg
  have z := ry.dp (by simpa only [plain] using h2)
  rw [py] at z
  exact ⟨_, _, rx.dp h1, z, h3, h4, hn _ _ rs_bl q⟩
theorem od_notInD : OpD K (rNotInD K) (gInD true) := fun ow H x y dx dy Q Qd rx ry hg hn => by
  cases dy <;> first | (simp only [gInD] at hg; done) | skip
  simp only [gInD] at hg
  obtain ⟨h1, h2, h3, h4, q⟩ := hg
  have z := ry.dp (by simpa only [plain] using h2)
  rw [py] at z
  exact ⟨_, _, rx.dp h1, z, h3, h4, hn _ _ rs_bl q⟩
/-! calls of builtins -/
def gLen : GA
  | [.lst l], Q => Q (.int l.length)
  | [.tup l], Q => Q (.int l.length)
  | _, _ => False
theorem pr1 {α β : Type} {F : α → β → Prop} {x : α} {ys : List β} (h : Paired F [x] ys) : ∃ y, ys = [y] ∧ F x y := by
  cases h with
  | cons a t => cases t; exact ⟨_, rfl, a⟩
theorem pr2 {α β : Type} {F : α → β → Prop} {x1 x2 : α} {ys : List β} (h : Paired F [x1, x2] ys) : ∃ y1 y2, ys = [y1, y2] ∧ F x1 y1 ∧ F x2 y2 := by
  cases h with
  | cons a t =>
    obtain ⟨y, rfl, b⟩ := pr1 t
    exact ⟨_, _, rfl, a, b⟩
theorem cd_len : CaD K (fun xs H Q => ∃ p ys, xs = [.ref p] ∧ (SqL K H p ys ∨ SqT K H p ys) ∧ Q (.int ys.length) H) gLen := fun ow H vs ds Q Qd rs hg hn => by
  unfold gLen at hg
  split at hg
  · obtain ⟨v, rfl, r⟩ := pr1 rs
    obtain ⟨a, ws, rfl, s, t⟩ := r.lst
    exact ⟨a, ws, rfl, .inl s.sq, hn _ _ (by rw [t.len]; exact rs_int) hg⟩
  · obtain ⟨v, rfl, r⟩ := pr1 rs
    obtain ⟨a, ws, rfl, s, t⟩ := r.tup
    exact ⟨a, ws, rfl, .inr s, hn _ _ (by rw [t.len]; exact rs_int) hg⟩
  · exact hg.elim
def gLenS : GA
  | [.str z], Q => z.length ≤ sizeLine ∧ Q (.int z.length)
  | _, _ => False
theorem cd_lenS : CaD K (fun xs H Q => ∃ z, xs = [.str z] ∧ z.length ≤ sizeLine ∧ Q (.int z.length) H) gLenS := fun ow H vs ds Q Qd rs hg hn => by
  unfold gLenS at hg
  split at hg
  · obtain ⟨v, rfl, r⟩ := pr1 rs
    exact ⟨_, by rw [r.str], hg.1, hn _ _ rs_int hg.2⟩
  · exact hg.elim
def gSum : GA
  | [.lst l], Q => ∃ ns : List Int, l = ns.map D.int ∧ Q (.int ns.sum)
  | _, _ => False
theorem ints_sc (ns : List Int) : (ns.map D.int).all isSc = true := by
  rw [List.all_eq_true]
  intro d hd
  obtain ⟨n, _, rfl⟩ := List.mem_map.mp hd
  rfl
theorem RSs.ints {ow : Addr → Prop} {H : Hp} {ns : List Int} {vs : List V} (h : RSs K ow H (ns.map D.int) vs) : vs = ns.map V.int := by
  rw [h.sc (ints_sc ns), List.map_map]
  rfl
theorem cd_sum : CaD K (rSum K) gSum := fun ow H vs ds Q Qd rs hg hn => by
  unfold gSum at hg
  split at hg
  · obtain ⟨ns, rfl, q⟩ := hg
    obtain ⟨v, rfl, r⟩ := pr1 rs
    obtain ⟨a, ws, rfl, s, t⟩ := r.lst
    have e := t.ints
    subst e
    exact ⟨a, ns, rfl, s.sq, hn _ _ rs_int q⟩
  · exact hg.elim
def gI1 (h : Int → D) : GA
  | [.int i], Q => Q (h i)
  | _, _ => False
def gI2 (h : Int → Int → D) : GA
  | [.int i, .int j], Q => Q (h i j)
  | _, _ => False
theorem cd_i2 {k : Int → Int → Int} : CaD K (fun xs H Q => ∃ i j, xs = [.int i, .int j] ∧ Q (.int (k i j)) H) (gI2 fun i j => .int (k i j)) := fun ow H vs ds Q Qd rs hg hn => by
  unfold gI2 at hg
  split at hg
  · obtain ⟨v, w, rfl, r1, r2⟩ := pr2 rs
    exact ⟨_, _, by rw [r1.int, r2.int], hn _ _ rs_int hg⟩
  · exact hg.elim
def gInt1 : GA
  | [.int i], Q => Q (.int i)
  | [.bl b], Q => Q (.int (if b then 1 else 0))
  | _, _ => False
theorem cd_int1 : CaD K (fun xs H Q => (∃ i, xs = [.int i] ∧ Q (.int i) H) ∨ ∃ k, xs = [.bl k] ∧ Q (.int (if k then 1 else 0)) H) gInt1 := fun ow H vs ds Q Qd rs hg hn => by
  unfold gInt1 at hg
  split at hg
  · obtain ⟨v, rfl, r⟩ := pr1 rs
    exact .inl ⟨_, by rw [r.int], hn _ _ rs_int hg⟩
  · obtain ⟨v, rfl, r⟩ := pr1 rs
    exact .inr ⟨_, by rw [r.bl], hn _ _ rs_int hg⟩
  · exact hg.elim
def gStrI : GA
  | [.int i], Q => i.natAbs.log2 < 1920 ∧ Q (.str (toString i))
  | _, _ => False
theorem cd_strI : CaD K (fun xs H Q => ∃ i, xs = [.int i] ∧ i.natAbs.log2 < 1920 ∧ Q (.str (toString i)) H) gStrI := fun ow H vs ds Q Qd rs hg hn => by
  unfold gStrI at hg
  split at hg
  · obtain ⟨v, rfl, r⟩ := pr1 rs
    exact ⟨_, by rw [r.int], hg.1, hn _ _ rs_str hg.2⟩
  · exact hg.elim
def gAll : GA
  | [.lst l], Q => ∃ bs : List Bool, l = bs.map D.bl ∧ Q (.bl (bs.all id))
  | _, _ => False
theorem RSs.bls {ow : Addr → Prop} {H : Hp} {bs : List Bool} {vs : List V} (h : RSs K ow H (bs.map D.bl) vs) : vs = bs.map V.bl := by
  rw [h.sc (by
    rw [List.all_eq_true]
    intro d hd
    obtain ⟨n, _, rfl⟩ := List.mem_map.mp hd
    rfl), List.map_map]
  rfl
theorem cd_all : CaD K (rAll K) gAll := fun ow H vs ds Q Qd rs hg hn => by
  unfold gAll at hg
  split at hg
  · obtain ⟨bs, rfl, q⟩ := hg
    obtain ⟨v, rfl, r⟩ := pr1 rs
    obtain ⟨a, ws, rfl, s, t⟩ := r.lst
    have e := t.bls
    subst e
    exact ⟨a, bs, rfl, s.sq, hn _ _ rs_bl q⟩
  · exact hg.elim
def gRepr : GA
  | [d], Q => ((∃ l, d = .lst l) ∨ ∃ l, d = .tup l) ∧ plain d = true ∧ (py d).showable = true ∧ (py d).hasDict = false ∧ (py d).depth ≤ 60 ∧ (py d).shown.length ≤ sizeLine ∧ Q (.str (py d).shown)
  | _, _ => False
theorem cd_repr : CaD K (Fb.rReprD K) gRepr := fun ow H vs ds Q Qd rs hg hn => by
  unfold gRepr at hg
  split at hg
  · obtain ⟨h0, h1, h2, h3, h4, h5, q⟩ := hg
    obtain ⟨v, rfl, r⟩ := pr1 rs
    have z := r.dp h1
    have ev : ∃ a, v = .ref a := by
      rcases h0 with ⟨l, rfl⟩ | ⟨l, rfl⟩
      · obtain ⟨a, _, e, _⟩ := r.lst; exact ⟨a, e⟩
      · obtain ⟨a, _, e, _⟩ := r.tup; exact ⟨a, e⟩
    obtain ⟨a, rfl⟩ := ev
    exact ⟨a, _, rfl, z, h2, h3, h4, h5, hn _ _ rs_str q⟩
  · exact hg.elim
def gSeq : GAL
  | [.lst l], Q => Q l
  | [.tup l], Q => Q l
  | _, _ => False
theorem cl_list : CaL K (fun xs H Q => ∃ p ys, xs = [.ref p] ∧ (SqL K H p ys ∨ SqT K H p ys) ∧ ∀ l, H l = none → Q (.ref l) (upd H l (.lst ys))) gSeq := fun ow H vs ds Q Qd rs hg hn => by
  unfold gSeq at hg
  split at hg
  · obtain ⟨v, rfl, r⟩ := pr1 rs
    obtain ⟨a, ws, rfl, s, t⟩ := r.lst
    exact ⟨a, ws, rfl, .inl s.sq, fun l hl => hn _ _ l t hg hl⟩
  · obtain ⟨v, rfl, r⟩ := pr1 rs
    obtain ⟨a, ws, rfl, s, t⟩ := r.tup
    exact ⟨a, ws, rfl, .inr s, fun l hl => hn _ _ l t hg hl⟩
  · exact hg.elim
theorem ct_tuple : CaT K (fun xs H Q => ∃ p ys, xs = [.ref p] ∧ ((SqL K H p ys ∧ ∀ l, H l = none → Q (.ref l) (upd H l (.tup ys))) ∨ (SqT K H p ys ∧ Q (.ref p) H))) gSeq := fun ow H vs ds Q Qd rs hg hn => by
  unfold gSeq at hg
  split at hg
  · obtain ⟨v, rfl, r⟩ := pr1 rs
    obtain ⟨a, ws, rfl, s, t⟩ := r.lst
    exact ⟨a, ws, rfl, .inl ⟨s.sq, fun l hl => hn _ _ l _ t hg (same_new hl) (SqT.of upd_same)⟩⟩
  · obtain ⟨v, rfl, r⟩ := pr1 rs
    obtain ⟨a, ws, rfl, s, t⟩ := r.tup
    exact ⟨a, ws, rfl, .inr ⟨s, hn _ _ a H t hg (fun _ _ e => e) s⟩⟩
  · exact hg.elim
end
end VL
set_option Elab.async false
set_option linter.all false
set_option maxRecDepth 100000
set_option maxHeartbeats 2000000
namespace VL
open PySem PySem.Spec PyProof.Rows L2
/-! ### statements -/
structure Ln (c : Vc) (W : XW) (rsh : Sh) (T : List Tm) (D : Ends) (Dv : VEnds) : Prop where
  nx : ∀ σ e H, R c T σ e H → Dv.nx e → D.nx σ H
  rt : ∀ v d σ e H, R c ((rsh, v, d) :: T) σ e H → Dv.rt d e → D.rt v H
  bk : ∀ σ e H, R c T σ e H → Dv.bk e → D.bk σ H
  ct : ∀ σ e H, R c T σ e H → Dv.ct e → D.ct σ H
  ex : ∀ x d σ e H, R c T σ e H → XAt H x d → Dv.ex x e → W (.ref x.C) d σ H
def VS (c : Vc) (W : XW) (rsh : Sh) (ts : TS) (f : VTS) : Prop := ∀ (T : List Tm) (σ : L2.St) (e : Env) (H : Hp) (D : Ends) (Dv : VEnds), R c T σ e H → f Dv e → Ln c W rsh T D Dv → ts D σ H
section
variable {c : Vc} {W : XW} {m : Md} {rsh : Sh} {t u : TS} {f g : VTS} {te : TE} {fe : VT} {tt : TT} {ft : VTB}
def vSeq (f g : VTS) : VTS := fun D e => f { D with nx := g D } e
theorem vs_seq (h1 : VS c W rsh t f) (h2 : VS c W rsh u g) : VS c W rsh (tSeq t u) (vSeq f g) := fun T σ e H D Dv hR hf L =>
  h1 T σ e H _ { Dv with nx := g Dv } hR hf ⟨fun σ' e' H' r q => h2 T σ' e' H' D Dv r q L, L.rt, L.bk, L.ct, L.ex⟩
def vNext : VTS := fun D e => D.nx e
theorem vs_next : VS c W rsh tNext vNext := fun T σ e H D Dv hR hf L => L.nx σ e H hR hf
def vBreak : VTS := fun D e => D.bk e
def vCont : VTS := fun D e => D.ct e
theorem vs_break : VS c W rsh tBreak vBreak := fun T σ e H D Dv hR hf L => L.bk σ e H hR hf
theorem vs_cont : VS c W rsh tCont vCont := fun T σ e H D Dv hR hf L => L.ct σ e H hR hf
def vSet (i : Nat) (fe : VT) : VTS := fun D e => fe e (fun d e1 => D.nx (e1.set i (some d))) D.ex
theorem vs_set {i : Nat} {sh : Sh} (h : VE c W .e te sh fe) (hM : c.M[i]? = some sh) (hr : ∀ p ∈ c.rt, p.1 ≠ i) : VS c W rsh (tAsg te (gName i)) (vSet i fe) := fun T σ e H D Dv hR hf L =>
  h T σ e H _ _ Dv.ex hR hf (fun v d e1 H1 R1 _ q => L.nx _ _ H1 (R1.set hM hr) q) (fun x d e' H' r y q => L.ex x d σ e' H' r y q)
def vRet (fe : VT) : VTS := fun D e => fe e D.rt D.ex
theorem vs_ret (h : VE c W .e te rsh fe) : VS c W rsh (tRet te) (vRet fe) := fun T σ e H D Dv hR hf L =>
  h T σ e H _ _ Dv.ex hR hf (fun v d e1 H1 R1 _ q => L.rt v d σ e1 H1 R1 q) (fun x d e' H' r y q => L.ex x d σ e' H' r y q)
def vRetN : VTS := fun D e => D.rt .non e
theorem vs_retN : VS c W .s tRetN vRetN := fun T σ e H D Dv ⟨fT, fV, hR⟩ hf L => L.rt .non .non σ e H ⟨fT, fV, hR.pushS rs_non⟩ hf
def vDrop (fe : VT) : VTS := fun D e => fe e (fun _ e1 => D.nx e1) D.ex
theorem vs_drop {sh : Sh} (h : VE c W .e te sh fe) : VS c W rsh (tDrop te) (vDrop fe) := fun T σ e H D Dv hR hf L =>
  h T σ e H _ _ Dv.ex hR hf (fun v d e1 H1 R1 _ q => L.nx σ e1 H1 R1.pop q) (fun x d e' H' r y q => L.ex x d σ e' H' r y q)
def vIfS (ft : VTB) (f g : VTS) : VTS := fun D e => ft e (fun b e1 => if b = true then f D e1 else g D e1) D.ex
theorem vs_if (h : VBt c W .e tt ft) (h1 : VS c W rsh t f) (h2 : VS c W rsh u g) : VS c W rsh (tIfS tt t u) (vIfS ft f g) := fun T σ e H D Dv hR hf L =>
  h T σ e H _ _ Dv.ex hR hf (fun b e1 H1 R1 _ q => by
    cases b with
    | true => exact h1 T σ e1 H1 D Dv R1 q L
    | false => exact h2 T σ e1 H1 D Dv R1 q L) (fun x d e' H' r y q => L.ex x d σ e' H' r y q)
/-! while -/
def vWhileN (ft : VTB) (f : VTS) (D : VEnds) : Nat → Env → Prop
  | 0, _ => False
  | n + 1, e => ft e (fun b e1 => if b = true then f { D with nx := vWhileN ft f D n, ct := vWhileN ft f D n, bk := D.nx } e1 else D.nx e1) D.ex
def vWhile (ft : VTB) (f : VTS) : VTS := fun D e => ∃ n, vWhileN ft f D n e
theorem vs_while (h : VBt c W .e tt ft) (h1 : VS c W rsh t f) : VS c W rsh (tWhile tt t) (vWhile ft f) := fun T σ e H D Dv hR ⟨n, hn⟩ L => by
  refine ⟨fun k σ' H' => ∃ e', R c T σ' e' H' ∧ vWhileN ft f Dv k e', ⟨n, e, hR, hn⟩, ?_⟩
  rintro k σ1 H1 ⟨e1, R1, q1⟩
  cases k with
  | zero => exact q1.elim
  | succ k =>
    refine h T σ1 e1 H1 _ _ Dv.ex R1 q1 (fun b e2 H2 R2 _ q2 => ?_) (fun x d e' H' r y q => L.ex x d σ1 e' H' r y q)
    cases b with
    | false => exact L.nx σ1 e2 H2 R2 q2
    | true =>
      have nxt : ∀ σ' e' H', R c T σ' e' H' → vWhileN ft f Dv k e' → ∃ e', R c T σ' e' H' ∧ vWhileN ft f Dv k e' := fun σ' e' H' r q => ⟨e', r, q⟩
      exact ⟨fun σ' H' => ∃ e', R c T σ' e' H' ∧ vWhileN ft f Dv k e', fun σ' H' z => ⟨k, Nat.lt_succ_self k, z⟩, h1 T σ1 e2 H2 _ { Dv with nx := vWhileN ft f Dv k, ct := vWhileN ft f Dv k, bk := Dv.nx } R2 q2 ⟨nxt, L.rt, L.nx, nxt, L.ex⟩⟩
/-! what is walked -/
theorem RX.mem {fT fV : List Addr} {σ : L2.St} {e : Env} {H : Hp} {t : Tm} : ∀ {T : List Tm}, RX c fT fV T σ e H → t ∈ T → t.1 = .s → RS c.K (owOf c fT fV) H t.2.2 t.2.1 := fun {T} h ht hs => by
  have z : ∀ (T : List Tm) (fp : List Addr), RT c.K (owOf c fT fV) H T fp → t ∈ T → RS c.K (owOf c fT fV) H t.2.2 t.2.1 := fun T => by
    induction T with
    | nil => intro fp _ q; cases q
    | cons t0 T ih =>
      rintro fp ⟨f1, f2, e1, h1, h2⟩ q
      rcases List.mem_cons.mp q with q | q
      · subst q
        rw [hs] at h1
        exact (RO_s.mp h1).2
      · exact ih f2 h2 q
  exact z T fT h.tm ht
structure ItOk (c : Vc) (J : It) (hs : List Tm) (ds : List D) : Prop where
  sh : ∀ t ∈ hs, t.1 = .s
  go : ∀ fT fV T σ e H i, RX c fT fV T σ e H → (∀ t ∈ hs, t ∈ T) → i < ds.length → J.go i H
  yld : ∀ fT fV T σ e H i x H', RX c fT fV T σ e H → (∀ t ∈ hs, t ∈ T) → i < ds.length → J.yld i H x H' → H' = H ∧ ∃ d, ds[i]? = some d ∧ RS c.K (owOf c fT fV) H d x
  stop : ∀ fT fV T σ e H i, RX c fT fV T σ e H → (∀ t ∈ hs, t ∈ T) → ds.length ≤ i → J.stop i H
abbrev VTI := Env → (List D → Env → Prop) → QX → Prop
def VI (c : Vc) (W : XW) (m : Md) (wi : TI) (fi : VTI) : Prop := ∀ (T : List Tm) (σ : L2.St) (e : Env) (H : Hp) (Rk : It → Hp → Prop) (Qv : List D → Env → Prop) (Qx : QX), R c T σ e H → fi e Qv Qx →
  (∀ J hs ds e' H', ItOk c J hs ds → R c (hs ++ T) σ e' H' → Post m H H' e e' → Qv ds e' → Rk J H') → (∀ x d e' H', R c T σ e' H' → XAt H' x d → Qx x e' → W (.ref x.C) d σ H') → wi σ H Rk
def vLs (fe : VT) : VTI := fun e Q Qx => fe e (fun d e1 => ∃ l, d = .lst l ∧ Q l e1) Qx
def vTs (fe : VT) : VTI := fun e Q Qx => fe e (fun d e1 => ∃ l, d = .tup l ∧ Q l e1) Qx
theorem vi_list (h : VE c W m te .s fe) : VI c W m (iList c.K te) (vLs fe) := fun T σ e H Rk Qv Qx hR hf hn hx =>
  h T σ e H _ _ Qx hR hf (fun v d e1 H1 R1 p ⟨l, hl, q⟩ => by
    subst hl
    have key : ∀ fT fV T σ e H, RX c fT fV T σ e H → (∀ t ∈ [((.s, v, .lst l) : Tm)], t ∈ T) → ∃ a vs, v = .ref a ∧ LsS c.K (owOf c fT fV) H a vs ∧ RSs c.K (owOf c fT fV) H l vs := fun fT fV T σ e H hX hm => by
      have r := hX.mem (hm _ List.mem_cons_self) rfl
      simpa only [RS] using r
    obtain ⟨fT, fV, hX⟩ := R1
    obtain ⟨a, vs, rfl, s, r⟩ := key fT fV _ σ e1 H1 hX (fun t z => by rw [List.mem_singleton.mp z]; exact List.mem_cons_self)
    refine ⟨a, rfl, ⟨vs, s.sq⟩, hn (Itl c.K a) [(.s, .ref a, .lst l)] l e1 H1 ⟨fun t z => by rw [List.mem_singleton.mp z], ?_, ?_, ?_⟩ ⟨fT, fV, hX⟩ p q⟩
    · intro fT fV T σ e H i hX hm hi
      obtain ⟨a', vs, ea, s, r⟩ := key fT fV T σ e H hX hm
      cases ea
      have : i < vs.length := by rw [r.len]; exact hi
      exact ⟨vs, _, s.sq, List.getElem?_eq_getElem this⟩
    · rintro fT fV T σ e H i x H' hX hm hi ⟨rfl, hx⟩
      obtain ⟨a', vs, ea, s, r⟩ := key fT fV T σ e H' hX hm
      cases ea
      obtain ⟨d, e1, e2⟩ := r.getV (hx vs s.sq)
      exact ⟨rfl, d, e1, e2⟩
    · intro fT fV T σ e H i hX hm hi
      obtain ⟨a', vs, ea, s, r⟩ := key fT fV T σ e H hX hm
      cases ea
      exact ⟨vs, s.sq, by rw [r.len]; exact hi⟩) hx
theorem vi_tup (h : VE c W m te .s fe) : VI c W m (iTup c.K te) (vTs fe) := fun T σ e H Rk Qv Qx hR hf hn hx =>
  h T σ e H _ _ Qx hR hf (fun v d e1 H1 R1 p ⟨l, hl, q⟩ => by
    subst hl
    have key : ∀ fT fV T σ e H, RX c fT fV T σ e H → (∀ t ∈ [((.s, v, .tup l) : Tm)], t ∈ T) → ∃ a vs, v = .ref a ∧ SqT c.K H a vs ∧ RSs c.K (owOf c fT fV) H l vs := fun fT fV T σ e H hX hm => by
      have r := hX.mem (hm _ List.mem_cons_self) rfl
      simpa only [RS] using r
    obtain ⟨fT, fV, hX⟩ := R1
    obtain ⟨a, vs, rfl, s, r⟩ := key fT fV _ σ e1 H1 hX (fun t z => by rw [List.mem_singleton.mp z]; exact List.mem_cons_self)
    refine ⟨a, rfl, ⟨vs, s⟩, hn (Itt c.K a) [(.s, .ref a, .tup l)] l e1 H1 ⟨fun t z => by rw [List.mem_singleton.mp z], ?_, ?_, ?_⟩ ⟨fT, fV, hX⟩ p q⟩
    · intro fT fV T σ e H i hX hm hi
      obtain ⟨a', vs, ea, s, r⟩ := key fT fV T σ e H hX hm
      cases ea
      have : i < vs.length := by rw [r.len]; exact hi
      exact ⟨vs, _, s, List.getElem?_eq_getElem this⟩
    · rintro fT fV T σ e H i x H' hX hm hi ⟨rfl, hx⟩
      obtain ⟨a', vs, ea, s, r⟩ := key fT fV T σ e H' hX hm
      cases ea
      obtain ⟨d, e1, e2⟩ := r.getV (hx vs s)
      exact ⟨rfl, d, e1, e2⟩
    · intro fT fV T σ e H i hX hm hi
      obtain ⟨a', vs, ea, s, r⟩ := key fT fV T σ e H hX hm
      cases ea
      exact ⟨vs, s, by rw [r.len]; exact hi⟩) hx
def rngD (lo : Int) (n : Nat) : List D := (List.range n).map fun i => D.int (lo + (i : Nat))
theorem it_rng {lo : Int} {n : Nat} : ItOk c (Itr lo n) [] (rngD lo n) := by
  have hl : (rngD lo n).length = n := by simp [rngD]
  refine ⟨fun t z => (by cases z), fun fT fV T σ e H i _ _ hi => (by rw [hl] at hi; exact hi), ?_, fun fT fV T σ e H i _ _ hi => (by rw [hl] at hi; exact hi)⟩
  rintro fT fV T σ e H i x H' _ _ hi ⟨rfl, rfl⟩
  rw [hl] at hi
  refine ⟨rfl, .int (lo + i), ?_, rs_int⟩
  unfold rngD
  rw [List.getElem?_map, List.getElem?_range hi]
  rfl
variable {tA : TA} {fA : VTA}
def vRng1 (fA : VTA) : VTI := fun e Q Qx => fA e (fun ds e1 => ∃ j : Int, ds = [.int j] ∧ -(2 ^ 62) ≤ j ∧ j < 2 ^ 62 ∧ Q (rngD 0 j.toNat) e1) Qx
def vRng2 (fA : VTA) : VTI := fun e Q Qx => fA e (fun ds e1 => ∃ i j : Int, ds = [.int i, .int j] ∧ (-(2 ^ 62) ≤ i ∧ i < 2 ^ 62 ∧ -(2 ^ 62) ≤ j ∧ j < 2 ^ 62) ∧ Q (rngD i (j - i).toNat) e1) Qx
theorem RSs.i1 {K : PySem.W.Frag} {ow : Addr → Prop} {H : Hp} {i : Int} {vs : List V} (h : RSs K ow H [.int i] vs) : vs = [.int i] := by
  simp only [RSs, RS] at h
  obtain ⟨v, r, rfl, rfl, rfl⟩ := h
  rfl
theorem RSs.i2 {K : PySem.W.Frag} {ow : Addr → Prop} {H : Hp} {i j : Int} {vs : List V} (h : RSs K ow H [.int i, .int j] vs) : vs = [.int i, .int j] := by
  simp only [RSs, RS] at h
  obtain ⟨v, r, rfl, rfl, v2, r2, rfl, rfl, rfl⟩ := h
  rfl
theorem vi_rng1 (h : VA c W m tA fA) : VI c W m (iRng1 tA) (vRng1 fA) := fun T σ e H Rk Qv Qx hR hf hn hx =>
  h T σ e H _ _ Qx hR hf (fun fT fV vs ds e1 H1 R1 rs p ⟨j, hj, h1, h2, q⟩ => by
    subst hj
    exact ⟨j, rs.i1, h1, h2, hn _ [] _ e1 H1 it_rng ⟨fT, fV, R1⟩ p q⟩) hx
theorem vi_rng2 (h : VA c W m tA fA) : VI c W m (iRng2 tA) (vRng2 fA) := fun T σ e H Rk Qv Qx hR hf hn hx =>
  h T σ e H _ _ Qx hR hf (fun fT fV vs ds e1 H1 R1 rs p ⟨i, j, hj, h1, q⟩ => by
    subst hj
    exact ⟨i, j, rs.i2, h1, hn _ [] _ e1 H1 it_rng ⟨fT, fV, R1⟩ p q⟩) hx
def sgD (z : Str) : List D := z.cps.toList.map fun k => D.str ⟨#[k]⟩
def vSgs (fe : VT) : VTI := fun e Q Qx => fe e (fun d e1 => ∃ z, d = .str z ∧ Q (sgD z) e1) Qx
theorem it_str {z : Str} : ItOk c (Its z) [] (sgD z) := by
  have hl : (sgD z).length = z.cps.size := by simp [sgD]
  refine ⟨fun t y => (by cases y), fun fT fV T σ e H i _ _ hi => (by rw [hl] at hi; exact hi), ?_, fun fT fV T σ e H i _ _ hi => (by rw [hl] at hi; exact hi)⟩
  rintro fT fV T σ e H i x H' _ _ hi ⟨rfl, k, hk, rfl⟩
  refine ⟨rfl, .str ⟨#[k]⟩, ?_, rs_str⟩
  unfold sgD
  rw [List.getElem?_map, Array.getElem?_toList, hk]
  rfl
theorem vi_str (h : VE c W m te .s fe) : VI c W m (iStr te) (vSgs fe) := fun T σ e H Rk Qv Qx hR hf hn hx =>
  h T σ e H _ _ Qx hR hf (fun v d e1 H1 R1 p ⟨z, hz, q⟩ => by
    subst hz
    obtain ⟨fT, fV, R1⟩ := R1
    obtain ⟨r, R1⟩ := R1.topS
    simp only [RS] at r
    exact ⟨z, r, hn _ [] _ e1 H1 it_str ⟨fT, fV, R1⟩ p q⟩) hx
/-! targets -/
abbrev VTG := D → Env → (Env → Prop) → Prop
abbrev VTGs := List D → Env → (Env → Prop) → Prop
def pushR : List V → List D → List Tm → List Tm
  | x :: xs, d :: ds, T => (.s, x, d) :: pushR xs ds T
  | _, _, T => T
def VG (c : Vc) (tg : TG) (own : List Nat) (vg : VTG) : Prop := ∀ (T : List Tm) (σ : L2.St) (e : Env) (H : Hp) (x : V) (d : D) (Q : L2.St → Hp → Prop) (Qv : Env → Prop), R c ((.s, x, d) :: T) σ e H → vg d e Qv →
  (∀ σ' e', R c T σ' e' H → (∀ vs : List Nat, (∀ i ∈ own, i ∈ vs) → wipe σ' vs = wipe σ vs) → Qv e' → Q σ' H) → tg x σ H Q
def VGs (c : Vc) (tg : TGs) (own : List Nat) (vg : VTGs) : Prop := ∀ (T : List Tm) (σ : L2.St) (e : Env) (H : Hp) (xs : List V) (ds : List D) (Q : L2.St → Hp → Prop) (Qv : Env → Prop), xs.length = ds.length → R c (pushR xs ds T) σ e H → vg ds e Qv →
  (∀ σ' e', R c T σ' e' H → (∀ vs : List Nat, (∀ i ∈ own, i ∈ vs) → wipe σ' vs = wipe σ vs) → Qv e' → Q σ' H) → tg xs σ H Q
theorem wipe_get {σ : L2.St} {j : Nat} : ∀ {vs : List Nat}, (wipe σ vs)[j]? = if j ∈ vs then (if j < σ.length then some none else none) else σ[j]?
  | [] => by simp [wipe]
  | v :: vs => by
    unfold wipe
    by_cases e : v = j
    · subst e
      by_cases hl : v < σ.length
      · rw [List.getElem?_set_self (by rw [wipe_length]; exact hl)]
        simp [hl]
      · rw [List.getElem?_eq_none (by rw [List.length_set, wipe_length]; omega)]
        simp [hl]
    · rw [List.getElem?_set_ne e, wipe_get (vs := vs)]
      have : (j ∈ v :: vs) ↔ j ∈ vs := by
        simp only [List.mem_cons]
        exact ⟨fun h => h.elim (fun q => absurd q.symm e) id, .inr⟩
      by_cases hj : j ∈ vs
      · rw [if_pos hj, if_pos (this.mpr hj)]
      · rw [if_neg hj, if_neg (fun z => hj (this.mp z))]
theorem wipe_set {σ : L2.St} {i : Nat} {x : Option V} {vs : List Nat} (h : i ∈ vs) : wipe (σ.set i x) vs = wipe σ vs := by
  apply List.ext_getElem?
  intro j
  rw [wipe_get, wipe_get, List.length_set]
  by_cases e : j ∈ vs
  · rw [if_pos e, if_pos e]
  · rw [if_neg e, if_neg e, List.getElem?_set_ne (fun z => e (by rw [← z]; exact h))]
def vgName (i : Nat) : VTG := fun d e Q => Q (e.set i (some d))
theorem vg_name {i : Nat} (hM : c.M[i]? = some .s) (hr : ∀ p ∈ c.rt, p.1 ≠ i) : VG c (gName i) [i] (vgName i) := fun T σ e H x d Q Qv hR hv hn => hn _ _ (hR.set hM hr) (fun vs h => wipe_set (h i List.mem_cons_self)) hv
def vgNil : VTGs := fun ds e Q => ds = [] ∧ Q e
def vgCons (a : VTG) (r : VTGs) : VTGs
  | d :: ds, e, Q => a d e fun e1 => r ds e1 Q
  | _, _, _ => False
variable {tg : TG} {vg : VTG} {tgs : TGs} {vgs : VTGs} {own own2 : List Nat}
theorem vg_nil : VGs c gNil [] vgNil := fun T σ e H xs ds Q Qv hl hR ⟨hd, hv⟩ hn => by
  subst hd
  cases xs with
  | nil => exact ⟨rfl, hn σ e hR (fun _ _ => rfl) hv⟩
  | cons x xs => cases hl
theorem vg_cons (ha : VG c tg own vg) (hs : VGs c tgs own2 vgs) : VGs c (gCons tg tgs) (own ++ own2) (vgCons vg vgs) := fun T σ e H xs ds Q Qv hl hR hv hn => by
  cases ds with
  | nil => exact hv.elim
  | cons d ds =>
    cases xs with
    | nil => cases hl
    | cons x xs =>
      refine ⟨x, xs, rfl, ha (pushR xs ds T) σ e H x d _ _ hR hv fun σ1 e1 R1 w1 q1 => hs T σ1 e1 H xs ds Q Qv (Nat.succ.inj hl) R1 q1 fun σ2 e2 R2 w2 q2 => hn σ2 e2 R2 (fun vs h => ?_) q2⟩
      rw [w2 vs (fun i z => h i (List.mem_append_right _ z)), w1 vs (fun i z => h i (List.mem_append_left _ z))]
def vgTup (n : Nat) (r : VTGs) : VTG
  | .tup l, e, Q => l.length = n ∧ r l e Q
  | _, _, _ => False
theorem RX.pushR {fT fV : List Addr} {T : List Tm} {σ : L2.St} {e : Env} {H : Hp} (h : RX c fT fV T σ e H) : ∀ {ds : List D} {xs : List V}, RSs c.K (owOf c fT fV) H ds xs → RX c fT fV (VL.pushR xs ds T) σ e H
  | [], _, r => by simp only [RSs] at r; rw [r]; exact h
  | d :: ds, _, r => by
    simp only [RSs] at r
    obtain ⟨v, w, rfl, r1, r2⟩ := r
    exact (RX.pushR h r2).pushS r1
theorem vg_tup {n : Nat} (hs : VGs c tgs own vgs) : VG c (gTup c.K n tgs) own (vgTup n vgs) := fun T σ e H x d Q Qv hR hv hn => by
  cases d <;> first | exact hv.elim | skip
  obtain ⟨fT, fV, hR⟩ := hR
  obtain ⟨r, hR2⟩ := hR.topS
  simp only [RS] at r
  obtain ⟨a, vs, ex, s, r⟩ := r
  exact ⟨a, vs, ex, s, by rw [r.len]; exact hv.1, hs T σ e H vs _ Q Qv r.len ⟨fT, fV, hR2.pushR r⟩ hv.2 hn⟩
def vAsg (fe : VT) (vg : VTG) : VTS := fun D e => fe e (fun d e1 => vg d e1 D.nx) D.ex
theorem vs_asg (h : VE c W .e te .s fe) (hg : VG c tg own vg) : VS c W rsh (tAsg te tg) (vAsg fe vg) := fun T σ e H D Dv hR hf L =>
  h T σ e H _ _ Dv.ex hR hf (fun v d e1 H1 R1 _ q => hg T σ e1 H1 v d _ _ R1 q fun σ' e' R' _ q' => L.nx σ' e' H1 R' q') (fun x d e' H' r y q => L.ex x d σ e' H' r y q)
def vPar (i j : Nat) (fA : VTA) : VTS := fun D e => fA e (fun ds e1 => ∃ a b, ds = [a, b] ∧ D.nx ((e1.set i (some a)).set j (some b))) D.ex
theorem vs_par {i j : Nat} (h : VA c W .e tA fA) (hi : c.M[i]? = some .s) (hj : c.M[j]? = some .s) (ri : ∀ p ∈ c.rt, p.1 ≠ i) (rj : ∀ p ∈ c.rt, p.1 ≠ j) : VS c W rsh (tPar i j tA) (vPar i j fA) := fun T σ e H D Dv hR hf L =>
  h T σ e H _ _ Dv.ex hR hf (fun fT fV vs ds e1 H1 R1 rs _ ⟨a, b, hd, q⟩ => by
    subst hd
    simp only [RSs] at rs
    obtain ⟨v, r, rfl, ra, v2, r2, rfl, rb, rfl⟩ := rs
    have z : R c ((.s, v, a) :: (.s, v2, b) :: T) σ e1 H1 := ⟨fT, fV, (R1.pushS rb).pushS ra⟩
    exact ⟨v, v2, rfl, L.nx _ _ H1 ((z.set hi ri).set hj rj) q⟩) (fun x d e' H' r y q => L.ex x d σ e' H' r y q)
/-! for -/
def vForL (vg : VTG) (f : VTS) (V : VEnds) : List D → Env → Prop
  | [], e => V.nx e
  | d :: ds, e => vg d e fun e1 => f { V with nx := vForL vg f V ds, ct := vForL vg f V ds, bk := V.nx } e1
def vFor (fi : VTI) (vg : VTG) (f : VTS) : VTS := fun D e => fi e (fun ds e1 => vForL vg f D ds e1) D.ex
theorem R.drop2 {T : List Tm} {σ : L2.St} {e : Env} {H : Hp} {t : Tm} : ∀ {hs : List Tm}, R c (t :: (hs ++ T)) σ e H → R c (t :: T) σ e H
  | [], h => h
  | t2 :: hs, h => by
    refine R.drop2 (hs := hs) ?_
    obtain ⟨fT, fV, h⟩ := h
    obtain ⟨f1, g, e1, h1, f2, f3, e2, h2, h3⟩ := h.tm
    subst e1 e2
    have sub : ∀ a, a ∈ (f1 ++ f3) ++ fV → a ∈ (f1 ++ (f2 ++ f3)) ++ fV := fun a z => by
      simp only [List.mem_append] at z ⊢
      rcases z with (z | z) | z <;> simp [z]
    have how : ∀ a, owOf c (f1 ++ f3) fV a → owOf c (f1 ++ (f2 ++ f3)) fV a ∨ H a = none := fun a z => by
      rcases z with z | z
      · exact .inl (.inl (sub a z))
      · exact .inl (.inr z)
    refine ⟨f1 ++ f3, fV, ⟨f1, f3, rfl, RO.fr (fun _ _ q _ => q) (ExtT.refl H) how _ _ _ _ h1 (fun _ _ _ q => q), h3.fr (fun _ _ q _ => q) (ExtT.refl H) how (fun _ _ _ q => q)⟩, h.vr.fr (fun _ _ q _ => q) (ExtT.refl H) how (fun _ _ _ q => q), ?_, fun a z => h.fr a (sub a z), h.kp, h.tp, h.al, h.ok, h.rt⟩
    have p1 : List.Perm ((f1 ++ (f2 ++ f3)) ++ fV) (f2 ++ ((f1 ++ f3) ++ fV)) := by
      rw [List.perm_iff_count]
      intro a
      simp only [List.count_append]
      omega
    exact (List.nodup_append.mp (p1.nodup h.nd)).2.1
theorem R.drops {T : List Tm} {σ : L2.St} {e : Env} {H : Hp} : ∀ {hs : List Tm}, R c (hs ++ T) σ e H → R c T σ e H
  | [], h => h
  | _ :: hs, h => R.drops (hs := hs) h.pop
theorem vs_for {wi : TI} {fi : VTI} (hi : VI c W .e wi fi) (hg : VG c tg own vg) (hb : VS c W rsh t f) : VS c W rsh (tFor wi tg t) (vFor fi vg f) := fun T σ e H D Dv hR hf L => by
  refine hi T σ e H _ _ Dv.ex hR hf (fun J hs ds e1 H1 ok R1 _ q => ?_) (fun x d e' H' r y q => L.ex x d σ e' H' r y q)
  have hm : ∀ t ∈ hs, t ∈ hs ++ T := fun t z => List.mem_append_left _ z
  refine ⟨fun i k σ' H' => k = ds.length - i ∧ i ≤ ds.length ∧ ∃ e', R c (hs ++ T) σ' e' H' ∧ vForL vg f Dv (ds.drop i) e', ⟨ds.length, by simp, Nat.zero_le _, e1, R1, q⟩, ?_⟩
  rintro i k σ2 H2 ⟨rfl, hle, e2, ⟨fT, fV, R2⟩, q2⟩
  by_cases hlt : i < ds.length
  · refine .inr ⟨ok.go fT fV _ σ2 e2 H2 i R2 hm hlt, fun σ' H' => ∃ e', R c (hs ++ T) σ' e' H' ∧ vForL vg f Dv (ds.drop (i + 1)) e', fun σ' H' z => ⟨ds.length - (i + 1), by omega, rfl, hlt, z⟩, fun x H3 hy => ?_⟩
    obtain ⟨rfl, d, hd, rd⟩ := ok.yld fT fV _ σ2 e2 H2 i x H3 R2 hm hlt hy
    have ed : ds.drop i = d :: ds.drop (i + 1) := by
      rw [List.drop_eq_getElem_cons hlt]
      rw [List.getElem?_eq_getElem hlt] at hd
      cases hd
      rfl
    rw [ed] at q2
    refine hg (hs ++ T) σ2 e2 H3 x d _ _ ⟨fT, fV, R2.pushS rd⟩ q2 fun σ3 e3 R3 _ q3 => ?_
    have nxt : ∀ σ' e' H', R c (hs ++ T) σ' e' H' → vForL vg f Dv (ds.drop (i + 1)) e' → ∃ e', R c (hs ++ T) σ' e' H' ∧ vForL vg f Dv (ds.drop (i + 1)) e' := fun σ' e' H' r q => ⟨e', r, q⟩
    exact hb (hs ++ T) σ3 e3 H3 _ { Dv with nx := vForL vg f Dv (ds.drop (i + 1)), ct := vForL vg f Dv (ds.drop (i + 1)), bk := Dv.nx } R3 q3 ⟨nxt, fun v d σ' e' H' r q => L.rt v d σ' e' H' r.drop2 q, fun σ' e' H' r q => L.nx σ' e' H' r.drops q, nxt, fun x d σ' e' H' r y q => L.ex x d σ' e' H' r.drops y q⟩
  · have e : i = ds.length := by omega
    subst e
    rw [List.drop_length] at q2
    exact .inl ⟨ok.stop fT fV _ σ2 e2 H2 _ R2 hm (Nat.le_refl _), L.nx σ2 e2 H2 (R.drops ⟨fT, fV, R2⟩) q2⟩
end
end VL
set_option Elab.async false
set_option linter.all false
set_option maxRecDepth 100000
set_option maxHeartbeats 2000000
namespace VL
open PySem PySem.Spec PyProof.Rows L2
def W0 : XW := fun _ _ _ _ => False
section
variable {K : PySem.W.Frag} {ow ow' : Addr → Prop} {H H' : Hp}
theorem ROs_s : ∀ {l : List D} {vs : List V} {fp : List Addr}, ROs K ow H l (l.map fun _ => .s) vs fp ↔ fp = [] ∧ RSs K ow H l vs
  | [], vs, fp => by
    simp only [List.map_nil, ROs, RSs]
    exact ⟨fun h => ⟨h.2.2, h.2.1⟩, fun h => ⟨trivial, h.2, h.1⟩⟩
  | d :: l, vs, fp => by
    simp only [List.map_cons, ROs, RSs]
    constructor
    · rintro ⟨sh, shs', v, vs', f1, f2, e1, e2, e3, h1, h2⟩
      cases e1
      have h1 := RO_s.mp h1
      have h2 := ROs_s.mp h2
      exact ⟨by rw [e3, h1.1, h2.1]; rfl, v, vs', e2, h1.2, h2.2⟩
    · rintro ⟨rfl, v, r, e, h1, h2⟩
      exact ⟨.s, _, v, r, [], [], rfl, e, rfl, RO_s.mpr ⟨rfl, h1⟩, ROs_s.mpr ⟨rfl, h2⟩⟩
theorem RO_l {d : D} {v : V} {fp : List Addr} : RO K ow H d (.l .s) v fp ↔ ∃ l a vs, d = .lst l ∧ v = .ref a ∧ H a = some (.lst vs) ∧ RSs K ow H l vs ∧ fp = [a] := by
  constructor
  · intro h
    cases d <;> first | (simp only [RO] at h; done) | skip
    simp only [RO] at h
    obtain ⟨a, vs, fps, e, q, t, ef⟩ := h
    have t := ROs_s.mp t
    exact ⟨_, a, vs, rfl, e, q, t.2, by rw [ef, t.1]⟩
  · rintro ⟨l, a, vs, rfl, rfl, q, t, rfl⟩
    simp only [RO]
    exact ⟨a, vs, [], rfl, q, ROs_s.mpr ⟨rfl, t⟩, rfl⟩
theorem RV.len : ∀ {M : List Sh} {σ : L2.St} {e : Env} {fp : List Addr}, RV K ow H M σ e fp → σ.length = M.length ∧ e.length = M.length
  | [], _, _, _, h => by rw [h.1, h.2.1]; exact ⟨rfl, rfl⟩
  | sh :: M, _, _, _, ⟨x, σ', y, e', f1, f2, e1, e2, e3, h1, h2⟩ => by
    subst e1 e2
    obtain ⟨a, b⟩ := RV.len h2
    exact ⟨by rw [List.length_cons, List.length_cons, a], by rw [List.length_cons, List.length_cons, b]⟩
theorem RV.agree : ∀ {M : List Sh} {σ1 σ : L2.St} {e : Env} {fp : List Addr}, RV K ow H M σ1 e fp → σ.length = σ1.length → (∀ (i : Nat) (d : D), e[i]? = some (some d) → σ[i]? = σ1[i]?) → RV K ow H M σ e fp
  | [], _, σ, _, _, ⟨a, b, c⟩, hl, _ => by
    subst a
    exact ⟨List.length_eq_zero_iff.mp hl, b, c⟩
  | sh :: M, _, σ, _, _, ⟨x, σ', y, e', f1, f2, e1, e2, e3, h1, h2⟩, hl, k => by
    subst e1 e2
    cases σ with
    | nil => cases hl
    | cons z σ =>
      refine ⟨z, σ, y, e', f1, f2, rfl, rfl, e3, ?_, RV.agree h2 (Nat.succ.inj hl) fun i d q => by simpa using k (i + 1) d (by simpa using q)⟩
      cases y with
      | none => exact h1
      | some d =>
        have := k 0 d rfl
        simp only [List.getElem?_cons_zero, Option.some.injEq] at this
        obtain ⟨v, ev, r⟩ := h1
        exact ⟨v, this.trans ev, r⟩
end
section
variable {c : Vc} {fT fV : List Addr} {T : List Tm} {σ : L2.St} {e : Env} {H H' : Hp}
theorem R.len (h : R c T σ e H) : σ.length = c.M.length ∧ e.length = c.M.length := by
  obtain ⟨fT, fV, h⟩ := h
  exact h.vr.len
theorem R.agree {σ1 : L2.St} (h : R c T σ1 e H) (hl : σ.length = σ1.length) (k : ∀ (i : Nat) (d : D), e[i]? = some (some d) → σ[i]? = σ1[i]?) (hr : ∀ p ∈ c.rt, σ[p.1]? = some (some p.2)) : R c T σ e H := by
  obtain ⟨fT, fV, h⟩ := h
  exact ⟨fT, fV, h.tm, h.vr.agree hl k, h.nd, h.fr, h.kp, h.tp, h.al, h.ok, hr⟩
/-- a name's thing let go -/
theorem R.forget {i : Nat} {x : Option V} (h : R c T σ e H) (hr : ∀ p ∈ c.rt, p.1 ≠ i) : R c T (σ.set i x) (e.set i none) H := by
  by_cases hi : i < c.M.length
  · obtain ⟨fT, fV, h⟩ := h
    obtain ⟨g1, fp, g2, x0, y0, a1, a2, a3, a4, a5⟩ := h.vr.split (List.getElem?_eq_getElem hi)
    subst a3
    have sub : ∀ a, a ∈ fT ++ (g1 ++ ([] ++ g2)) → a ∈ fT ++ (g1 ++ (fp ++ g2)) := fun a z => by
      simp only [List.mem_append, List.nil_append] at z ⊢
      rcases z with z | z | z <;> simp [z]
    have how : ∀ a, owOf c fT (g1 ++ ([] ++ g2)) a → owOf c fT (g1 ++ (fp ++ g2)) a ∨ H a = none := fun a z => by
      rcases z with z | z
      · exact .inl (.inl (sub a z))
      · exact .inl (.inr z)
    refine ⟨fT, g1 ++ ([] ++ g2), h.tm.fr (fun _ _ q _ => q) (ExtT.refl H) how (fun _ _ _ q => q), a5 (fun _ _ q _ => q) (ExtT.refl H) how (fun _ _ _ q => q) rfl, ?_, fun a z => h.fr a (sub a z), h.kp, h.tp, h.al, h.ok, fun p hp => ?_⟩
    · have p1 : List.Perm (fT ++ (g1 ++ (fp ++ g2))) (fp ++ (fT ++ (g1 ++ ([] ++ g2)))) := by
        rw [List.perm_iff_count]
        intro a
        simp only [List.count_append, List.count_nil]
        omega
      exact (List.nodup_append.mp (p1.nodup h.nd)).2.1
    · rw [List.getElem?_set_ne (fun z => hr p hp z.symm)]
      exact h.rt p hp
  · have hl := h.len
    rw [List.set_eq_of_length_le (by omega), List.set_eq_of_length_le (by omega)]
    exact h
def wipeE (e : Env) : List Nat → Env
  | [] => e
  | v :: vs => (wipeE e vs).set v none
theorem R.wipe : ∀ {vs : List Nat}, R c T σ e H → (∀ i ∈ vs, ∀ p ∈ c.rt, p.1 ≠ i) → R c T (L2.wipe σ vs) (wipeE e vs) H
  | [], h, _ => h
  | v :: vs, h, hr => (R.wipe h fun i z => hr i (List.mem_cons_of_mem _ z)).forget (hr v List.mem_cons_self)
theorem wipeE_no {e : Env} {i : Nat} {d : D} : ∀ {vs : List Nat}, i ∈ vs → (wipeE e vs)[i]? ≠ some (some d)
  | [], h => by cases h
  | v :: vs, h => by
    unfold wipeE
    by_cases q : v = i
    · subst q
      rw [List.getElem?_set]
      simp only [if_true]
      split <;> simp
    · rw [List.getElem?_set_ne q]
      exact wipeE_no ((List.mem_cons.mp h).elim (fun z => absurd z.symm q) id)
/-- the thing on top is changed -/
theorem RX.updT {sh : Sh} {v : V} {d : D} (h : RX c fT fV ((sh, v, d) :: T) σ e H) :
    ∃ fp fT', fT = fp ++ fT' ∧ RO c.K (owOf c fT fV) H d sh v fp ∧ fp.Nodup ∧
      ∀ (H' : Hp) (d' : D) (fp' : List Addr), (∀ b o, H b = some o → b ∉ fp → H' b = some o) → ExtT H H' → (∀ b, H b ≠ none → H' b ≠ none) → fp'.Nodup → (∀ a ∈ fp', a ∈ fp ∨ H a = none) →
        (∀ ow', (∀ a, ow' a → owOf c fT fV a ∨ H a = none) → RO c.K ow' H' d' sh v fp') → RX c (fp' ++ fT') fV ((sh, v, d') :: T) σ e H' := by
  obtain ⟨fp, f2, e1, h1, h2⟩ := h.tm
  subst e1
  have n := h.nd
  rw [List.append_assoc] at n
  obtain ⟨nf, nr, nx⟩ := List.nodup_append.mp n
  refine ⟨fp, f2, rfl, h1, nf, fun H' d' fp' hk hT hal nd' hf' hro => ?_⟩
  have hsub : ∀ a ∈ fp, a ∈ (fp ++ f2) ++ fV := fun a z => by simp [z]
  have how : ∀ a, owOf c (fp' ++ f2) fV a → owOf c (fp ++ f2) fV a ∨ H a = none := fun a z => by
    rcases z with z | z
    · simp only [List.mem_append] at z
      rcases z with (z | z) | z
      · rcases hf' a z with q | q
        · exact .inl (.inl (by simp [q]))
        · exact .inr q
      · exact .inl (.inl (by simp [z]))
      · exact .inl (.inl (by simp [z]))
    · exact .inl (.inr z)
  have kow : ∀ b o, H b = some o → ¬ owOf c (fp ++ f2) fV b → H' b = some o := fun b o q n => hk b o q fun z => n (.inl (hsub b z))
  have koth : ∀ b ∈ f2 ++ fV, ∀ o, H b = some o → H' b = some o := fun b z o q => hk b o q fun y => nx b y b z rfl
  refine ⟨⟨fp', f2, rfl, hro _ how, h2.fr kow hT how (fun b z => koth b (List.mem_append_left _ z))⟩, h.vr.fr kow hT how (fun b z => koth b (List.mem_append_right _ z)), ?_, fun a z => ?_, fun b o q n => ?_, h.tp.trans hT, fun b q => hal b (h.al b q), h.ok, h.rt⟩
  · rw [List.append_assoc]
    exact List.nodup_append.mpr ⟨nd', nr, fun a z b y q => by
      subst q
      rcases hf' a z with q | q
      · exact nx a q a y rfl
      · obtain ⟨o, w, _⟩ := h.at a (by rw [List.append_assoc]; exact List.mem_append_right _ y)
        rw [q] at w
        cases w⟩
  · simp only [List.mem_append] at z
    rcases z with (z | z) | z
    · rcases hf' a z with q | q
      · exact h.fr a (by simp [q])
      · exact .inr (h.new q).2
    · exact h.fr a (by simp [z])
    · exact h.fr a (by simp [z])
  · refine hk b o (h.kp b o q n) fun z => ?_
    rcases h.fr b (hsub b z) with y | y
    · exact n y
    · rw [y] at q
      cases q
theorem al_upd {a : Addr} {o : HO} : ∀ b, H b ≠ none → (L2.upd H a o) b ≠ none := fun b q => by
  by_cases e : b = a
  · rw [e, upd_same]; simp
  · rw [upd_ne e]; exact q
/-- a thing more at the end of the list below -/
theorem R.append {y : V} {dy : D} {a : Addr} {l : List D} (h : R c ((.s, y, dy) :: (.l .s, .ref a, .lst l) :: T) σ e H) : ∃ vs, H a = some (.lst vs) ∧ vs.length = l.length ∧ R c ((.l .s, .ref a, .lst (l ++ [dy])) :: T) σ e (L2.upd H a (.lst (vs ++ [y]))) := by
  obtain ⟨fT, fV, h⟩ := h
  obtain ⟨ry, h⟩ := h.topS
  obtain ⟨fp, fT', e1, ro, nf, k⟩ := h.updT
  obtain ⟨l', a', vs, el, ea, ha, rs, ef⟩ := RO_l.mp ro
  cases el
  cases ea
  subst ef
  have nfx : ∀ u, H a = some u → ¬ Fx u := fun u q => by rw [ha] at q; cases q; exact id
  refine ⟨vs, ha, rs.len, _, fV, k (L2.upd H a (.lst (vs ++ [y]))) (.lst (l ++ [dy])) [a] (fun b o q n => ?_) (ExtT.upd nfx) al_upd (by simp) (fun b z => .inl z) fun ow' how => RO_l.mpr ⟨_, a, _, rfl, rfl, upd_same, ?_, rfl⟩⟩
  · rw [upd_ne (fun z => n (by rw [z]; exact List.mem_singleton_self a))]
    exact q
  · have F : Fr (owOf c fT fV) H (L2.upd H a (.lst (vs ++ [y]))) := ⟨fun b o q n => by
      rw [upd_ne (fun z => n (.inl (by rw [z, e1]; simp)))]
      exact q, ExtT.upd nfx⟩
    exact RSs.app (.cons (RS.fr F how _ _ ry) .nil) (RSs.fr F how _ _ rs)
end
/-! ### comprehensions -/
section
variable {c : Vc} {W : XW} {m : Md} {wi : TI} {fi : VTI} {tg : TG} {vg : VTG} {own vs : List Nat} {tt : TT} {ft : VTB} {te : TE} {fe : VT}
def vYes : VTB := fun e Q _ => Q true e
theorem vt_yes : VBt c W m tYes vYes := fun T σ e H Q Qv Qx hR hf hn hx => hn true e H hR (Post.refl _ _ _) hf
def vLcL (vs : List Nat) (vg : VTG) (ft : VTB) (fe : VT) (Q : List D → Env → Prop) : List D → List D → Env → Prop
  | [], acc, e => Q acc e
  | d :: ds, acc, e => vg d e fun e1 => ft e1 (fun b e2 => if b = true then fe e2 (fun y e3 => acc.length < sizeLine ∧ vLcL vs vg ft fe Q ds (acc ++ [y]) (wipeE e3 vs)) (fun _ _ => False) else vLcL vs vg ft fe Q ds acc (wipeE e2 vs)) (fun _ _ => False)
def vLc (fi : VTI) (vs : List Nat) (vg : VTG) (ft : VTB) (fe : VT) : VT := fun e Q Qx => fi e (fun ds e1 => vLcL vs vg ft fe (fun acc e2 => Q (.lst acc) e2) ds [] (wipeE e1 vs)) Qx
theorem v_lc {sh : Sh} (hi : VI c W m wi fi) (hg : VG c tg own vg) (ht : VBt c W0 m tt ft) (he : VE c W0 m te sh fe) (ho : ∀ i ∈ own, i ∈ vs) (hr : ∀ i ∈ vs, ∀ p ∈ c.rt, p.1 ≠ i) : VE c W m (tLc wi tg tt te vs) (.l .s) (vLc fi vs vg ft fe) := fun T σ e H Q Qv Qx hR hf hn hx => by
  have he := he.s
  refine hi T σ e H _ _ Qx hR hf (fun J hs ds e1 H1 ok R1 p1 q => ?_) hx
  intro a ha
  have hl0 := R1.len
  have hrt : ∀ p ∈ c.rt, σ[p.1]? = some (some p.2) := let ⟨_, _, z⟩ := R1; z.rt
  have start : R c ((.l .s, .ref a, .lst []) :: (hs ++ T)) (L2.wipe σ vs) (wipeE e1 vs) (upd H1 a (.lst [])) := by
    obtain ⟨fT, fV, z⟩ := R1.wipe hr
    exact z.newL ha .nil
  refine ⟨fun i k H' => k = ds.length - i ∧ i ≤ ds.length ∧ Post m H1 H' e1 e1 ∧ ∃ e' acc, R c ((.l .s, .ref a, .lst acc) :: (hs ++ T)) (L2.wipe σ vs) e' H' ∧ (∀ i ∈ vs, ∀ d, e'[i]? ≠ some (some d)) ∧ vLcL vs vg ft fe (fun acc e2 => Qv (.lst acc) e2) (ds.drop i) acc e', ⟨ds.length, by simp, Nat.zero_le _, Post.same (same_new ha), _, [], start, fun i z d => wipeE_no z, q⟩, ?_⟩
  rintro i k H2 ⟨rfl, hle, p2, e2, acc, R2, no2, q2⟩
  have hm : ∀ t ∈ hs, t ∈ ((.l .s, .ref a, .lst acc) : Tm) :: (hs ++ T) := fun t z => List.mem_cons_of_mem _ (List.mem_append_left _ z)
  by_cases hlt : i < ds.length
  · obtain ⟨fT, fV, X2⟩ := R2
    refine .inr ⟨ok.go fT fV _ _ e2 H2 i X2 hm hlt, fun H' => Post m H1 H' e1 e1 ∧ ∃ e' acc, R c ((.l .s, .ref a, .lst acc) :: (hs ++ T)) (L2.wipe σ vs) e' H' ∧ (∀ i ∈ vs, ∀ d, e'[i]? ≠ some (some d)) ∧ vLcL vs vg ft fe (fun acc e2 => Qv (.lst acc) e2) (ds.drop (i + 1)) acc e', fun H' z => ⟨ds.length - (i + 1), by omega, rfl, hlt, z.1, z.2⟩, fun x H3 hy => ?_⟩
    obtain ⟨rfl, d, hd, rd⟩ := ok.yld fT fV _ _ e2 H2 i x H3 X2 hm hlt hy
    have ed : ds.drop i = d :: ds.drop (i + 1) := by
      rw [List.drop_eq_getElem_cons hlt]
      rw [List.getElem?_eq_getElem hlt] at hd
      cases hd
      rfl
    rw [ed] at q2
    refine hg _ (L2.wipe σ vs) e2 H3 x d _ _ ⟨fT, fV, X2.pushS rd⟩ q2 fun σ3 e3 R3 w3 q3 => ?_
    have w : L2.wipe σ3 vs = L2.wipe σ vs := by
      rw [w3 vs ho]
      apply List.ext_getElem?
      intro j
      rw [wipe_get, wipe_get, wipe_length]
      by_cases z : j ∈ vs
      · rw [if_pos z, if_pos z]
      · rw [if_neg z, if_neg z]
    refine ⟨?_, ht _ σ3 e3 H3 _ _ (fun _ _ => False) R3 q3 (fun b e4 H4 R4 p4 q4 => ?_) (fun x d e' H' r y q => q.elim)⟩
    · exact w
    cases b with
    | false =>
      have z := R4.wipe hr
      rw [w] at z
      exact ⟨p2.trans p4, _, acc, z, fun i y d => wipeE_no y, q4⟩
    | true =>
      refine he _ σ3 e4 H4 _ _ (fun _ _ => False) R4 q4 (fun y dy e5 H5 R5 p5 ⟨hz, q5⟩ => ?_) (fun x d e' H' r y q => q.elim)
      obtain ⟨ws, hw, lw, R6⟩ := R5.append
      have z := R6.wipe hr
      rw [w] at z
      refine ⟨ws, hw, by rw [lw]; exact hz, fun q => ?_, _, _, z, fun i y d => wipeE_no y, q5⟩
      intro b o eb
      have nb : b ≠ a := ne_of_none eb ha
      rw [upd_ne nb]
      exact ((p2.trans p4).trans p5) q b o eb
  · have eq : i = ds.length := by omega
    subst eq
    rw [List.drop_length] at q2
    obtain ⟨fT, fV, X2⟩ := R2
    refine .inl ⟨ok.stop fT fV _ _ e2 H2 _ X2 hm (Nat.le_refl _), ?_⟩
    have z : R c ((.l .s, .ref a, .lst acc) :: T) (L2.wipe σ vs) e2 H2 := R.drop2 ⟨fT, fV, X2⟩
    refine hn _ _ e2 H2 (z.agree (by rw [wipe_length]) (fun i d q => ?_) hrt) (p1.trans (fun q => p2 q)) q2
    rw [wipe_get, if_neg (fun y => no2 i y d q)]
end
/-! ### one's own list: append, extend, pop -/
section
variable {c : Vc} {W : XW} {m : Md} {te : TE} {fe : VT}
theorem tyV_l {K : PySem.W.Frag} {H : Hp} {a : Addr} {vs : List V} (h : H a = some (.lst vs)) : tyV K "list" (.ref a) H := .inl ⟨rfl, vs, .inl (.inl h)⟩
/-- a name's own list, as it stands -/
theorem RX.ownL {fT fV : List Addr} {T : List Tm} {σ : L2.St} {e : Env} {H : Hp} {i : Nat} {l : List D} (h : RX c fT fV T σ e H) (hM : c.M[i]? = some (.l .s)) (hd : e[i]? = some (some (.lst l))) :
    ∃ a vs, σ[i]? = some (some (.ref a)) ∧ H a = some (.lst vs) ∧ RSs c.K (owOf c fT fV) H l vs ∧ ∀ (l' : List D) (vs' : List V) (H2 : Hp), Same H H2 → H2 a = some (.lst vs) → (∀ ow', (∀ b, ow' b → owOf c fT fV b ∨ H b = none) → RSs c.K ow' (L2.upd H2 a (.lst vs')) l' vs') → ∃ fV', RX c fT fV' T σ (e.set i (some (.lst l'))) (L2.upd H2 a (.lst vs')) := by
  obtain ⟨v, fp, hv, ro, sub, nf, k⟩ := h.upd hM hd
  obtain ⟨l0, a, vs, el, ea, ha, rs, ef⟩ := RO_l.mp ro
  cases el
  subst ea ef
  refine ⟨a, vs, hv, ha, rs, fun l' vs' H2 sm ha2 hr => ?_⟩
  have nfx : ∀ u, H2 a = some u → ¬ Fx u := fun u q => by rw [ha2] at q; cases q; exact id
  refine k (L2.upd H2 a (.lst vs')) (.lst l') [a] (fun b o q n => ?_) ((ExtT.same sm).trans (ExtT.upd nfx)) (fun b q => al_upd b ?_) (by simp) (fun b z => .inl z) fun ow' how => RO_l.mpr ⟨l', a, vs', rfl, rfl, upd_same, hr ow' how, rfl⟩
  · rw [upd_ne (fun z => n (by rw [z]; exact List.mem_singleton_self a))]
    exact sm b o q
  · cases z : H b with
    | none => exact absurd z q
    | some o => rw [sm b o z]; simp
def vAppend (i : Nat) (fe : VT) : VT := fun e Q Qx => (∃ l, e[i]? = some (some (.lst l))) ∧ fe e (fun d e1 => ∃ l, e1[i]? = some (some (.lst l)) ∧ l.length < sizeLine ∧ Q .non (e1.set i (some (.lst (l ++ [d]))))) Qx
theorem v_append {i : Nat} (hM : c.M[i]? = some (.l .s)) (he : VE c W .e te .s fe) : VE c W .e (tBM c.K "list" rAppend (tVar i) (tCons te tNil)) .s (vAppend i fe) := fun T σ e H Q Qv Qx hR ⟨⟨l0, hl0⟩, hf⟩ hn hx => by
  obtain ⟨fT, fV, hX⟩ := hR
  obtain ⟨a, vs0, hv, ha0, _⟩ := hX.ownL hM hl0
  refine ⟨_, hv, tyV_l ha0, ?_⟩
  refine he T σ e H _ _ Qx ⟨fT, fV, hX⟩ hf (fun y dy e1 H1 R1 _ ⟨l, hl, hz, q⟩ => ?_) hx
  obtain ⟨fT1, fV1, X1⟩ := R1
  obtain ⟨ry, X1⟩ := X1.topS
  obtain ⟨a1, vs, hv1, ha, rs, k⟩ := X1.ownL hM hl
  rw [hv] at hv1
  cases hv1
  obtain ⟨fV2, X2⟩ := k (l ++ [dy]) (vs ++ [y]) H1 (fun _ _ q => q) ha fun ow' how => by
    have nfx : ∀ u, H1 a = some u → ¬ Fx u := fun u q => by rw [ha] at q; cases q; exact id
    have oa : owOf c fT1 fV1 a := by
      obtain ⟨v, fp, hv', ro, sub, _⟩ := X1.upd hM hl
      obtain ⟨l0, a2, vs2, el, ea, ha2, rs2, ef⟩ := RO_l.mp ro
      rw [hv] at hv'
      cases hv'
      cases ea
      exact .inl (sub a (by rw [ef]; exact List.mem_singleton_self a))
    have F : Fr (owOf c fT1 fV1) H1 (L2.upd H1 a (.lst (vs ++ [y]))) := ⟨fun b o q n => by
      rw [upd_ne (fun z => n (by rw [z]; exact oa))]
      exact q, ExtT.upd nfx⟩
    exact RSs.app (.cons (RS.fr F how _ _ ry) .nil) (RSs.fr F how _ _ rs)
  exact ⟨a, vs, y, rfl, rfl, ha, by rw [rs.len]; exact hz, hn _ _ _ _ ⟨fT1, fV2, X2.pushS rs_non⟩ Post.e q⟩
end
end VL
set_option Elab.async false
set_option linter.all false
set_option maxRecDepth 100000
set_option maxHeartbeats 2000000
namespace VL
open PySem PySem.Spec PyProof.Rows L2
/-! ### promises over data -/
abbrev VSp := List D → (D → Env → Prop) → (Exn → Env → Prop) → Prop
def roots : List Sh → Nat → List V → List (Nat × V)
  | [], _, _ => []
  | _ :: _, _, [] => []
  | .s :: M, n, _ :: vs => roots M (n + 1) vs
  | .l _ :: M, n, v :: vs => (n, v) :: roots M (n + 1) vs
  | .d _ :: M, n, v :: vs => (n, v) :: roots M (n + 1) vs
  | .o _ :: M, n, v :: vs => (n, v) :: roots M (n + 1) vs
/-- what a def hands back of its parameters: those that are the caller's own -/
def ioP : List Sh → Env → Env
  | [], _ => []
  | _ :: _, [] => []
  | .s :: M, _ :: e => none :: ioP M e
  | .l _ :: M, y :: e => y :: ioP M e
  | .d _ :: M, y :: e => y :: ioP M e
  | .o _ :: M, y :: e => y :: ioP M e
def ioIx : List Sh → Nat → List Nat
  | [], _ => []
  | .s :: M, n => ioIx M (n + 1)
  | .l _ :: M, n => n :: ioIx M (n + 1)
  | .d _ :: M, n => n :: ioIx M (n + 1)
  | .o _ :: M, n => n :: ioIx M (n + 1)
theorem roots_ix : ∀ (M : List Sh) (n : Nat) (vs : List V), ∀ p ∈ roots M n vs, p.1 ∈ ioIx M n
  | [], _, _, p, h => by simp only [roots] at h; cases h
  | sh :: M, n, [], p, h => by cases sh <;> (simp only [roots] at h; cases h)
  | .s :: M, n, _ :: vs, p, h => by
    simp only [roots] at h
    simp only [ioIx]
    exact roots_ix M (n + 1) vs p h
  | .l _ :: M, n, v :: vs, p, h => by
    simp only [roots, List.mem_cons] at h
    simp only [ioIx, List.mem_cons]
    rcases h with h | h
    · exact .inl (by rw [h])
    · exact .inr (roots_ix M (n + 1) vs p h)
  | .d _ :: M, n, v :: vs, p, h => by
    simp only [roots, List.mem_cons] at h
    simp only [ioIx, List.mem_cons]
    rcases h with h | h
    · exact .inl (by rw [h])
    · exact .inr (roots_ix M (n + 1) vs p h)
  | .o _ :: M, n, v :: vs, p, h => by
    simp only [roots, List.mem_cons] at h
    simp only [ioIx, List.mem_cons]
    rcases h with h | h
    · exact .inl (by rw [h])
    · exact .inr (roots_ix M (n + 1) vs p h)
def spOf (K : PySem.W.Frag) (pM : List Sh) (rsh : Sh) (sp : VSp) : Sp := fun vs H Q E => ∃ (c : Vc) (ds : List D) (Qv : D → Env → Prop) (Qx : Exn → Env → Prop), c.K = K ∧ c.M = pM ∧ c.H0 = H ∧ c.rt = roots pM 0 vs ∧ R c [] (vs.map some) (ds.map some) H ∧ sp ds Qv Qx ∧
  (∀ v r ps H', R c [(rsh, v, r)] (vs.map some) ps H' → Qv r ps → Q v H') ∧ (∀ x d ps H', R c [] (vs.map some) ps H' → XAt H' x d → Qx x ps → E (.ref x.C) d H')
theorem spOf.len {K : PySem.W.Frag} {pM : List Sh} {rsh : Sh} {sp : VSp} {vs : List V} {H : Hp} {Q : VK} {E : XK} (h : spOf K pM rsh sp vs H Q E) : vs.length = pM.length := by
  obtain ⟨c, ds, Qv, Qx, h1, h2, h3, h4, h5, _⟩ := h
  have z := h5.len.1
  rw [List.length_map, h2] at z
  exact z
section
variable {K : PySem.W.Frag} {ow ow' : Addr → Prop} {H H' : Hp}
theorem RV.app {M2 : List Sh} {σ2 : L2.St} {e2 : Env} {f2 : List Addr} (h2 : RV K ow H M2 σ2 e2 f2) : ∀ {M : List Sh} {σ : L2.St} {e : Env} {fp : List Addr}, RV K ow H M σ e fp → RV K ow H (M ++ M2) (σ ++ σ2) (e ++ e2) (fp ++ f2)
  | [], _, _, _, ⟨a, b, c⟩ => by
    subst a b c
    exact h2
  | sh :: M, _, _, _, ⟨x, σ', y, e', g1, g2, e1, e2, e3, h1, h3⟩ => by
    subst e1 e2 e3
    exact ⟨x, σ' ++ σ2, y, _, g1, g2 ++ f2, rfl, rfl, by rw [List.append_assoc], h1, RV.app h2 h3⟩
theorem RV.unapp : ∀ {M M2 : List Sh} {σ : L2.St} {e : Env} {fp : List Addr}, RV K ow H (M ++ M2) σ e fp → ∃ σ1 σ2 e1 e2 f1 f2, σ = σ1 ++ σ2 ∧ e = e1 ++ e2 ∧ fp = f1 ++ f2 ∧ RV K ow H M σ1 e1 f1 ∧ RV K ow H M2 σ2 e2 f2
  | [], M2, σ, e, fp, h => ⟨[], σ, [], e, [], fp, rfl, rfl, rfl, ⟨rfl, rfl, rfl⟩, h⟩
  | sh :: M, M2, _, _, _, ⟨x, σ', y, e', g1, g2, e1, e2, e3, h1, h3⟩ => by
    subst e1 e2 e3
    obtain ⟨σ1, σ2, e1, e2, f1, f2, a, b, c, h4, h5⟩ := RV.unapp h3
    subst a b c
    exact ⟨x :: σ1, σ2, y :: e1, e2, g1 ++ f1, f2, rfl, rfl, by rw [List.append_assoc], ⟨x, σ1, y, e1, g1, f1, rfl, rfl, rfl, h1, h4⟩, h5⟩
theorem RV.nones : ∀ (M : List Sh), RV K ow H M (List.replicate M.length none) (List.replicate M.length none) []
  | [] => ⟨rfl, rfl, rfl⟩
  | sh :: M => ⟨none, _, none, _, [], [], rfl, rfl, rfl, rfl, RV.nones M⟩
theorem ioP_app : ∀ {M : List Sh} {e1 e2 : Env}, e1.length = M.length → ioP M (e1 ++ e2) = ioP M e1
  | [], e1, e2, h => by simp only [ioP]
  | sh :: M, [], e2, h => by cases h
  | sh :: M, y :: e1, e2, h => by
    have z := ioP_app (M := M) (e1 := e1) (e2 := e2) (Nat.succ.inj h)
    cases sh <;> simp only [List.cons_append, ioP, z]
theorem Slot.io {sh : Sh} {x : Option V} {y : Option D} {v : V} {fp : List Addr} (h : Slot K ow H sh x y fp) (hx : x = some v) : Slot K ow H sh (some v) y fp := by
  rw [hx] at h
  exact h
theorem RV.io : ∀ {M : List Sh} {σ : L2.St} {e : Env} {fp : List Addr} {vs : List V} {n : Nat}, RV K ow H M σ e fp → vs.length = M.length → (∀ p ∈ roots M n vs, ∃ j, p.1 = n + j ∧ σ[j]? = some (some p.2)) → RV K ow H M (vs.map some) (ioP M e) fp
  | [], _, _, _, vs, _, ⟨a, b, c⟩, hl, _ => by
    cases vs with
    | nil => exact ⟨rfl, by simp only [ioP], c⟩
    | cons v vs => cases hl
  | sh :: M, _, _, _, [], _, _, hl, _ => by cases hl
  | sh :: M, _, _, _, v :: vs, n, ⟨x, σ', y, e', g1, g2, e1, e2, e3, h1, h3⟩, hl, hr => by
    subst e1 e2 e3
    have sub : ∀ q ∈ roots M (n + 1) vs, q ∈ roots (sh :: M) n (v :: vs) := fun q hq => by
      cases sh <;> simp only [roots] <;> first | exact hq | exact List.mem_cons_of_mem _ hq
    have rest : RV K ow H M (vs.map some) (ioP M e') g2 := RV.io (n := n + 1) h3 (Nat.succ.inj hl) fun q hq => by
      obtain ⟨j, a, b⟩ := hr q (sub q hq)
      have hj : 1 ≤ j := by
        have z : n + 1 ≤ q.1 := by
          have : ∀ (M : List Sh) (n : Nat) (i : Nat), i ∈ ioIx M n → n ≤ i := fun M => by
            induction M with
            | nil => intro n i h; simp only [ioIx] at h; cases h
            | cons sh M ih =>
              intro n i h
              cases sh <;> simp only [ioIx, List.mem_cons] at h <;> first | (have := ih (n + 1) i h; omega) | (rcases h with h | h; omega; have := ih (n + 1) i h; omega)
          exact this M (n + 1) q.1 (roots_ix M (n + 1) vs q hq)
        omega
      refine ⟨j - 1, by omega, ?_⟩
      rw [show j = (j - 1) + 1 by omega] at b
      simpa using b
    cases sh with
    | s =>
      simp only [ioP, List.map_cons]
      refine ⟨some v, vs.map some, none, ioP M e', [], g2, rfl, rfl, ?_, rfl, rest⟩
      cases y with
      | none =>
        have z : g1 = [] := h1
        rw [z]
      | some d =>
        obtain ⟨u, _, r⟩ := h1
        rw [(RO_s.mp r).1]
    | l q =>
      obtain ⟨j, a, b⟩ := hr (n, v) (by simp only [roots]; exact List.mem_cons_self)
      have : j = 0 := by simp at a; omega
      subst this
      simp only [List.getElem?_cons_zero, Option.some.injEq] at b
      simp only [ioP, List.map_cons]
      exact ⟨some v, vs.map some, y, ioP M e', g1, g2, rfl, rfl, rfl, h1.io b, rest⟩
    | d q =>
      obtain ⟨j, a, b⟩ := hr (n, v) (by simp only [roots]; exact List.mem_cons_self)
      have : j = 0 := by simp at a; omega
      subst this
      simp only [List.getElem?_cons_zero, Option.some.injEq] at b
      simp only [ioP, List.map_cons]
      exact ⟨some v, vs.map some, y, ioP M e', g1, g2, rfl, rfl, rfl, h1.io b, rest⟩
    | o q =>
      obtain ⟨j, a, b⟩ := hr (n, v) (by simp only [roots]; exact List.mem_cons_self)
      have : j = 0 := by simp at a; omega
      subst this
      simp only [List.getElem?_cons_zero, Option.some.injEq] at b
      simp only [ioP, List.map_cons]
      exact ⟨some v, vs.map some, y, ioP M e', g1, g2, rfl, rfl, rfl, h1.io b, rest⟩
theorem roots_at : ∀ (M : List Sh) (n : Nat) (vs : List V), ∀ p ∈ roots M n vs, ∃ j, p.1 = n + j ∧ vs[j]? = some p.2
  | [], _, _, p, h => by simp only [roots] at h; cases h
  | sh :: M, n, [], p, h => by cases sh <;> (simp only [roots] at h; cases h)
  | .s :: M, n, _ :: vs, p, h => by
    simp only [roots] at h
    obtain ⟨j, a, b⟩ := roots_at M (n + 1) vs p h
    exact ⟨j + 1, by omega, by simpa using b⟩
  | .l _ :: M, n, v :: vs, p, h => by
    simp only [roots, List.mem_cons] at h
    rcases h with h | h
    · exact ⟨0, by rw [h]; rfl, by rw [h]; rfl⟩
    · obtain ⟨j, a, b⟩ := roots_at M (n + 1) vs p h
      exact ⟨j + 1, by omega, by simpa using b⟩
  | .d _ :: M, n, v :: vs, p, h => by
    simp only [roots, List.mem_cons] at h
    rcases h with h | h
    · exact ⟨0, by rw [h]; rfl, by rw [h]; rfl⟩
    · obtain ⟨j, a, b⟩ := roots_at M (n + 1) vs p h
      exact ⟨j + 1, by omega, by simpa using b⟩
  | .o _ :: M, n, v :: vs, p, h => by
    simp only [roots, List.mem_cons] at h
    rcases h with h | h
    · exact ⟨0, by rw [h]; rfl, by rw [h]; rfl⟩
    · obtain ⟨j, a, b⟩ := roots_at M (n + 1) vs p h
      exact ⟨j + 1, by omega, by simpa using b⟩
end
def nones : List Sh → Env
  | [] => []
  | _ :: M => none :: nones M
theorem nones_eq : ∀ M : List Sh, nones M = List.replicate M.length none
  | [] => rfl
  | _ :: M => by rw [nones, nones_eq M]; rfl
/-- a def by its body -/
theorem fn_run {K : PySem.W.Frag} {pM M2 : List Sh} {rsh : Sh} {sp : VSp} {W : XW} {exV : (Exn → Env → Prop) → QX} {ts : TS} {f : VTS} {N : List Str} {vs : List V} {H : Hp} {Q : VK} {E : XK} (hN : N.length = (pM ++ M2).length)
    (hb : ∀ (H0 : Hp) (io av : Addr → Prop) (rt : List (Nat × V)), (∀ i, i ∉ ioIx pM 0 → ∀ p ∈ rt, p.1 ≠ i) → VS ⟨K, H0, io, av, pM ++ M2, rt⟩ W rsh ts f)
    (hx : ∀ (Qx : Exn → Env → Prop) (c : Vc) (T : List Tm) (x : Exn) (d : Option Addr) (σ : L2.St) (e : Env) (H' : Hp), c.M = pM ++ M2 → R c T σ e H' → XAt H' x d → exV Qx x e → (∀ ps, ps = ioP pM e → Qx x ps → E (.ref x.C) d H') → W (.ref x.C) d σ H')
    (hsp : ∀ (ds : List D) (Qv : D → Env → Prop) (Qx : Exn → Env → Prop), ds.length = pM.length → sp ds Qv Qx → f ⟨fun e => rsh = .s ∧ Qv .non (ioP pM e), fun r e => Qv r (ioP pM e), fun _ => False, fun _ => False, exV Qx⟩ (ds.map some ++ nones M2))
    (h : spOf K pM rsh sp vs H Q E) : ts { nx := fun _ H' => Q .non H', rt := Q } (L2.start N vs) H := by
  have hl := h.len
  obtain ⟨c, ds, Qv, Qx, rfl, rfl, rfl, h4, ⟨fT, fV, hX⟩, hs, hq, he⟩ := h
  have hlen := hX.vr.len
  rw [List.length_map, List.length_map] at hlen
  have hr : ∀ i, i ∉ ioIx c.M 0 → ∀ p ∈ c.rt, p.1 ≠ i := fun i hi p hp z => hi (by
    rw [h4] at hp
    rw [← z]
    exact roots_ix _ _ _ p hp)
  have hst : L2.start N vs = vs.map some ++ List.replicate M2.length none := by
    unfold L2.start
    rw [hN, List.length_append, hl]
    congr 2
    omega
  have hfT : fT = [] := hX.tm
  subst hfT
  have start' : R ⟨c.K, c.H0, c.io, c.av, c.M ++ M2, c.rt⟩ [] (vs.map some ++ List.replicate M2.length none) (ds.map some ++ List.replicate M2.length none) c.H0 := by
    refine ⟨[], fV, rfl, ?_, hX.nd, hX.fr, hX.kp, hX.tp, hX.al, hX.ok, fun p hp => ?_⟩
    · have z := RV.app (RV.nones (K := c.K) (ow := owOf c [] fV) (H := c.H0) M2) hX.vr
      rw [List.append_nil] at z
      exact z
    · have z := hX.rt p hp
      rw [List.getElem?_append_left ((List.getElem?_eq_some_iff.mp z).1)]
      exact z
  have back : ∀ {T : List Tm} {σ : L2.St} {e : Env} {H' : Hp}, R ⟨c.K, c.H0, c.io, c.av, c.M ++ M2, c.rt⟩ T σ e H' → R c T (vs.map some) (ioP c.M e) H' := by
    rintro T σ e H' ⟨gT, gV, Y⟩
    obtain ⟨σ1, σ2, e1, e2, f1, f2, a, b, cc, h6, h7⟩ := RV.unapp Y.vr
    subst a b cc
    have sub : ∀ x, x ∈ gT ++ f1 → x ∈ gT ++ (f1 ++ f2) := fun x z => by
      simp only [List.mem_append] at z ⊢
      rcases z with z | z <;> simp [z]
    have how : ∀ x, owOf c gT f1 x → owOf ⟨c.K, c.H0, c.io, c.av, c.M ++ M2, c.rt⟩ gT (f1 ++ f2) x ∨ H' x = none := fun x z => by
      rcases z with z | z
      · exact .inl (.inl (sub x z))
      · exact .inl (.inr z)
    have l1 := h6.len
    rw [ioP_app l1.2]
    refine ⟨gT, f1, Y.tm.fr (fun _ _ q _ => q) (ExtT.refl H') how (fun _ _ _ q => q), ?_, ?_, fun x z => Y.fr x (sub x z), Y.kp, Y.tp, Y.al, Y.ok, fun p hp => ?_⟩
    · refine RV.io (n := 0) (h6.fr (fun _ _ q _ => q) (ExtT.refl H') how (fun _ _ _ q => q)) hl fun p hp => ?_
      have z := Y.rt p (by rw [h4]; exact hp)
      obtain ⟨j, a, b⟩ := roots_at _ _ _ p hp
      refine ⟨j, a, ?_⟩
      rw [Nat.zero_add] at a
      rw [a, List.getElem?_append_left (by
        rw [l1.1, ← hl]
        exact (List.getElem?_eq_some_iff.mp b).1)] at z
      exact z
    · have n := Y.nd
      rw [← List.append_assoc] at n
      exact (List.nodup_append.mp n).1
    · have hp' := hp
      rw [h4] at hp'
      obtain ⟨j, a, b⟩ := roots_at _ _ _ p hp'
      rw [Nat.zero_add] at a
      rw [a, List.getElem?_map, b]
      rfl
  rw [hst]
  have hsp' := hsp ds Qv Qx hlen.2 hs
  rw [nones_eq] at hsp'
  refine hb c.H0 c.io c.av c.rt hr [] _ _ c.H0 _ _ start' hsp' ⟨fun σ e H' r q => ?_, fun v d σ e H' r q => hq v d _ H' (back r) q, fun _ _ _ _ q => q.elim, fun _ _ _ _ q => q.elim, fun x d σ e H' r y q => hx Qx _ _ x d σ e H' rfl r y q fun ps ep z => ?_⟩
  · obtain ⟨e1, q⟩ := q
    subst e1
    obtain ⟨gT, gV, Y⟩ := r
    exact hq .non .non _ H' (back ⟨gT, gV, Y.pushS rs_non⟩) q
  · subst ep
    exact he x d _ H' (back r) y z
/-- .. of a def that raises nothing -/
theorem fn_run0 {K : PySem.W.Frag} {pM M2 : List Sh} {rsh : Sh} {sp : VSp} {ts : TS} {f : VTS} {N : List Str} {vs : List V} {H : Hp} {Q : VK} {E : XK} (hN : N.length = (pM ++ M2).length)
    (hb : ∀ (H0 : Hp) (io av : Addr → Prop) (rt : List (Nat × V)), (∀ i, i ∉ ioIx pM 0 → ∀ p ∈ rt, p.1 ≠ i) → VS ⟨K, H0, io, av, pM ++ M2, rt⟩ W0 rsh ts f)
    (hsp : ∀ (ds : List D) (Qv : D → Env → Prop) (Qx : Exn → Env → Prop), ds.length = pM.length → sp ds Qv Qx → f ⟨fun e => rsh = .s ∧ Qv .non (ioP pM e), fun r e => Qv r (ioP pM e), fun _ => False, fun _ => False, fun _ _ => False⟩ (ds.map some ++ nones M2))
    (h : spOf K pM rsh sp vs H Q E) : ts { nx := fun _ H' => Q .non H', rt := Q } (L2.start N vs) H :=
  fn_run (exV := fun _ _ _ => False) hN hb (fun _ _ _ _ _ _ _ _ _ _ _ z => z.elim) hsp h
/-! ### calls -/
section
variable {c : Vc} {W : XW} {m : Md} {tA : TA} {fA : VTA}
def vCall (n : Nat) (sp : VSp) (fA : VTA) : VT := fun e Q Qx => fA e (fun ds e1 => ds.length = n ∧ sp ds (fun r _ => Q r e1) fun _ _ => False) Qx
theorem RV.ofS {K : PySem.W.Frag} {ow : Addr → Prop} {H : Hp} : ∀ {pM : List Sh} {vs : List V} {ds : List D}, (∀ sh ∈ pM, sh = .s) → RSs K ow H ds vs → ds.length = pM.length → RV K ow H pM (vs.map some) (ds.map some) []
  | [], _, [], _, r, _ => by
    simp only [RSs] at r
    rw [r]
    exact ⟨rfl, rfl, rfl⟩
  | [], _, d :: ds, _, _, hl => by cases hl
  | sh :: pM, _, [], _, _, hl => by cases hl
  | sh :: pM, _, d :: ds, hs, r, hl => by
    simp only [RSs] at r
    obtain ⟨v, w, rfl, r1, r2⟩ := r
    have e := hs sh List.mem_cons_self
    subst e
    exact ⟨some v, w.map some, some d, ds.map some, [], [], rfl, rfl, rfl, ⟨v, rfl, RO_s.mpr ⟨rfl, r1⟩⟩, RV.ofS (fun sh z => hs sh (List.mem_cons_of_mem _ z)) r2 (Nat.succ.inj hl)⟩
theorem RV.fpS {K : PySem.W.Frag} {ow : Addr → Prop} {H : Hp} : ∀ {pM : List Sh} {σ : L2.St} {e : Env} {fp : List Addr}, (∀ sh ∈ pM, sh = .s) → RV K ow H pM σ e fp → fp = []
  | [], _, _, _, _, h => h.2.2
  | sh :: pM, _, _, _, hs, ⟨x, σ', y, e', g1, g2, e1, e2, e3, h1, h3⟩ => by
    have e := hs sh List.mem_cons_self
    subst e
    have z : g1 = [] := by
      cases y with
      | none => exact h1
      | some d =>
        obtain ⟨v, _, r⟩ := h1
        exact (RO_s.mp r).1
    rw [e3, z, RV.fpS (fun sh z => hs sh (List.mem_cons_of_mem _ z)) h3]
    rfl
theorem roots_s : ∀ {pM : List Sh} {n : Nat} {vs : List V}, (∀ sh ∈ pM, sh = .s) → roots pM n vs = []
  | [], _, _, _ => by simp only [roots]
  | sh :: pM, _, [], hs => by cases sh <;> simp only [roots]
  | sh :: pM, n, v :: vs, hs => by
    have e := hs sh List.mem_cons_self
    subst e
    simp only [roots]
    exact roots_s fun sh z => hs sh (List.mem_cons_of_mem _ z)
theorem v_call {pM : List Sh} {rsh : Sh} {sp : VSp} {E : XK} (hA : VA c W m tA fA) (hs : ∀ sh ∈ pM, sh = .s) : VE c W m (tCall (spOf c.K pM rsh sp) [] E tA) rsh (vCall pM.length sp fA) := fun T σ e H Q Qv Qx hR hf hn hx => by
  refine hA T σ e H _ _ Qx hR hf (fun fT fV vs ds e1 H1 X1 rs p ⟨hl, q⟩ => ?_) hx
  rw [List.append_nil]
  have how : ∀ a, (a ∈ ([] : List Addr) ++ [] ∨ owOf c fT fV a) → owOf c fT fV a := fun a z => z.elim (fun y => by cases y) id
  refine ⟨⟨c.K, H1, fun _ => False, owOf c fT fV, pM, roots pM 0 vs⟩, ds, fun r _ => Qv r e1, fun _ _ => False, rfl, rfl, rfl, rfl, ⟨[], [], rfl, RV.ofS hs (rs.less how) hl, by simp, fun a z => (by cases z), fun b o q _ => q, ExtT.refl H1, fun b q => q, fun a z => ⟨X1.owS z, id⟩, fun p hp => (by rw [roots_s hs] at hp; cases hp)⟩, q, ?_, fun x d ps H' _ _ z => z.elim⟩
  rintro v r ps H' ⟨gT, gV, Y⟩ q
  have sm : Same H1 H' := fun b o z => Y.kp b o z id
  have hg : gV = [] := RV.fpS hs Y.vr
  subst hg
  obtain ⟨f1, f2, e2, r1, r2⟩ := Y.tm
  have r2 : f2 = [] := r2
  subst r2
  rw [List.append_nil] at e2
  subst e2
  have nd := Y.nd
  rw [List.append_nil] at nd
  have fr : ∀ a ∈ gT, H1 a = none := fun a z => (Y.fr a (by rw [List.append_nil]; exact z)).elim (fun y => y.elim) id
  refine hn v r e1 H' ⟨gT ++ fT, fV, X1.pushO sm nd fr (RO.fr (fun _ _ q _ => q) (ExtT.refl H') (fun a z => ?_) _ _ _ _ r1 (fun _ _ _ q => q))⟩ (p.trans (Post.same sm)) q
  rcases z with z | z
  · rw [List.append_assoc] at z
    rcases List.mem_append.mp z with z | z
    · exact .inl (.inl (by rw [List.append_nil]; exact z))
    · exact .inl (.inr (.inl z))
  · exact .inl (.inr (.inr z))
end
end VL
set_option Elab.async false
set_option linter.all false
set_option maxRecDepth 100000
set_option maxHeartbeats 2000000
namespace VL
open PySem PySem.Spec PyProof.Rows L2
theorem u65 {k : Nat} {A : Around} (r : Room k A) : A.units + 65 < cLine := by have := r.un; omega
/-! ### dicts -/
def kD : Key → D
  | .inl i => .int i
  | .inr x => .str x
def getK : List Key → List D → Key → Option D
  | k :: ks, d :: ds, x => if k = x then some d else getK ks ds x
  | _, _, _ => none
section
variable {K : PySem.W.Frag} {ow : Addr → Prop} {H : Hp}
theorem RB.key {k : Key} {v : V} (h : RB K ow H (kD k) v) : v = kV k := by
  cases k with
  | inl i => exact h.int
  | inr x => exact h.str
theorem getK_val {k : Key} : ∀ {ks : List Key} {l : List D} {vs : List V}, ks.length = vs.length → RSs K ow H l vs → (∀ d, getK ks l k = some d → ∃ v, valV (ks.zip vs) k = some v ∧ RS K ow H d v) ∧ (getK ks l k = none → valV (ks.zip vs) k = none)
  | [], l, vs, hl, r => by
    cases vs with
    | nil => exact ⟨fun d h => by simp [getK] at h, fun _ => rfl⟩
    | cons v vs => cases hl
  | k0 :: ks, [], vs, hl, r => by
    simp only [RSs] at r
    rw [r] at hl
    cases hl
  | k0 :: ks, d0 :: l, vs, hl, r => by
    simp only [RSs] at r
    obtain ⟨v, w, rfl, r1, r2⟩ := r
    obtain ⟨a, b⟩ := getK_val (k := k) (ks := ks) (Nat.succ.inj hl) r2
    rw [List.zip_cons_cons]
    by_cases e : k0 = k
    · refine ⟨fun d h => ?_, fun h => ?_⟩
      · simp only [getK, if_pos e, Option.some.injEq] at h
        subst h
        exact ⟨v, valV_pos e, r1⟩
      · simp only [getK, if_pos e] at h
        cases h
    · refine ⟨fun d h => ?_, fun h => ?_⟩
      · simp only [getK, if_neg e] at h
        obtain ⟨u, h1, h2⟩ := a d h
        exact ⟨u, (valV_neg e).trans h1, h2⟩
      · simp only [getK, if_neg e] at h
        exact (valV_neg e).trans (b h)
end
section
variable {c : Vc} {W : XW} {m : Md} {ta tb td te : TE} {fa fb fd fe : VT} {tA : TA} {fA : VTA}
def gDGet : G2
  | .dct ks l, y, Q => ∃ k d, y = kD k ∧ getK ks l k = some d ∧ Q d
  | _, _, _ => False
theorem od_dget {K : PySem.W.Frag} : OpD K (fun x y H Q => ∃ a v, x = .ref a ∧ DGet H a y (some v) ∧ Q v H) gDGet := fun ow H x y dx dy Q Qd rx ry hg hn => by
  cases dx <;> first | exact hg.elim | skip
  obtain ⟨k, d, rfl, hk, q⟩ := hg
  obtain ⟨a, vs, rfl, s, n, r⟩ := rx.dct
  obtain ⟨v, hv, rv⟩ := (getK_val n r).1 d hk
  exact ⟨a, v, rfl, .inl ⟨_, k, s, ry.key, hv.symm⟩, hn _ _ rv q⟩
def vDGet (fd fa : VT) : VT := vOp2 gDGet fd fa
theorem q_dget (h1 : VB c td fd) (h2 : VB c ta fa) : VQ c (tDGet td ta) (vDGet fd fa) := q_op h1 h2 od_dget
theorem v_dget (h1 : VE c W m td .s fd) (h2 : VE c W m ta .s fa) : VE c W m (tDGet td ta) .s (vDGet fd fa) := v_op h1 h2 od_dget
def hasK (ks : List Key) (k : Key) : Bool := ks.any fun z => decide (z = k)
def gDIn (neg : Bool) : D → D → (D → Prop) → Prop
  | y, .dct ks l, Q => ∃ k, y = kD k ∧ ks.length = l.length ∧ Q (.bl (if neg then !hasK ks k else hasK ks k))
  | _, _, _ => False
theorem valV_mem {k : Key} : ∀ {ks : List Key} {vs : List V}, ks.length = vs.length → (valV (ks.zip vs) k).isSome = hasK ks k
  | [], vs, _ => by simp [valV, hasK]
  | k0 :: ks, [], h => by cases h
  | k0 :: ks, v :: vs, h => by
    rw [List.zip_cons_cons]
    by_cases e : k0 = k
    · rw [valV_pos e]
      simp [hasK, e]
    · rw [valV_neg e, valV_mem (Nat.succ.inj h)]
      simp [hasK, e]
theorem od_din {K : PySem.W.Frag} : OpD K (fun y x H Q => ∃ a o, x = .ref a ∧ DGet H a y o ∧ Q (.bl o.isSome) H) (gDIn false) := fun ow H x y dx dy Q Qd rx ry hg hn => by
  cases dy <;> first | (simp only [gDIn] at hg; done) | skip
  simp only [gDIn] at hg
  obtain ⟨k, rfl, hl, q⟩ := hg
  obtain ⟨a, vs, rfl, s, n, r⟩ := ry.dct
  exact ⟨a, _, rfl, .inl ⟨_, k, s, rx.key, rfl⟩, hn _ _ (by rw [valV_mem n]; exact rs_bl) q⟩
theorem od_dnotin {K : PySem.W.Frag} : OpD K (fun y x H Q => ∃ a o, x = .ref a ∧ DGet H a y o ∧ Q (.bl (!o.isSome)) H) (gDIn true) := fun ow H x y dx dy Q Qd rx ry hg hn => by
  cases dy <;> first | (simp only [gDIn] at hg; done) | skip
  simp only [gDIn] at hg
  obtain ⟨k, rfl, hl, q⟩ := hg
  obtain ⟨a, vs, rfl, s, n, r⟩ := ry.dct
  exact ⟨a, _, rfl, .inl ⟨_, k, s, rx.key, rfl⟩, hn _ _ (by rw [valV_mem n]; exact rs_bl) q⟩
theorem q_din (h2 : VB c ta fa) (h1 : VB c td fd) : VQ c (tDIn ta td) (vOp2 (gDIn false) fa fd) := q_op h2 h1 od_din
theorem v_din (h2 : VE c W m ta .s fa) (h1 : VE c W m td .s fd) : VE c W m (tDIn ta td) .s (vOp2 (gDIn false) fa fd) := v_op h2 h1 od_din
theorem q_dnotin (h2 : VB c ta fa) (h1 : VB c td fd) : VQ c (tDNotIn ta td) (vOp2 (gDIn true) fa fd) := q_op h2 h1 od_dnotin
theorem v_dnotin (h2 : VE c W m ta .s fa) (h1 : VE c W m td .s fd) : VE c W m (tDNotIn ta td) .s (vOp2 (gDIn true) fa fd) := v_op h2 h1 od_dnotin
def gGet2 : D → D → D → (D → Prop) → Prop
  | .dct ks l, y, z, Q => ∃ k, y = kD k ∧ Q ((getK ks l k).getD z)
  | _, _, _, _ => False
def vGet2 (fd fa fb : VT) : VT := fun e Q Qx => fd e (fun x e1 => (∃ ks l, x = .dct ks l) ∧ fa e1 (fun y e2 => fb e2 (fun z e3 => gGet2 x y z fun r => Q r e3) Qx) Qx) Qx
theorem v_get2 (hd : VE c W m td .s fd) (ha : VE c W m ta .s fa) (hb : VE c W m tb .s fb) : VE c W m (tDGet2 td ta tb) .s (vGet2 fd fa fb) := fun T σ e H Q Qv Qx hR hf hn hx => by
  refine hd T σ e H _ _ Qx hR hf (fun x dx e1 H1 R1 P1 ⟨⟨ks, l, ex⟩, h1⟩ => ?_) hx
  subst ex
  obtain ⟨fT, fV, X1⟩ := R1
  obtain ⟨rx, _⟩ := X1.topS
  obtain ⟨a, vs, ea, s, n, r⟩ := rx.b.dct
  subst ea
  refine ⟨a, rfl, .inl ⟨_, s⟩, ?_⟩
  refine two ha hb ⟨fT, fV, X1⟩ h1 (fun gT gV y z dy dz e' H' X' ry rz p q => ?_) (fun xn d e' H' R' X' q' => hx xn d e' H' R'.pop X' q')
  obtain ⟨k, ey, q⟩ := q
  subst ey
  obtain ⟨rx', X''⟩ := X'.topS
  obtain ⟨a', vs', ea, s', n', r'⟩ := rx'.b.dct
  cases ea
  refine ⟨valV (ks.zip vs') k, .inl ⟨_, k, s', ry.b.key, rfl⟩, hn _ _ e' H' ⟨gT, gV, X''.pushS ?_⟩ (P1.trans p) q⟩
  obtain ⟨h1, h2⟩ := getK_val (k := k) n' r'
  cases g : getK ks l k with
  | none =>
    rw [h2 g]
    exact rz
  | some d =>
    obtain ⟨v, hv, rv⟩ := h1 d g
    rw [hv]
    exact rv
/-! {..} -/
abbrev VTP := Env → (List (Key × D) → Env → Prop) → QX → Prop
def VPs (c : Vc) (W : XW) (m : Md) (trs : List (TE × TE)) (f : VTP) : Prop := ∀ (T : List Tm) (σ : L2.St) (e : Env) (H : Hp) (Q : List (V × V) → Hp → Prop) (Qv : List (Key × D) → Env → Prop) (Qx : QX), R c T σ e H → f e Qv Qx →
  (∀ fT fV ps kds e' H', RX c fT fV T σ e' H' → Paired (fun (k : Key × D) (p : V × V) => p.1 = kV k.1 ∧ RS c.K (owOf c fT fV) H' k.2 p.2) kds ps → Post m H H' e e' → Qv kds e' → Q ps H') → (∀ x d e' H', R c T σ e' H' → XAt H' x d → Qx x e' → W (.ref x.C) d σ H') → tPairs trs σ H Q
def vpNil : VTP := fun e Q _ => Q [] e
def vpCons (fa fb : VT) (r : VTP) : VTP := fun e Q Qx => fa e (fun kd e1 => ∃ k, kd = kD k ∧ fb e1 (fun d e2 => r e2 (fun ps e3 => Q ((k, d) :: ps) e3) Qx) Qx) Qx
variable {trs : List (TE × TE)} {fp : VTP}
theorem vp_nil : VPs c W m [] vpNil := fun T σ e H Q Qv Qx ⟨fT, fV, hR⟩ hf hn hx => hn fT fV [] [] e H hR .nil (Post.refl _ _ _) hf
theorem vp_cons (ha : VE c W m ta .s fa) (hb : VE c W m tb .s fb) (hr : VPs c W m trs fp) : VPs c W m ((ta, tb) :: trs) (vpCons fa fb fp) := fun T σ e H Q Qv Qx hR hf hn hx => by
  refine ha T σ e H _ _ Qx hR hf (fun x dx e1 H1 R1 P1 ⟨k, ek, h1⟩ => ?_) hx
  subst ek
  have ex : x = kV k := by
    obtain ⟨fT, fV, X1⟩ := R1
    exact X1.topS.1.b.key
  refine hb T σ e1 H1 _ _ Qx R1.pop h1 (fun y dy e2 H2 R2 P2 h2 => ?_) hx
  refine hr _ σ e2 H2 _ _ Qx R2 h2 (fun fT fV ps kds e3 H3 X3 rs P3 h3 => ?_) (fun xn d e' H' R' X' q' => hx xn d e' H' R'.pop X' q')
  obtain ⟨ry, X3⟩ := X3.topS
  exact hn fT fV _ _ e3 H3 X3 (.cons ⟨ex, ry⟩ rs) (P1.trans (P2.trans P3)) h3
def ndK (ks : List Key) : Bool := decide ks.Nodup
def vDisp (fp : VTP) : VT := fun e Q Qx => fp e (fun kd e1 => ndK (kd.map (·.1)) = true ∧ kd.length ≤ 15 ∧ Q (.dct (kd.map (·.1)) (kd.map (·.2))) e1) Qx
theorem merge_nodup : ∀ (kvs acc : List (Key × V)), ((acc ++ kvs).map (·.1)).Nodup → mergeK acc kvs = acc ++ kvs
  | [], acc, _ => by simp [mergeK]
  | kv :: kvs, acc, h => by
    have hk : (acc.any fun z => decide (z.1 = kv.1)) = false := by
      rw [List.any_eq_false]
      intro z hz
      simp only [decide_eq_true_eq]
      intro e
      rw [List.map_append, List.nodup_append] at h
      exact h.2.2 z.1 (List.mem_map_of_mem hz) kv.1 (List.mem_map_of_mem List.mem_cons_self) e
    have e : putK acc kv.1 kv.2 = acc ++ [kv] := by
      unfold putK
      rw [hk]
      simp
    show mergeK (putK acc kv.1 kv.2) kvs = _
    rw [e, merge_nodup kvs (acc ++ [kv]) (by simpa using h)]
    simp
theorem v_disp (hp : VPs c W m trs fp) : VE c W m (tDisp trs) (.d fun _ => .s) (vDisp fp) := fun T σ e H Q Qv Qx hR hf hn hx => by
  intro p np
  obtain ⟨fT0, fV0, X0⟩ := hR
  have X1 : RX c ([p] ++ fT0) fV0 ((.d fun _ => .s, .ref p, .dct [] []) :: T) σ e (upd H p (.dK [])) := X0.pushO (same_new np) (by simp) (fun a z => by rw [List.mem_singleton.mp z]; exact np) (by
    simp only [RO]
    exact ⟨p, [], [], rfl, upd_same, rfl, by simp only [ROs, List.map_nil]; exact ⟨trivial, trivial, trivial⟩, rfl⟩)
  refine hp _ σ e _ _ _ Qx ⟨_, _, X1⟩ hf (fun fT fV ps kds e1 H1 X2 rs P q => ?_) (fun xn d e' H' R' X' q' => hx xn d e' H' R'.pop X' q')
  obtain ⟨nd, h15, q⟩ := q
  have nd : (kds.map (·.1)).Nodup := of_decide_eq_true nd
  obtain ⟨fpp, fT', e1', ro, nf, k⟩ := X2.updT
  simp only [RO] at ro
  obtain ⟨a, vs, fps, ea, ha, hl, t, rfl⟩ := ro
  cases ea
  simp only [ROs, List.map_nil] at t
  obtain ⟨-, rfl, rfl⟩ := t
  have ha : H1 p = some (.dK []) := ha
  -- the pairs
  have key : ∀ (kd : List (Key × D)) (ps : List (V × V)), Paired (fun (k : Key × D) (p : V × V) => p.1 = kV k.1 ∧ RS c.K (owOf c fT fV) H1 k.2 p.2) kd ps → ∃ ws, ps = ((kd.map (·.1)).zip ws).map (fun kv => (kV kv.1, kv.2)) ∧ RSs c.K (owOf c fT fV) H1 (kd.map (·.2)) ws := fun kd => by
    induction kd with
    | nil =>
      intro ps h
      cases h
      exact ⟨[], rfl, .nil⟩
    | cons z kd ih =>
      intro ps h
      cases h with
      | cons h1 h2 =>
        rename_i y ys
        obtain ⟨ws, e, r⟩ := ih _ h2
        refine ⟨y.2 :: ws, ?_, .cons h1.2 r⟩
        rw [List.map_cons, List.zip_cons_cons, List.map_cons, ← e, ← h1.1]
  obtain ⟨ws, eps, rws⟩ := key kds ps rs
  have lw := rws.len
  rw [List.length_map] at lw
  refine ⟨ha, (kds.map (·.1)).zip ws, eps, by rw [List.length_zip, List.length_map, lw, Nat.min_self]; exact h15, ?_⟩
  have em : mergeK [] ((kds.map (·.1)).zip ws) = (kds.map (·.1)).zip ws := by
    rw [merge_nodup _ [] (by
      rw [List.nil_append, List.map_fst_zip (by rw [List.length_map, lw]; exact Nat.le_refl _)]
      exact nd)]
    rfl
  rw [em]
  have nfx : ∀ u, H1 p = some u → ¬ Fx u := fun u z => by rw [ha] at z; cases z; exact id
  refine hn _ _ e1 _ ⟨_, fV, k (upd H1 p (.dK ((kds.map (·.1)).zip ws))) (.dct (kds.map (·.1)) (kds.map (·.2))) [p] (fun b o z n => ?_) (ExtT.upd nfx) al_upd (by simp) (fun b z => .inl z) fun ow' how => ?_⟩ (fun z => ?_) q
  · rw [upd_ne (fun y => n (by rw [y]; exact List.mem_singleton_self p))]
    exact z
  · have F : Fr (owOf c fT fV) H1 (upd H1 p (.dK ((kds.map (·.1)).zip ws))) := ⟨fun b o z n => by
      rw [upd_ne (fun y => n (.inl (by rw [y, e1']; simp)))]
      exact z, ExtT.upd nfx⟩
    have r' := RSs.fr F how _ _ rws
    simp only [RO]
    refine ⟨p, ws, [], rfl, upd_same, by rw [List.length_map, lw], ?_, rfl⟩
    have z := ROs_s.mpr ⟨rfl, r'⟩
    have e : (kds.map (·.1)).map (fun _ => Sh.s) = (kds.map (·.2)).map fun _ => Sh.s := by simp [List.map_map, Function.comp_def]
    rw [e]
    exact z
  · intro b o eb
    rw [upd_ne (ne_of_none eb np)]
    exact P z b o (same_new np b o eb)
/-! methods of texts and lists -/
def MtD (K : PySem.W.Frag) (r : V → List V → Hp → VK → Prop) (g : D → D → (D → Prop) → Prop) : Prop := ∀ (ow : Addr → Prop) (H : Hp) (x y : V) (dx dy : D) (Q : VK) (Qd : D → Prop), RB K ow H dx x → RB K ow H dy y → g dx dy Qd → (∀ z v, RS K ow H z v → Qd z → Q v H) → r x [y] H Q
def isStr : D → Prop
  | .str _ => True
  | _ => False
def vM1 (g : G2) (fa fb : VT) : VT := fun e Q Qx => fa e (fun x e1 => isStr x ∧ fb e1 (fun y e2 => g x y fun z => Q z e2) Qx) Qx
theorem RX.str {fT fV : List Addr} {T : List Tm} {σ : L2.St} {e : Env} {H : Hp} {x : V} {d : D} (h : RX c fT fV ((.s, x, d) :: T) σ e H) (i : isStr d) : ∃ a, x = .str a := by
  cases d <;> first | exact i.elim | skip
  exact ⟨_, h.topS.1.b.str⟩
theorem v_m1 {r : V → List V → Hp → VK → Prop} {g : G2} (ha : VE c W m ta .s fa) (hb : VE c W m tb .s fb) (ho : MtD c.K r g) : VE c W m (tM1 r ta tb) .s (vM1 g fa fb) := fun T σ e H Q Qv Qx hR hf hn hx => by
  refine ha T σ e H _ _ Qx hR hf (fun x dx e1 H1 R1 P1 ⟨i, h1⟩ => ?_) hx
  obtain ⟨fT, fV, X1⟩ := R1
  refine ⟨X1.str i, hb ((.s, x, dx) :: T) σ e1 H1 _ _ Qx ⟨fT, fV, X1⟩ h1 (fun y dy e2 H2 R2 P2 q => ?_) (fun xn d e' H' R' X' q' => hx xn d e' H' R'.pop X' q')⟩
  obtain ⟨gT, gV, X2⟩ := R2
  obtain ⟨ry, X2⟩ := X2.topS
  obtain ⟨rx, X2⟩ := X2.topS
  exact ho _ H2 x y dx dy Q _ rx.b ry.b q fun z v rz qz => hn v z e2 H2 ⟨gT, gV, X2.pushS rz⟩ (P1.trans P2) qz
def gJoin : G2
  | .str a, .lst l, Q => ∃ ys : List Str, l = ys.map D.str ∧ (ys.map (·.length)).sum + ys.length * a.length ≤ 16777216 ∧ Q (.str (Txt.join a ys))
  | .str a, .tup l, Q => ∃ ys : List Str, l = ys.map D.str ∧ (ys.map (·.length)).sum + ys.length * a.length ≤ 16777216 ∧ Q (.str (Txt.join a ys))
  | _, _, _ => False
theorem RSs.strs {K : PySem.W.Frag} {ow : Addr → Prop} {H : Hp} {ns : List Str} {vs : List V} (h : RSs K ow H (ns.map D.str) vs) : vs = ns.map V.str := by
  rw [h.sc (by
    rw [List.all_eq_true]
    intro d hd
    obtain ⟨n, _, rfl⟩ := List.mem_map.mp hd
    rfl), List.map_map]
  rfl
theorem md_join {K : PySem.W.Frag} : MtD K (fun x xs H Q => ∃ a p, ∃ ys : List Str, x = .str a ∧ xs = [.ref p] ∧ (SqL K H p (ys.map V.str) ∨ SqT K H p (ys.map V.str)) ∧ (ys.map (·.length)).sum + ys.length * a.length ≤ 16777216 ∧ Q (.str (Txt.join a ys)) H) gJoin := fun ow H x y dx dy Q Qd rx ry hg hn => by
  cases dx <;> first | exact hg.elim | skip
  cases dy <;> first | exact hg.elim | skip
  · obtain ⟨ys, rfl, hz, q⟩ := hg
    obtain ⟨a, vs, rfl, s, r⟩ := ry.tup
    have e := r.strs
    subst e
    exact ⟨_, a, ys, rx.str, rfl, .inr s, hz, hn _ _ rs_str q⟩
  · obtain ⟨ys, rfl, hz, q⟩ := hg
    obtain ⟨a, vs, rfl, s, r⟩ := ry.lst
    have e := r.strs
    subst e
    exact ⟨_, a, ys, rx.str, rfl, .inl s.sq, hz, hn _ _ rs_str q⟩
theorem v_join (ha : VE c W m ta .s fa) (hb : VE c W m tb .s fb) : VE c W m (tM1 (fun x xs H Q => ∃ a p, ∃ ys : List Str, x = .str a ∧ xs = [.ref p] ∧ (SqL c.K H p (ys.map V.str) ∨ SqT c.K H p (ys.map V.str)) ∧ (ys.map (·.length)).sum + ys.length * a.length ≤ 16777216 ∧ Q (.str (Txt.join a ys)) H) ta tb) .s (vM1 gJoin fa fb) := v_m1 ha hb md_join
def vSplit (fa fb : VT) : VT := fun e Q Qx => fa e (fun x e1 => isStr x ∧ fb e1 (fun y e2 => ∃ a b, x = .str a ∧ y = .str b ∧ (b.length == 0) = false ∧ a.length + 2 ≤ sizeLine ∧ Q (.lst ((Txt.split a b).map D.str)) e2) Qx) Qx
theorem rs_strs {K : PySem.W.Frag} {ow : Addr → Prop} {H : Hp} : ∀ ys : List Str, RSs K ow H (ys.map D.str) (ys.map V.str)
  | [] => .nil
  | y :: ys => .cons rs_str (rs_strs ys)
theorem v_split (ha : VE c W m ta .s fa) (hb : VE c W m tb .s fb) : VE c W m (tM1 (fun x xs H Q => ∃ a b, x = .str a ∧ xs = [.str b] ∧ (b.length == 0) = false ∧ a.length + 2 ≤ sizeLine ∧ rNewStrs (Txt.split a b) H Q) ta tb) (.l .s) (vSplit fa fb) := fun T σ e H Q Qv Qx hR hf hn hx => by
  refine ha T σ e H _ _ Qx hR hf (fun x dx e1 H1 R1 P1 ⟨i, h1⟩ => ?_) hx
  obtain ⟨fT, fV, X1⟩ := R1
  refine ⟨X1.str i, hb ((.s, x, dx) :: T) σ e1 H1 _ _ Qx ⟨fT, fV, X1⟩ h1 (fun y dy e2 H2 R2 P2 ⟨a, b, ea, eb, hz, hl, q⟩ => ?_) (fun xn d e' H' R' X' q' => hx xn d e' H' R'.pop X' q')⟩
  subst ea eb
  obtain ⟨gT, gV, X2⟩ := R2
  obtain ⟨ry, X2⟩ := X2.topS
  obtain ⟨rx, X2⟩ := X2.topS
  exact ⟨a, b, rx.b.str, by rw [ry.b.str], hz, hl, fun p np => hn _ _ e2 _ (X2.newL np (rs_strs _)) (P1.trans (P2.trans (Post.same (same_new np)))) q⟩
def vIndexD (fa fb : VT) : VT := fun e Q Qx => fa e (fun x e1 => ∃ l, x = .lst l ∧ fb e1 (fun y e2 => plains l = true ∧ plain y = true ∧ SeqAt.shaped (.list (pys l)) = true ∧ SeqAt.shaped (py y) = true ∧ ∃ (j : Nat) (z : PyData), (pys l)[j]? = some z ∧ PyData.eqv z (py y) = true ∧
  (∀ (k : Nat) (z' : PyData), k < j → (pys l)[k]? = some z' → PyData.eqv z' (py y) = false) ∧ Q (.int (j : Nat)) e2) Qx) Qx
theorem v_indexD (ha : VE c W m ta .s fa) (hb : VE c W m tb .s fb) : VE c W m (tBM c.K "list" (rIndexD c.K) ta (tCons tb tNil)) .s (vIndexD fa fb) := fun T σ e H Q Qv Qx hR hf hn hx => by
  refine ha T σ e H _ _ Qx hR hf (fun x dx e1 H1 R1 P1 ⟨l, ex, h1⟩ => ?_) hx
  subst ex
  obtain ⟨fT, fV, X1⟩ := R1
  obtain ⟨rx, _⟩ := X1.topS
  obtain ⟨a, vs, ea, s, r⟩ := rx.b.lst
  subst ea
  refine ⟨.inl ⟨rfl, vs, s.sq⟩, hb ((.s, .ref a, .lst l) :: T) σ e1 H1 _ _ Qx ⟨fT, fV, X1⟩ h1 (fun y dy e2 H2 R2 P2 ⟨g1, g2, g3, g4, j, z, g5, g6, g7, q⟩ => ?_) (fun xn d e' H' R' X' q' => hx xn d e' H' R'.pop X' q')⟩
  obtain ⟨gT, gV, X2⟩ := R2
  obtain ⟨ry, X2⟩ := X2.topS
  obtain ⟨rx, X2⟩ := X2.topS
  have dl := rx.b.dp (by simpa only [plain] using g1)
  rw [py] at dl
  exact ⟨a, y, _, _, j, z, rfl, rfl, dl, ry.b.dp g2, g3, g4, g5, g6, g7, hn _ _ e2 H2 ⟨gT, gV, X2.pushS rs_int⟩ (P1.trans P2) q⟩
end
end VL
set_option Elab.async false
set_option linter.all false
set_option maxRecDepth 100000
set_option maxHeartbeats 2000000
namespace VL
open PySem PySem.Spec PyProof.Rows L2
/-! ### readings, opened -/
section
variable {i j n : Nat} {f g h : VTS} {fa fb fc fd : VT} {ft gt : VTB} {fA : VTA} {fl fh : VTO} {fi : VTI} {vg : VTG} {vgs : VTGs} {e : Env} {Q : QV} {QB : Bool → Env → Prop} {QA : List D → Env → Prop} {QO : Option Int → Env → Prop} {Qx : QX} {U : VEnds} {QE : Env → Prop} {d x y : D} {l : List D}
@[simp] theorem s_seq : vSeq f g U e = f { U with nx := g U } e := rfl
@[simp] theorem s_next : vNext U e = U.nx e := rfl
@[simp] theorem s_break : vBreak U e = U.bk e := rfl
@[simp] theorem s_cont : vCont U e = U.ct e := rfl
@[simp] theorem s_set : vSet i fa U e = fa e (fun d e1 => U.nx (e1.set i (some d))) U.ex := rfl
@[simp] theorem s_ret : vRet fa U e = fa e U.rt U.ex := rfl
@[simp] theorem s_retN : vRetN U e = U.rt .non e := rfl
@[simp] theorem s_drop : vDrop fa U e = fa e (fun _ e1 => U.nx e1) U.ex := rfl
@[simp] theorem s_ifS : vIfS ft f g U e = ft e (fun b e1 => if b = true then f U e1 else g U e1) U.ex := rfl
@[simp] theorem s_for : vFor fi vg f U e = fi e (fun ds e1 => vForL vg f U ds e1) U.ex := rfl
@[simp] theorem s_asg : vAsg fa vg U e = fa e (fun d e1 => vg d e1 U.nx) U.ex := rfl
@[simp] theorem s_par : vPar i j fA U e = fA e (fun ds e1 => ∃ a b, ds = [a, b] ∧ U.nx ((e1.set i (some a)).set j (some b))) U.ex := rfl
@[simp] theorem s_var : vVar i e Q Qx = ∃ d, e[i]? = some (some d) ∧ Q d e := rfl
@[simp] theorem s_c : vC d e Q Qx = Q d e := rfl
@[simp] theorem s_op2 {g : G2} : vOp2 g fa fb e Q Qx = fa e (fun x e1 => fb e1 (fun y e2 => g x y fun z => Q z e2) Qx) Qx := rfl
@[simp] theorem s_op2L {g : G2L} : vOp2L g fa fb e Q Qx = fa e (fun x e1 => fb e1 (fun y e2 => g x y fun z => Q (.lst z) e2) Qx) Qx := rfl
@[simp] theorem s_op2T {g : G2L} : vOp2T g fa fb e Q Qx = fa e (fun x e1 => fb e1 (fun y e2 => g x y fun z => Q (.tup z) e2) Qx) Qx := rfl
@[simp] theorem s_ca {g : GA} : vCa g fA e Q Qx = fA e (fun xs e1 => g xs fun z => Q z e1) Qx := rfl
@[simp] theorem s_caL {g : GAL} : vCaL g fA e Q Qx = fA e (fun xs e1 => g xs fun z => Q (.lst z) e1) Qx := rfl
@[simp] theorem s_caT {g : GAL} : vCaT g fA e Q Qx = fA e (fun xs e1 => g xs fun z => Q (.tup z) e1) Qx := rfl
@[simp] theorem s_nil : vNil e QA Qx = QA [] e := rfl
@[simp] theorem s_cons : vCons fa fA e QA Qx = fa e (fun x e1 => fA e1 (fun xs e2 => QA (x :: xs) e2) Qx) Qx := rfl
@[simp] theorem s_tup : vTup fA e Q Qx = fA e (fun xs e1 => xs.length ≤ sizeLine ∧ Q (.tup xs) e1) Qx := rfl
@[simp] theorem s_lst : vLst fA e Q Qx = fA e (fun xs e1 => xs.length ≤ sizeLine ∧ Q (.lst xs) e1) Qx := rfl
@[simp] theorem s_test : vTest fa e QB Qx = fa e (fun d e1 => ∃ b, d = .bl b ∧ QB b e1) Qx := rfl
@[simp] theorem s_and : vAnd ft gt e QB Qx = ft e (fun b e1 => if b = true then gt e1 QB Qx else QB false e1) Qx := rfl
@[simp] theorem s_or : vOr ft gt e QB Qx = ft e (fun b e1 => if b = true then QB true e1 else gt e1 QB Qx) Qx := rfl
@[simp] theorem s_not : vNot ft e QB Qx = ft e (fun b e1 => QB (!b) e1) Qx := rfl
@[simp] theorem s_if : vIf ft fa fb e Q Qx = ft e (fun b e1 => if b = true then fa e1 Q Qx else fb e1 Q Qx) Qx := rfl
@[simp] theorem s_andV : vAndV fa fb e Q Qx = fa e (fun x e1 => ∃ b, x = .bl b ∧ if b = true then fb e1 Q Qx else Q (.bl false) e1) Qx := rfl
@[simp] theorem s_orV : vOrV fa fb e Q Qx = fa e (fun x e1 => ∃ b, x = .bl b ∧ if b = true then Q (.bl true) e1 else fb e1 Q Qx) Qx := rfl
@[simp] theorem s_notV : vNotV fa e Q Qx = fa e (fun x e1 => ∃ b, x = .bl b ∧ Q (.bl (!b)) e1) Qx := rfl
@[simp] theorem s_no : vNo e QO Qx = QO none e := rfl
@[simp] theorem s_part : vPart fa e QO Qx = fa e (fun d e1 => ∃ i, d = .int i ∧ QO (some i) e1) Qx := rfl
@[simp] theorem s_sl {g : D → Option Int → Option Int → (D → Prop) → Prop} : vSl g fa fl fh e Q Qx = fa e (fun x e1 => fl e1 (fun lo e2 => fh e2 (fun hi e3 => g x lo hi fun z => Q z e3) Qx) Qx) Qx := rfl
@[simp] theorem s_slL {g : D → Option Int → Option Int → (List D → Prop) → Prop} : vSlL g fa fl fh e Q Qx = fa e (fun x e1 => fl e1 (fun lo e2 => fh e2 (fun hi e3 => g x lo hi fun z => Q (.lst z) e3) Qx) Qx) Qx := rfl
@[simp] theorem s_slT {g : D → Option Int → Option Int → (List D → Prop) → Prop} : vSlT g fa fl fh e Q Qx = fa e (fun x e1 => fl e1 (fun lo e2 => fh e2 (fun hi e3 => g x lo hi fun z => Q (.tup z) e3) Qx) Qx) Qx := rfl
@[simp] theorem s_ls : vLs fa e QA Qx = fa e (fun d e1 => ∃ l, d = .lst l ∧ QA l e1) Qx := rfl
@[simp] theorem s_ts : vTs fa e QA Qx = fa e (fun d e1 => ∃ l, d = .tup l ∧ QA l e1) Qx := rfl
@[simp] theorem s_sgs : vSgs fa e QA Qx = fa e (fun d e1 => ∃ z, d = .str z ∧ QA (sgD z) e1) Qx := rfl
@[simp] theorem s_rng1 : vRng1 fA e QA Qx = fA e (fun ds e1 => ∃ j : Int, ds = [.int j] ∧ -(2 ^ 62) ≤ j ∧ j < 2 ^ 62 ∧ QA (rngD 0 j.toNat) e1) Qx := rfl
@[simp] theorem s_rng2 : vRng2 fA e QA Qx = fA e (fun ds e1 => ∃ i j : Int, ds = [.int i, .int j] ∧ (-(2 ^ 62) ≤ i ∧ i < 2 ^ 62 ∧ -(2 ^ 62) ≤ j ∧ j < 2 ^ 62) ∧ QA (rngD i (j - i).toNat) e1) Qx := rfl
@[simp] theorem s_gName : vgName i d e QE = QE (e.set i (some d)) := rfl
@[simp] theorem s_gNil : vgNil l e QE = (l = [] ∧ QE e) := rfl
@[simp] theorem s_gCons : vgCons vg vgs (d :: l) e QE = vg d e fun e1 => vgs l e1 QE := rfl
@[simp] theorem s_gTup : vgTup n vgs (.tup l) e QE = (l.length = n ∧ vgs l e QE) := rfl
theorem s_forNil : vForL vg f U [] e = U.nx e := rfl
theorem s_forCons : vForL vg f U (d :: l) e = vg d e fun e1 => f { U with nx := vForL vg f U l, ct := vForL vg f U l, bk := U.nx } e1 := rfl
@[simp] theorem s_lc {vs : List Nat} : vLc fi vs vg ft fa e Q Qx = fi e (fun ds e1 => vLcL vs vg ft fa (fun acc e2 => Q (.lst acc) e2) ds [] (wipeE e1 vs)) Qx := rfl
theorem s_lcNil {vs : List Nat} {acc : List D} : vLcL vs vg ft fa QA [] acc e = QA acc e := rfl
theorem s_lcCons {vs : List Nat} {acc : List D} : vLcL vs vg ft fa QA (d :: l) acc e = vg d e fun e1 => ft e1 (fun b e2 => if b = true then fa e2 (fun y e3 => acc.length < sizeLine ∧ vLcL vs vg ft fa QA l (acc ++ [y]) (wipeE e3 vs)) (fun _ _ => False) else vLcL vs vg ft fa QA l acc (wipeE e2 vs)) (fun _ _ => False) := rfl
@[simp] theorem s_yes : vYes e QB Qx = QB true e := rfl
@[simp] theorem s_append : vAppend i fa e Q Qx = ((∃ l, e[i]? = some (some (.lst l))) ∧ fa e (fun d e1 => ∃ l, e1[i]? = some (some (.lst l)) ∧ l.length < sizeLine ∧ Q .non (e1.set i (some (.lst (l ++ [d]))))) Qx) := rfl
@[simp] theorem s_call {sp : VSp} : vCall n sp fA e Q Qx = fA e (fun ds e1 => ds.length = n ∧ sp ds (fun r _ => Q r e1) fun _ _ => False) Qx := rfl
@[simp] theorem s_dget : vDGet fd fa e Q Qx = fd e (fun x e1 => fa e1 (fun y e2 => gDGet x y fun z => Q z e2) Qx) Qx := rfl
@[simp] theorem s_get2 : vGet2 fd fa fb e Q Qx = fd e (fun x e1 => (∃ ks l, x = .dct ks l) ∧ fa e1 (fun y e2 => fb e2 (fun z e3 => gGet2 x y z fun r => Q r e3) Qx) Qx) Qx := rfl
@[simp] theorem s_pNil {QP : List (Key × D) → Env → Prop} : vpNil e QP Qx = QP [] e := rfl
@[simp] theorem s_pCons {QP : List (Key × D) → Env → Prop} {r : VTP} : vpCons fa fb r e QP Qx = fa e (fun kd e1 => ∃ k, kd = kD k ∧ fb e1 (fun d e2 => r e2 (fun ps e3 => QP ((k, d) :: ps) e3) Qx) Qx) Qx := rfl
@[simp] theorem s_disp {fp : VTP} : vDisp fp e Q Qx = fp e (fun kd e1 => ndK (kd.map (·.1)) = true ∧ kd.length ≤ 15 ∧ Q (.dct (kd.map (·.1)) (kd.map (·.2))) e1) Qx := rfl
@[simp] theorem s_m1 {g : G2} : vM1 g fa fb e Q Qx = fa e (fun x e1 => isStr x ∧ fb e1 (fun y e2 => g x y fun z => Q z e2) Qx) Qx := rfl
@[simp] theorem s_split : vSplit fa fb e Q Qx = fa e (fun x e1 => isStr x ∧ fb e1 (fun y e2 => ∃ a b, x = .str a ∧ y = .str b ∧ (b.length == 0) = false ∧ a.length + 2 ≤ sizeLine ∧ Q (.lst ((Txt.split a b).map D.str)) e2) Qx) Qx := rfl
@[simp] theorem s_indexD : vIndexD fa fb e Q Qx = fa e (fun x e1 => ∃ l, x = .lst l ∧ fb e1 (fun y e2 => plains l = true ∧ plain y = true ∧ SeqAt.shaped (.list (pys l)) = true ∧ SeqAt.shaped (py y) = true ∧ ∃ (j : Nat) (z : PyData), (pys l)[j]? = some z ∧ PyData.eqv z (py y) = true ∧
  (∀ (k : Nat) (z' : PyData), k < j → (pys l)[k]? = some z' → PyData.eqv z' (py y) = false) ∧ Q (.int (j : Nat)) e2) Qx) Qx := rfl
@[simp] theorem s_w1 : wipeE e [i] = e.set i none := rfl
@[simp] theorem s_w2 : wipeE e [i, j] = (e.set j none).set i none := rfl
@[simp] theorem s_isStr {z : Str} : isStr (.str z) = True := rfl
end
section
variable {Q : D → Prop} {QL : List D → Prop} {i j : Int} {a b : Str} {p q : Bool} {l l2 : List D} {x : D} {lo hi : Option Int}
@[simp] theorem s_gI {C : Int → Int → Prop} {h : Int → Int → D} : gI C h (.int i) (.int j) Q = (C i j ∧ Q (h i j)) := rfl
@[simp] theorem s_gI0 {h : Int → Int → D} : gI0 h (.int i) (.int j) Q = Q (h i j) := rfl
@[simp] theorem s_gAddS : gAddS (.str a) (.str b) Q = (a.length + b.length ≤ sizeLine ∧ Q (.str (a ++ b))) := rfl
@[simp] theorem s_gS {p : Str → Str → Bool} : gS p (.str a) (.str b) Q = Q (.bl (p a b)) := rfl
@[simp] theorem s_gSg {p : Nat → Str → Bool} : gSg p (.str a) (.str b) Q = ∃ c, a = ⟨#[c]⟩ ∧ Q (.bl (p c b)) := rfl
@[simp] theorem s_gEqI : gEq (.int i) (.int j) Q = Q (.bl (decide (i = j))) := by simp [gEq, scalD, isSc, scV, scal, eqD]
@[simp] theorem s_gEqS : gEq (.str a) (.str b) Q = Q (.bl (decide (a = b))) := by simp [gEq, scalD, isSc, scV, scal, eqD]
@[simp] theorem s_gEqB : gEq (.bl p) (.bl q) Q = Q (.bl (decide (p = q))) := by simp [gEq, scalD, isSc, scV, scal, eqD]
@[simp] theorem s_gEqNI : gEq .non (.int j) Q = Q (.bl false) := by simp [gEq, scalD, isSc, scV, scal, eqD]
@[simp] theorem s_gEqIS : gEq (.int i) (.str b) Q = Q (.bl false) := by simp [gEq, scalD, isSc, scV, scal, eqD]
@[simp] theorem s_gEqSI : gEq (.str a) (.int j) Q = Q (.bl false) := by simp [gEq, scalD, isSc, scV, scal, eqD]
@[simp] theorem s_gNeI : gNe (.int i) (.int j) Q = Q (.bl (!decide (i = j))) := by simp [gNe, scalD, isSc, scV, scal, eqD]
@[simp] theorem s_gNeS : gNe (.str a) (.str b) Q = Q (.bl (!decide (a = b))) := by simp [gNe, scalD, isSc, scV, scal, eqD]
@[simp] theorem s_gIsN : gIsN x .non Q = Q (.bl (isNon x)) := by simp only [gIsN]
@[simp] theorem s_gNotN : gNotN x .non Q = Q (.bl (!isNon x)) := by simp only [gNotN]
@[simp] theorem s_isNon0 : isNon .non = true := rfl
@[simp] theorem s_isNonI : isNon (.int i) = false := rfl
@[simp] theorem s_isNonS : isNon (.str a) = false := rfl
@[simp] theorem s_isNonT : isNon (.tup l) = false := rfl
@[simp] theorem s_isNonL : isNon (.lst l) = false := rfl
@[simp] theorem s_gIxL : gIxL (.lst l) (.int i) Q = ∃ d, atI l i = some d ∧ Q d := rfl
@[simp] theorem s_gIxT : gIxT (.tup l) (.int i) Q = ∃ d, atI l i = some d ∧ Q d := rfl
@[simp] theorem s_gIxS : gIxS (.str a) (.int i) Q = (a.length ≤ sizeLine ∧ ∃ c, atI a.cps.toList i = some c ∧ Q (.str ⟨#[c]⟩)) := rfl
@[simp] theorem s_gInL {neg : Bool} : gIn neg x (.lst l) Q = (isSc x = true ∧ l.all isSc = true ∧ Q (.bl (if neg then !inV (scV x) (l.map scV) else inV (scV x) (l.map scV)))) := by simp only [gIn]
@[simp] theorem s_gInT {neg : Bool} : gIn neg x (.tup l) Q = (isSc x = true ∧ l.all isSc = true ∧ Q (.bl (if neg then !inV (scV x) (l.map scV) else inV (scV x) (l.map scV)))) := by simp only [gIn]
@[simp] theorem s_gInD {neg : Bool} : gInD neg x (.lst l) Q = (plain x = true ∧ plains l = true ∧ SeqAt.shaped (py x) = true ∧ SeqAt.shaped (.list (pys l)) = true ∧ Q (.bl (if neg then !(pys l).any fun z => PyData.eqv z (py x) else (pys l).any fun z => PyData.eqv z (py x)))) := by simp only [gInD]
@[simp] theorem s_gCat : gCat (.lst l) (.lst l2) QL = (l.length + l2.length ≤ sizeLine ∧ QL (l ++ l2)) := rfl
@[simp] theorem s_gCatT : gCatT (.tup l) (.tup l2) QL = (l.length + l2.length ≤ sizeLine ∧ QL (l ++ l2)) := rfl
@[simp] theorem s_gSlL : gSlL (.lst l) lo hi QL = QL (cuD l lo hi) := rfl
@[simp] theorem s_gSlT : gSlT (.tup l) lo hi QL = QL (cuD l lo hi) := rfl
@[simp] theorem s_gSlS : gSlS (.str a) lo hi Q = (a.length ≤ sizeLine ∧ Q (.str (cutS a lo hi))) := rfl
@[simp] theorem s_gLenL : gLen [.lst l] Q = Q (.int l.length) := rfl
@[simp] theorem s_gLenT : gLen [.tup l] Q = Q (.int l.length) := rfl
@[simp] theorem s_gLenS : gLenS [.str a] Q = (a.length ≤ sizeLine ∧ Q (.int a.length)) := rfl
@[simp] theorem s_gSum : gSum [.lst l] Q = ∃ ns : List Int, l = ns.map D.int ∧ Q (.int ns.sum) := rfl
@[simp] theorem s_gI2 {h : Int → Int → D} : gI2 h [.int i, .int j] Q = Q (h i j) := rfl
@[simp] theorem s_gInt1 : gInt1 [.int i] Q = Q (.int i) := rfl
@[simp] theorem s_gInt1b : gInt1 [.bl p] Q = Q (.int (if p then 1 else 0)) := rfl
@[simp] theorem s_gStrI : gStrI [.int i] Q = (i.natAbs.log2 < 1920 ∧ Q (.str (toString i))) := rfl
@[simp] theorem s_gAll : gAll [.lst l] Q = ∃ bs : List Bool, l = bs.map D.bl ∧ Q (.bl (bs.all id)) := rfl
@[simp] theorem s_gSeqL : gSeq [.lst l] QL = QL l := rfl
@[simp] theorem s_gSeqT : gSeq [.tup l] QL = QL l := rfl
@[simp] theorem s_gDGet {ks : List Key} : gDGet (.dct ks l) x Q = ∃ k d, x = kD k ∧ getK ks l k = some d ∧ Q d := rfl
@[simp] theorem s_gGet2 {ks : List Key} {y : D} : gGet2 (.dct ks l) x y Q = ∃ k, x = kD k ∧ Q ((getK ks l k).getD y) := rfl
@[simp] theorem s_kDs {k : Key} : (D.str a = kD k) = (k = .inr a) := by
  cases k <;> simp [kD, eq_comm]
@[simp] theorem s_kDi {k : Key} : (D.int i = kD k) = (k = .inl i) := by
  cases k <;> simp [kD, eq_comm]
@[simp] theorem s_ioN {e : Env} : ioP [] e = [] := by simp only [ioP]
@[simp] theorem s_ioS {M : List Sh} {y : Option D} {e : Env} : ioP (.s :: M) (y :: e) = none :: ioP M e := by simp only [ioP]
@[simp] theorem s_ioL {M : List Sh} {s : Sh} {y : Option D} {e : Env} : ioP (.l s :: M) (y :: e) = y :: ioP M e := by simp only [ioP]
@[simp] theorem s_ioD {M : List Sh} {s : Key → Sh} {y : Option D} {e : Env} : ioP (.d s :: M) (y :: e) = y :: ioP M e := by simp only [ioP]
@[simp] theorem s_ioO {M : List Sh} {s : Str → Sh} {y : Option D} {e : Env} : ioP (.o s :: M) (y :: e) = y :: ioP M e := by simp only [ioP]
@[simp] theorem s_nones0 : nones [] = [] := rfl
@[simp] theorem s_nones1 {s : Sh} {M : List Sh} : nones (s :: M) = none :: nones M := rfl
end
/-! places in a list -/
@[simp] theorem atI_0 {α : Type} {a : α} {r : List α} : atI (a :: r) 0 = some a := by simp [atI, ixN]
theorem atI_n {α : Type} {l : List α} {n : Nat} : atI l (n : Int) = l[n]? := by
  unfold atI ixN
  by_cases h : n < l.length
  · rw [if_pos (by omega), if_pos (by omega)]
    rfl
  · rw [if_pos (by omega), if_neg (by omega), List.getElem?_eq_none (by omega)]
    rfl
@[simp] theorem atI_1 {α : Type} {a b : α} {r : List α} : atI (a :: b :: r) 1 = some b := by
  have h : ((1 : Int)) = ((1 : Nat) : Int) := rfl
  rw [h, atI_n]
  rfl
@[simp] theorem atI_2 {α : Type} {a b c : α} {r : List α} : atI (a :: b :: c :: r) 2 = some c := by
  have h : ((2 : Int)) = ((2 : Nat) : Int) := rfl
  rw [h, atI_n]
  rfl
@[simp] theorem atI_3 {α : Type} {a b c d : α} {r : List α} : atI (a :: b :: c :: d :: r) 3 = some d := by
  have h : ((3 : Int)) = ((3 : Nat) : Int) := rfl
  rw [h, atI_n]
  rfl
@[simp] theorem atI_4 {α : Type} {a b c d e : α} {r : List α} : atI (a :: b :: c :: d :: e :: r) 4 = some e := by
  have h : ((4 : Int)) = ((4 : Nat) : Int) := rfl
  rw [h, atI_n]
  rfl
@[simp] theorem atI_5 {α : Type} {a b c d e f : α} {r : List α} : atI (a :: b :: c :: d :: e :: f :: r) 5 = some f := by
  have h : ((5 : Int)) = ((5 : Nat) : Int) := rfl
  rw [h, atI_n]
  rfl
theorem small {n : Nat} (h : n ≤ 100000) : n ≤ sizeLine := Nat.le_trans h (by decide)
theorem smallL {n : Nat} (h : n < 100000) : n < sizeLine := Nat.lt_of_lt_of_le h (by decide)
end VL
set_option Elab.async false
set_option linter.all false
set_option maxRecDepth 100000
set_option maxHeartbeats 2000000
namespace VL
open PySem PySem.Spec PyProof.Rows L2
/-! ### loops, closed -/
abbrev noX : QX := fun _ _ => False
theorem lc_map {vs : List Nat} {vg : VTG} {ft : VTB} {fe : VT} {Q : List D → Env → Prop} {e : Env} (g : D → D) : ∀ (ds acc : List D), acc.length + ds.length ≤ sizeLine →
    (∀ d ∈ ds, ∀ (A : D → Env → Prop) (B : Env → Prop), (∀ e3, wipeE e3 vs = e → A (g d) e3) → vg d e fun e1 => ft e1 (fun b e2 => if b = true then fe e2 A noX else B e2) noX) → Q (acc ++ ds.map g) e → vLcL vs vg ft fe Q ds acc e
  | [], acc, _, _, q => by simpa [vLcL] using q
  | d :: ds, acc, hl, h, q => by
    rw [List.length_cons] at hl
    rw [s_lcCons]
    refine h d List.mem_cons_self _ _ fun e3 he => ⟨by omega, ?_⟩
    rw [he]
    refine lc_map g ds (acc ++ [g d]) (by rw [List.length_append, List.length_singleton]; omega) (fun d' z => h d' (List.mem_cons_of_mem _ z)) ?_
    simpa using q
theorem lc_filter {vs : List Nat} {vg : VTG} {ft : VTB} {fe : VT} {Q : List D → Env → Prop} {e : Env} (p : D → Bool) (g : D → D) : ∀ (ds acc : List D), acc.length + ds.length ≤ sizeLine →
    (∀ d ∈ ds, ∀ (A : D → Env → Prop) (B : Env → Prop), (p d = true → ∀ e3, wipeE e3 vs = e → A (g d) e3) → (p d = false → ∀ e2, wipeE e2 vs = e → B e2) → vg d e fun e1 => ft e1 (fun b e2 => if b = true then fe e2 A noX else B e2) noX) → Q (acc ++ (ds.filter p).map g) e → vLcL vs vg ft fe Q ds acc e
  | [], acc, _, _, q => by simpa [vLcL] using q
  | d :: ds, acc, hl, h, q => by
    rw [List.length_cons] at hl
    rw [s_lcCons]
    refine h d List.mem_cons_self _ _ (fun hp e3 he => ⟨by omega, ?_⟩) (fun hp e2 he => ?_)
    · rw [he]
      refine lc_filter p g ds (acc ++ [g d]) (by rw [List.length_append, List.length_singleton]; omega) (fun d' z => h d' (List.mem_cons_of_mem _ z)) ?_
      rw [List.filter_cons, if_pos hp] at q
      simpa using q
    · rw [he]
      refine lc_filter p g ds acc (by omega) (fun d' z => h d' (List.mem_cons_of_mem _ z)) ?_
      rw [List.filter_cons, if_neg (by rw [hp]; exact Bool.false_ne_true)] at q
      exact q
theorem for_fold {α : Type} {vg : VTG} {f : VTS} {U : VEnds} (env : α → Env) (step : α → D → α) (I : List D → α → Prop) (h : ∀ d ds s, I (d :: ds) s → I ds (step s d) ∧ ∀ K : Env → Prop, K (env (step s d)) → vg d (env s) fun e1 => f { U with nx := K, ct := K, bk := U.nx } e1) :
    ∀ (ds : List D) (s : α), I ds s → (I [] (ds.foldl step s) → U.nx (env (ds.foldl step s))) → vForL vg f U ds (env s)
  | [], s, i, q => q i
  | d :: ds, s, i, q => by
    rw [s_forCons]
    obtain ⟨i2, k⟩ := h d ds s i
    exact k _ (for_fold env step I h ds (step s d) i2 q)
theorem lc_mapF {α : Type} {vs : List Nat} {vg : VTG} {ft : VTB} {fe : VT} {Q : List D → Env → Prop} {e : Env} (f g : α → D) : ∀ (as : List α) (acc : List D), acc.length + as.length ≤ sizeLine →
    (∀ a ∈ as, ∀ (A : D → Env → Prop) (B : Env → Prop), (∀ e3, wipeE e3 vs = e → A (g a) e3) → vg (f a) e fun e1 => ft e1 (fun b e2 => if b = true then fe e2 A noX else B e2) noX) → Q (acc ++ as.map g) e → vLcL vs vg ft fe Q (as.map f) acc e
  | [], acc, _, _, q => by simpa [vLcL] using q
  | a :: as, acc, hl, h, q => by
    rw [List.length_cons] at hl
    rw [List.map_cons, s_lcCons]
    refine h a List.mem_cons_self _ _ fun e3 he => ⟨by omega, ?_⟩
    rw [he]
    refine lc_mapF f g as (acc ++ [g a]) (by rw [List.length_append, List.length_singleton]; omega) (fun d' z => h d' (List.mem_cons_of_mem _ z)) ?_
    simpa using q
theorem lc_filterF {α : Type} {vs : List Nat} {vg : VTG} {ft : VTB} {fe : VT} {Q : List D → Env → Prop} {e : Env} (f : α → D) (p : α → Bool) (g : α → D) : ∀ (as : List α) (acc : List D), acc.length + as.length ≤ sizeLine →
    (∀ a ∈ as, ∀ (A : D → Env → Prop) (B : Env → Prop), (p a = true → ∀ e3, wipeE e3 vs = e → A (g a) e3) → (p a = false → ∀ e2, wipeE e2 vs = e → B e2) → vg (f a) e fun e1 => ft e1 (fun b e2 => if b = true then fe e2 A noX else B e2) noX) → Q (acc ++ (as.filter p).map g) e → vLcL vs vg ft fe Q (as.map f) acc e
  | [], acc, _, _, q => by simpa [vLcL] using q
  | a :: as, acc, hl, h, q => by
    rw [List.length_cons] at hl
    rw [List.map_cons, s_lcCons]
    refine h a List.mem_cons_self _ _ (fun hp e3 he => ⟨by omega, ?_⟩) (fun hp e2 he => ?_)
    · rw [he]
      refine lc_filterF f p g as (acc ++ [g a]) (by rw [List.length_append, List.length_singleton]; omega) (fun d' z => h d' (List.mem_cons_of_mem _ z)) ?_
      rw [List.filter_cons, if_pos hp] at q
      simpa using q
    · rw [he]
      refine lc_filterF f p g as acc (by omega) (fun d' z => h d' (List.mem_cons_of_mem _ z)) ?_
      rw [List.filter_cons, if_neg (by rw [hp]; exact Bool.false_ne_true)] at q
      exact q
/-- a for over things of a list, by what holds of those gone through -/
theorem for_pre {α : Type} {vg : VTG} {f : VTS} {U : VEnds} (g : α → D) (as : List α) (I : List α → Env → Prop) (h : ∀ pre a post, as = pre ++ a :: post → ∀ e, I pre e → ∀ K : Env → Prop, (∀ e', I (pre ++ [a]) e' → K e') → vg (g a) e fun e1 => f { U with nx := K, ct := K, bk := U.nx } e1) (hd : ∀ e, I as e → U.nx e) {e : Env} (h0 : I [] e) : vForL vg f U (as.map g) e := by
  have key : ∀ (post pre : List α) (e : Env), as = pre ++ post → I pre e → vForL vg f U (post.map g) e := fun post => by
    induction post with
    | nil =>
      intro pre e ea i
      rw [List.append_nil] at ea
      subst ea
      exact hd e i
    | cons a post ih =>
      intro pre e ea i
      rw [List.map_cons, s_forCons]
      exact h pre a post ea e i _ fun e' i' => ih (pre ++ [a]) e' (by rw [ea]; simp) i'
  exact key as [] e rfl h0
/-- a for by what holds between two turns -/
theorem for_inv {α : Type} {vg : VTG} {f : VTS} {U : VEnds} (I : List D → Env → Prop) (h : ∀ d ds e, I (d :: ds) e → ∀ K : Env → Prop, (∀ e', I ds e' → K e') → vg d e fun e1 => f { U with nx := K, ct := K, bk := U.nx } e1) (hd : ∀ e, I [] e → U.nx e) : ∀ (ds : List D) (e : Env), I ds e → vForL vg f U ds e
  | [], e, i => hd e i
  | d :: ds, e, i => by
    rw [s_forCons]
    exact h d ds e i _ fun e' i' => for_inv (α := α) I h hd ds e' i'
end VL
set_option Elab.async false
set_option linter.all false
set_option maxRecDepth 100000
set_option maxHeartbeats 2000000
namespace VL
open PySem PySem.Spec PyProof.Rows L2
/-! ### calls that are handed a thing of one's own -/
section
variable {K : PySem.W.Frag} {ow ow' : Addr → Prop} {H H' : Hp}
theorem RT.app {T2 : List Tm} {f2 : List Addr} (h2 : RT K ow H T2 f2) : ∀ {T : List Tm} {f : List Addr}, RT K ow H T f → RT K ow H (T ++ T2) (f ++ f2)
  | [], _, h => by
    have h : _ = [] := h
    rw [h]
    exact h2
  | t :: T, _, ⟨g1, g2, e, a, b⟩ => by
    subst e
    exact ⟨g1, g2 ++ f2, by rw [List.append_assoc], a, RT.app h2 b⟩
theorem RT.unapp : ∀ {T T2 : List Tm} {f : List Addr}, RT K ow H (T ++ T2) f → ∃ f1 f2, f = f1 ++ f2 ∧ RT K ow H T f1 ∧ RT K ow H T2 f2
  | [], _, f, h => ⟨[], f, rfl, rfl, h⟩
  | t :: T, T2, _, ⟨g1, g2, e, a, b⟩ => by
    subst e
    obtain ⟨f1, f2, e2, c, d⟩ := RT.unapp b
    subst e2
    exact ⟨g1 ++ f1, f2, by rw [List.append_assoc], ⟨g1, f1, rfl, a, c⟩, d⟩
/-- the parameters of a call: those that are read, those that are the caller's own (on top) -/
def ArgR (K : PySem.W.Frag) (ow : Addr → Prop) (H : Hp) : List Sh → List V → List D → List Tm → Prop
  | [], vs, ds, L => vs = [] ∧ ds = [] ∧ L = []
  | .s :: M, vs, ds, L => ∃ v r d s, vs = v :: r ∧ ds = d :: s ∧ RS K ow H d v ∧ ArgR K ow H M r s L
  | .l q :: M, vs, ds, L => ∃ v r d s L', vs = v :: r ∧ ds = d :: s ∧ L = (.l q, v, d) :: L' ∧ ArgR K ow H M r s L'
  | .d q :: M, vs, ds, L => ∃ v r d s L', vs = v :: r ∧ ds = d :: s ∧ L = (.d q, v, d) :: L' ∧ ArgR K ow H M r s L'
  | .o q :: M, vs, ds, L => ∃ v r d s L', vs = v :: r ∧ ds = d :: s ∧ L = (.o q, v, d) :: L' ∧ ArgR K ow H M r s L'
theorem ArgR.rv : ∀ {M : List Sh} {vs : List V} {ds : List D} {L : List Tm} {f : List Addr}, ArgR K ow H M vs ds L → RT K ow H L f → RV K ow H M (vs.map some) (ds.map some) f
  | [], _, _, _, _, ⟨a, b, c⟩, h => by
    subst a b c
    exact ⟨rfl, rfl, h⟩
  | .s :: M, _, _, L, f, ⟨v, r, d, s, a, b, q, t⟩, h => by
    subst a b
    exact ⟨some v, r.map some, some d, s.map some, [], f, rfl, rfl, rfl, ⟨v, rfl, RO_s.mpr ⟨rfl, q⟩⟩, ArgR.rv t h⟩
  | .l q :: M, _, _, _, _, ⟨v, r, d, s, L', a, b, e, t⟩, h => by
    subst a b e
    obtain ⟨f1, f2, ef, h1, h2⟩ := h
    exact ⟨some v, r.map some, some d, s.map some, f1, f2, rfl, rfl, ef, ⟨v, rfl, h1⟩, ArgR.rv t h2⟩
  | .d q :: M, _, _, _, _, ⟨v, r, d, s, L', a, b, e, t⟩, h => by
    subst a b e
    obtain ⟨f1, f2, ef, h1, h2⟩ := h
    exact ⟨some v, r.map some, some d, s.map some, f1, f2, rfl, rfl, ef, ⟨v, rfl, h1⟩, ArgR.rv t h2⟩
  | .o q :: M, _, _, _, _, ⟨v, r, d, s, L', a, b, e, t⟩, h => by
    subst a b e
    obtain ⟨f1, f2, ef, h1, h2⟩ := h
    exact ⟨some v, r.map some, some d, s.map some, f1, f2, rfl, rfl, ef, ⟨v, rfl, h1⟩, ArgR.rv t h2⟩
/-- what is the caller's own, behind the call -/
def backL : List Sh → List V → Env → List Tm
  | sh :: M, v :: vs, some d :: ps => (match sh with | .s => backL M vs ps | sh => (sh, v, d) :: backL M vs ps)
  | _ :: M, _ :: vs, none :: ps => backL M vs ps
  | _, _, _ => []
theorem RV.back : ∀ {M : List Sh} {vs : List V} {ps : Env} {f : List Addr}, RV K ow H M (vs.map some) ps f → RT K ow H (backL M vs ps) f
  | [], vs, ps, f, ⟨a, b, c⟩ => by
    subst c
    cases vs <;> cases ps <;> rfl
  | sh :: M, [], ps, f, ⟨x, σ', y, e', g1, g2, e1, _⟩ => by cases e1
  | sh :: M, v :: vs, _, _, ⟨x, σ', y, e', g1, g2, e1, e2, e3, h1, h3⟩ => by
    subst e2 e3
    rw [List.map_cons] at e1
    cases e1
    cases y with
    | none =>
      have z : g1 = [] := h1
      subst z
      simp only [backL]
      exact RV.back h3
    | some d =>
      obtain ⟨u, eu, r⟩ := h1
      cases eu
      cases sh with
      | s =>
        have z := (RO_s.mp r).1
        subst z
        simp only [backL]
        exact RV.back h3
      | l q => exact ⟨g1, g2, rfl, r, RV.back h3⟩
      | d q => exact ⟨g1, g2, rfl, r, RV.back h3⟩
      | o q => exact ⟨g1, g2, rfl, r, RV.back h3⟩
end
section
variable {c : Vc} {T : List Tm} {σ : L2.St} {e : Env} {H : Hp}
/-- a name's own thing taken in hand -/
theorem RX.take {fT fV : List Addr} {i : Nat} {sh : Sh} {d : D} (h : RX c fT fV T σ e H) (hM : c.M[i]? = some sh) (hd : e[i]? = some (some d)) : ∃ v gT gV, σ[i]? = some (some v) ∧ RX c gT gV ((sh, v, d) :: T) σ (e.set i none) H ∧ ∀ a, a ∈ gT ++ gV ↔ a ∈ fT ++ fV := by
  obtain ⟨g1, fp, g2, x, y, a1, a2, a3, a4, a5⟩ := h.vr.split hM
  subst a3
  rw [hd] at a2
  cases a2
  obtain ⟨v, rfl, ro⟩ := a4
  have eqv : ∀ a, a ∈ (fp ++ fT) ++ (g1 ++ ([] ++ g2)) ↔ a ∈ fT ++ (g1 ++ (fp ++ g2)) := fun a => by
    simp only [List.mem_append, List.nil_append]
    constructor
    · rintro ((z | z) | z | z) <;> simp [z]
    · rintro (z | z | z | z) <;> simp [z]
  have how : ∀ a, owOf c (fp ++ fT) (g1 ++ ([] ++ g2)) a → owOf c fT (g1 ++ (fp ++ g2)) a ∨ H a = none := fun a z => by
    rcases z with z | z
    · exact .inl (.inl ((eqv a).mp z))
    · exact .inl (.inr z)
  have hs : σ.set i (some v) = σ := by
    apply List.ext_getElem?
    intro j
    by_cases e : i = j
    · subst e
      rw [a1]
      have : i < σ.length := (List.getElem?_eq_some_iff.mp a1).1
      simp [this]
    · rw [List.getElem?_set_ne e]
  have vr := a5 (H' := H) (ow' := owOf c (fp ++ fT) (g1 ++ ([] ++ g2))) (x' := some v) (y' := none) (fp' := []) (fun _ _ q _ => q) (ExtT.refl H) how (fun _ _ _ q => q) rfl
  rw [hs] at vr
  refine ⟨v, fp ++ fT, g1 ++ ([] ++ g2), a1, ⟨⟨fp, fT, rfl, RO.fr (fun _ _ q _ => q) (ExtT.refl H) how _ _ _ _ ro (fun _ _ _ q => q), h.tm.fr (fun _ _ q _ => q) (ExtT.refl H) how (fun _ _ _ q => q)⟩, vr, ?_, fun a z => h.fr a ((eqv a).mp z), h.kp, h.tp, h.al, h.ok, h.rt⟩, eqv⟩
  have p1 : List.Perm (fT ++ (g1 ++ (fp ++ g2))) ((fp ++ fT) ++ (g1 ++ ([] ++ g2))) := by
    rw [List.perm_iff_count]
    intro a
    simp only [List.count_append, List.count_nil]
    omega
  exact p1.nodup h.nd
/-- .. and given back -/
theorem R.give {i : Nat} {sh : Sh} {d : D} {v : V} {t : Tm} (h : R c (t :: (sh, v, d) :: T) σ e H) (hM : c.M[i]? = some sh) (hv : σ[i]? = some (some v)) : R c (t :: T) σ (e.set i (some d)) H := by
  obtain ⟨fT, fV, h⟩ := h
  obtain ⟨f1, g, e1, h1, f2, f3, e2, h2, h3⟩ := h.tm
  have h2 : RO c.K (owOf c fT fV) H d sh v f2 := h2
  subst e1 e2
  obtain ⟨g1, fp, g2, x, y, a1, a2, a3, a4, a5⟩ := h.vr.split hM
  subst a3
  have sub : ∀ a, a ∈ (f1 ++ f3) ++ (g1 ++ (f2 ++ g2)) → a ∈ (f1 ++ (f2 ++ f3)) ++ (g1 ++ (fp ++ g2)) := fun a z => by
    simp only [List.mem_append] at z ⊢
    rcases z with (z | z) | z | z | z <;> simp [z]
  have how : ∀ a, owOf c (f1 ++ f3) (g1 ++ (f2 ++ g2)) a → owOf c (f1 ++ (f2 ++ f3)) (g1 ++ (fp ++ g2)) a ∨ H a = none := fun a z => by
    rcases z with z | z
    · exact .inl (.inl (sub a z))
    · exact .inl (.inr z)
  have hs : σ.set i (some v) = σ := by
    apply List.ext_getElem?
    intro j
    by_cases e : i = j
    · subst e
      rw [hv]
      have : i < σ.length := (List.getElem?_eq_some_iff.mp hv).1
      simp [this]
    · rw [List.getElem?_set_ne e]
  have vr := a5 (H' := H) (ow' := owOf c (f1 ++ f3) (g1 ++ (f2 ++ g2))) (x' := some v) (y' := some d) (fp' := f2) (fun _ _ q _ => q) (ExtT.refl H) how (fun _ _ _ q => q) ⟨v, rfl, RO.fr (fun _ _ q _ => q) (ExtT.refl H) how _ _ _ _ h2 (fun _ _ _ q => q)⟩
  rw [hs] at vr
  refine ⟨f1 ++ f3, g1 ++ (f2 ++ g2), ⟨f1, f3, rfl, RO.fr (fun _ _ q _ => q) (ExtT.refl H) how _ _ _ _ h1 (fun _ _ _ q => q), h3.fr (fun _ _ q _ => q) (ExtT.refl H) how (fun _ _ _ q => q)⟩, vr, ?_, fun a z => h.fr a (sub a z), h.kp, h.tp, h.al, h.ok, h.rt⟩
  have p1 : List.Perm ((f1 ++ (f2 ++ f3)) ++ (g1 ++ (fp ++ g2))) (fp ++ ((f1 ++ f3) ++ (g1 ++ (f2 ++ g2)))) := by
    rw [List.perm_iff_count]
    intro a
    simp only [List.count_append]
    omega
  exact (List.nodup_append.mp (p1.nodup h.nd)).2.1
/-! the arguments of such a call: as, for each the name that is handed or none -/
def fill : List (Option Nat) → List D → Env → Option (List D)
  | [], [], _ => some []
  | none :: as, d :: ds, e => (fill as ds e).map (d :: ·)
  | some i :: as, ds, e => match e[i]? with
    | some (some d) => (fill as ds e).map (d :: ·)
    | _ => none
  | _, _, _ => none
def wipeIO : List (Option Nat) → Env → Env
  | [], e => e
  | none :: as, e => wipeIO as e
  | some i :: as, e => (wipeIO as e).set i none
def giveE : List (Option Nat) → Env → Env → Env
  | none :: as, _ :: ps, e => giveE as ps e
  | some i :: as, some d :: ps, e => giveE as ps (e.set i (some d))
  | some _ :: as, none :: ps, e => giveE as ps e
  | _, _, e => e
def putIO (as : List (Option Nat)) (ps e : Env) : Env := giveE as ps (wipeIO as e)
def ArgV (K : PySem.W.Frag) (ow : Addr → Prop) (H : Hp) (σ : L2.St) : List (Option Nat) → List V → List D → Prop
  | [], vs, ds => vs = [] ∧ ds = []
  | none :: as, vs, ds => ∃ v r d s, vs = v :: r ∧ ds = d :: s ∧ RS K ow H d v ∧ ArgV K ow H σ as r s
  | some i :: as, vs, ds => ∃ v r, vs = v :: r ∧ σ[i]? = some (some v) ∧ ArgV K ow H σ as r ds
def isS : Sh → Bool
  | .s => true
  | _ => false
/-- each parameter is read, or a name's own thing of the same form -/
def ShOk (M : List Sh) : List (Option Nat) → List Sh → Prop
  | [], [] => True
  | none :: as, sh :: pM => sh = .s ∧ ShOk M as pM
  | some i :: as, sh :: pM => M[i]? = some sh ∧ isS sh = false ∧ some i ∉ as ∧ ShOk M as pM
  | _, _ => False
theorem wipeIO_get {i : Nat} : ∀ {as : List (Option Nat)} {e : Env}, some i ∉ as → (wipeIO as e)[i]? = e[i]?
  | [], e, _ => rfl
  | none :: as, e, h => wipeIO_get (as := as) fun z => h (List.mem_cons_of_mem _ z)
  | some j :: as, e, h => by
    have hj : j ≠ i := fun z => h (by rw [z]; exact List.mem_cons_self)
    show ((wipeIO as e).set j none)[i]? = e[i]?
    rw [List.getElem?_set_ne hj]
    exact wipeIO_get fun z => h (List.mem_cons_of_mem _ z)
theorem ArgV.less {K : PySem.W.Frag} {ow ow' : Addr → Prop} {H : Hp} {σ : L2.St} (how : ∀ a, ow' a → ow a) : ∀ {as : List (Option Nat)} {vs : List V} {ds : List D}, ArgV K ow H σ as vs ds → ArgV K ow' H σ as vs ds
  | [], _, _, h => h
  | none :: as, _, _, ⟨v, r, d, s, a, b, q, t⟩ => ⟨v, r, d, s, a, b, q.less how, ArgV.less how t⟩
  | some i :: as, _, _, ⟨v, r, a, b, t⟩ => ⟨v, r, a, b, ArgV.less how t⟩
theorem ArgR.less {K : PySem.W.Frag} {ow ow' : Addr → Prop} {H : Hp} (how : ∀ a, ow' a → ow a) : ∀ {M : List Sh} {vs : List V} {ds : List D} {L : List Tm}, ArgR K ow H M vs ds L → ArgR K ow' H M vs ds L
  | [], _, _, _, h => h
  | .s :: M, _, _, _, ⟨v, r, d, s, a, b, q, t⟩ => ⟨v, r, d, s, a, b, q.less how, ArgR.less how t⟩
  | .l _ :: M, _, _, _, ⟨v, r, d, s, L', a, b, e, t⟩ => ⟨v, r, d, s, L', a, b, e, ArgR.less how t⟩
  | .d _ :: M, _, _, _, ⟨v, r, d, s, L', a, b, e, t⟩ => ⟨v, r, d, s, L', a, b, e, ArgR.less how t⟩
  | .o _ :: M, _, _, _, ⟨v, r, d, s, L', a, b, e, t⟩ => ⟨v, r, d, s, L', a, b, e, ArgR.less how t⟩
theorem takeAll : ∀ {as : List (Option Nat)} {pM : List Sh} {vs : List V} {ds full : List D} {fT fV : List Addr}, RX c fT fV T σ e H → ArgV c.K (owOf c fT fV) H σ as vs ds → fill as ds e = some full → ShOk c.M as pM →
    ∃ L gT gV, RX c gT gV (L ++ T) σ (wipeIO as e) H ∧ (∀ a, a ∈ gT ++ gV ↔ a ∈ fT ++ fV) ∧ ArgR c.K (owOf c gT gV) H pM vs full L
  | [], [], vs, ds, full, fT, fV, h, ⟨a, b⟩, hf, _ => by
    subst a b
    simp only [fill, Option.some.injEq] at hf
    subst hf
    exact ⟨[], fT, fV, h, fun _ => Iff.rfl, rfl, rfl, rfl⟩
  | [], _ :: _, _, _, _, _, _, _, _, _, hs => by simp only [ShOk] at hs
  | _ :: _, [], _, _, _, _, _, _, _, _, hs => by
    rename_i a as _ _ _ _ _ _ _ _
    cases a <;> simp only [ShOk] at hs
  | none :: as, sh :: pM, _, _, full, fT, fV, h, ⟨v, r, d, s, a, b, q, t⟩, hf, ⟨hsh, hs⟩ => by
    subst a b hsh
    simp only [fill, Option.map_eq_some_iff] at hf
    obtain ⟨full', hf', rfl⟩ := hf
    obtain ⟨L, gT, gV, X, eqv, ar⟩ := takeAll h t hf' hs
    refine ⟨L, gT, gV, X, eqv, v, r, d, full', rfl, rfl, q.less fun x z => ?_, ar⟩
    rcases z with z | z
    · exact .inl ((eqv x).mp z)
    · exact .inr z
  | some i :: as, sh :: pM, _, ds, full, fT, fV, h, ⟨v, r, a, hv, t⟩, hf, ⟨hM, hns, hni, hs⟩ => by
    subst a
    simp only [fill] at hf
    split at hf
    · rename_i d hd
      simp only [Option.map_eq_some_iff] at hf
      obtain ⟨full', hf', rfl⟩ := hf
      obtain ⟨L, gT, gV, X, eqv, ar⟩ := takeAll h t hf' hs
      obtain ⟨v', kT, kV, hv', Y, eqv2⟩ := X.take hM (by rw [wipeIO_get hni]; exact hd)
      rw [hv] at hv'
      cases hv'
      have ar' := ArgR.less (ow' := owOf c kT kV) (fun x z => by
        rcases z with z | z
        · exact .inl ((eqv2 x).mp z)
        · exact .inr z) ar
      refine ⟨(sh, v, d) :: L, kT, kV, Y, fun x => (eqv2 x).trans (eqv x), ?_⟩
      cases sh with
      | s => cases hns
      | l q => exact ⟨v, r, d, full', L, rfl, rfl, rfl, ar'⟩
      | d q => exact ⟨v, r, d, full', L, rfl, rfl, rfl, ar'⟩
      | o q => exact ⟨v, r, d, full', L, rfl, rfl, rfl, ar'⟩
    · cases hf
theorem giveAll {t : Tm} : ∀ {as : List (Option Nat)} {pM : List Sh} {vs : List V} {ds : List D} {ps e : Env} {K : PySem.W.Frag} {ow : Addr → Prop} {H1 : Hp}, R c (t :: (backL pM vs ps ++ T)) σ e H → ArgV K ow H1 σ as vs ds → ShOk c.M as pM → ps.length = pM.length → R c (t :: T) σ (giveE as ps e) H
  | [], [], vs, ds, ps, e, K, ow, H1, h, ⟨a, b⟩, _, hl => by
    cases ps with
    | nil =>
      subst a
      exact h
    | cons _ _ => cases hl
  | [], _ :: _, _, _, _, _, _, _, _, _, _, hs, _ => by simp only [ShOk] at hs
  | _ :: _, [], _, _, _, _, _, _, _, _, _, hs, _ => by
    rename_i a as _ _ _ _ _ _ _ _ _ _
    cases a <;> simp only [ShOk] at hs
  | _ :: _, _ :: _, _, _, [], _, _, _, _, _, _, _, hl => by cases hl
  | none :: as, sh :: pM, _, _, y :: ps, e, K, ow, H1, h, ⟨v, r, d, s, a, b, q, tt⟩, ⟨hsh, hs⟩, hl => by
    subst a b hsh
    simp only [giveE]
    refine giveAll (ps := ps) ?_ tt hs (Nat.succ.inj hl)
    cases y with
    | none => exact h
    | some d' => exact h
  | some i :: as, sh :: pM, _, ds, none :: ps, e, K, ow, H1, h, ⟨v, r, a, hv, tt⟩, ⟨hM, hns, hni, hs⟩, hl => by
    subst a
    simp only [giveE]
    exact giveAll (ps := ps) h tt hs (Nat.succ.inj hl)
  | some i :: as, sh :: pM, _, ds, some d' :: ps, e, K, ow, H1, h, ⟨v, r, a, hv, tt⟩, ⟨hM, hns, hni, hs⟩, hl => by
    subst a
    simp only [giveE]
    have h' : R c (t :: (sh, v, d') :: (backL pM r ps ++ T)) σ e H := by
      cases sh with
      | s => cases hns
      | l q => exact h
      | d q => exact h
      | o q => exact h
    exact giveAll (ps := ps) (h'.give hM hv) tt hs (Nat.succ.inj hl)
def VAx (c : Vc) (W : XW) (ta : TA) (as : List (Option Nat)) (f : VTA) : Prop := ∀ (T : List Tm) (σ : L2.St) (e : Env) (H : Hp) (Q : List V → Hp → Prop) (Qv : List D → Env → Prop) (Qx : QX), R c T σ e H → f e Qv Qx →
  (∀ fT fV vs ds e' H', RX c fT fV T σ e' H' → ArgV c.K (owOf c fT fV) H' σ as vs ds → Qv ds e' → Q vs H') → (∀ x d e' H', R c T σ e' H' → XAt H' x d → Qx x e' → W (.ref x.C) d σ H') → ta σ H Q
variable {W : XW} {ta : TE} {fa : VT} {tA : TA} {fA : VTA} {as : List (Option Nat)}
def vIo (i : Nat) (fr : VTA) : VTA := fun e Q Qx => (∃ d, e[i]? = some (some d)) ∧ fr e Q Qx
theorem vax_nil : VAx c W tNil [] vNil := fun T σ e H Q Qv Qx ⟨fT, fV, hR⟩ hf hn hx => hn fT fV [] [] e H hR ⟨rfl, rfl⟩ hf
theorem vax_cons (ha : VE c W .e ta .s fa) (hr : VAx c W tA as fA) : VAx c W (tCons ta tA) (none :: as) (vCons fa fA) := fun T σ e H Q Qv Qx hR hf hn hx => by
  refine ha T σ e H _ _ Qx hR hf (fun x dx e1 H1 R1 P1 h1 => ?_) hx
  refine hr ((.s, x, dx) :: T) σ e1 H1 _ _ Qx R1 h1 (fun fT fV vs ds e2 H2 R2 rs h2 => ?_) (fun xn d e' H' R' X' q' => hx xn d e' H' R'.pop X' q')
  obtain ⟨rx, R2⟩ := R2.topS
  exact hn fT fV _ _ e2 H2 R2 ⟨x, vs, dx, ds, rfl, rfl, rx, rs⟩ h2
theorem vax_io {i : Nat} {sh : Sh} (hM : c.M[i]? = some sh) (hr : VAx c W tA as fA) : VAx c W (tCons (tVar i) tA) (some i :: as) (vIo i fA) := fun T σ e H Q Qv Qx hR ⟨⟨d, hd⟩, hf⟩ hn hx => by
  obtain ⟨fT, fV, X⟩ := hR
  obtain ⟨v, fp, hv, _⟩ := X.upd hM hd
  exact ⟨v, hv, hr T σ e H _ _ Qx ⟨fT, fV, X⟩ hf (fun gT gV vs ds e2 H2 R2 rs h2 => hn gT gV _ _ e2 H2 R2 ⟨v, vs, rfl, hv, rs⟩ h2) hx⟩
def vCallIO (as : List (Option Nat)) (sp : VSp) (fA : VTA) : VT := fun e Q Qx => fA e (fun ds e1 => ∃ full, fill as ds e1 = some full ∧ sp full (fun r ps => Q r (putIO as ps e1)) fun _ _ => False) Qx
theorem v_callIO {pM : List Sh} {rsh : Sh} {sp : VSp} {E : XK} (hA : VAx c W tA as fA) (hs : ShOk c.M as pM) : VE c W .e (tCall (spOf c.K pM rsh sp) [] E tA) rsh (vCallIO as sp fA) := fun T σ e H Q Qv Qx hR hf hn hx => by
  refine hA T σ e H _ _ Qx hR hf (fun fT fV vs ds e1 H1 X1 av ⟨full, hfl, q⟩ => ?_) hx
  rw [List.append_nil]
  obtain ⟨L, gT, gV, X2, eqv, ar⟩ := takeAll X1 av hfl hs
  obtain ⟨fL, fT0, ef, tL, tT⟩ := X2.tm.unapp
  subst ef
  have nd := X2.nd
  rw [List.append_assoc] at nd
  obtain ⟨ndL, ndR, ndX⟩ := List.nodup_append.mp nd
  have noav : ∀ a ∈ fL, ¬ c.av a := fun a z y => by
    rcases X2.fr a (by simp [z]) with w | w
    · exact (X2.ok a y).2 w
    · exact (X2.ok a y).1 w
  have ow1 : ∀ a, (a ∈ ([] : List Addr) ++ fL ∨ (a ∈ fT0 ++ gV ∨ c.av a)) → owOf c (fL ++ fT0) gV a := fun a z => by
    rcases z with z | z | z
    · exact .inl (by simp at z; simp [z])
    · exact .inl (by rw [List.append_assoc]; exact List.mem_append_right _ z)
    · exact .inr z
  have rv := (ArgR.rv ar tL).fr (H' := H1) (ow' := fun a => a ∈ ([] : List Addr) ++ fL ∨ (a ∈ fT0 ++ gV ∨ c.av a)) (fun _ _ q _ => q) (ExtT.refl H1) (fun a z => .inl (ow1 a z)) (fun _ _ _ q => q)
  refine ⟨⟨c.K, H1, fun a => a ∈ fL, fun a => a ∈ fT0 ++ gV ∨ c.av a, pM, roots pM 0 vs⟩, full, fun r ps => Qv r (putIO as ps e1), fun _ _ => False, rfl, rfl, rfl, rfl, ⟨[], fL, rfl, rv, ndL, fun a z => .inl z, fun b o q _ => q, ExtT.refl H1, fun b q => q, fun a z => ?_, fun p hp => ?_⟩, q, ?_, fun x d ps H' _ _ z => z.elim⟩
  · rcases z with z | z
    · refine ⟨?_, fun y => ndX a y a z rfl⟩
      obtain ⟨o, w, _⟩ := X2.at a (by rw [List.append_assoc]; exact List.mem_append_right _ z)
      show H1 a ≠ none
      rw [w]
      simp
    · exact ⟨X2.avn z, fun y => noav a y z⟩
  · obtain ⟨j, a, b⟩ := roots_at _ _ _ p hp
    rw [Nat.zero_add] at a
    rw [a, List.getElem?_map, b]
    rfl
  rintro v r ps H' ⟨kT, kV, Y⟩ q
  have lps := Y.vr.len.2
  have tb := RV.back Y.vr
  obtain ⟨f1, f2, e2, r1, r2⟩ := Y.tm
  have r2 : f2 = [] := r2
  subst r2
  rw [List.append_nil] at e2
  subst e2
  have ow2 : ∀ a, owOf c (kT ++ (kV ++ fT0)) gV a → (a ∈ kT ++ kV ∨ (a ∈ fT0 ++ gV ∨ c.av a)) := fun a z => by
    rcases z with z | z
    · simp only [List.mem_append] at z ⊢
      rcases z with (z | z | z) | z <;> simp [z]
    · exact .inr (.inr z)
  have ow3 : ∀ a, owOf c (kT ++ (kV ++ fT0)) gV a → owOf c (fL ++ fT0) gV a ∨ H1 a = none := fun a z => by
    rcases ow2 a z with z | z | z
    · rcases Y.fr a z with y | y
      · exact .inl (.inl (by simp [show a ∈ fL from y]))
      · exact .inr y
    · exact .inl (.inl (by rw [List.append_assoc]; exact List.mem_append_right _ z))
    · exact .inl (.inr z)
  have kp1 : ∀ b o, H1 b = some o → ¬ owOf c (fL ++ fT0) gV b → H' b = some o := fun b o z n => Y.kp b o z fun y => n (.inl (by simp [show b ∈ fL from y]))
  have kp2 : ∀ b ∈ fT0 ++ gV, ∀ o, H1 b = some o → H' b = some o := fun b z o w => Y.kp b o w fun y => ndX b y b z rfl
  have main : R c ((rsh, v, r) :: (backL pM vs ps ++ T)) σ (wipeIO as e1) H' := by
    refine ⟨kT ++ (kV ++ fT0), gV, ⟨kT, kV ++ fT0, rfl, RO.fr (fun _ _ q _ => q) (ExtT.refl H') (fun a z => .inl (ow2 a z)) _ _ _ _ r1 (fun _ _ _ q => q), RT.app (tT.fr kp1 Y.tp ow3 (fun b z => kp2 b (List.mem_append_left _ z))) (tb.fr (fun _ _ q _ => q) (ExtT.refl H') (fun a z => .inl (ow2 a z)) (fun _ _ _ q => q))⟩, X2.vr.fr kp1 Y.tp ow3 (fun b z => kp2 b (List.mem_append_right _ z)), ?_, fun a z => ?_, fun b o q n => ?_, X2.tp.trans Y.tp, fun b q => Y.al b (X2.al b q), X2.ok, X2.rt⟩
    · have nn : ((kT ++ kV) ++ (fT0 ++ gV)).Nodup := List.nodup_append.mpr ⟨Y.nd, ndR, fun a z b y q => by
        subst q
        rcases Y.fr a z with w | w
        · exact ndX a w a y rfl
        · obtain ⟨o, u, _⟩ := X2.at a (by rw [List.append_assoc]; exact List.mem_append_right _ y)
          have w : H1 a = none := w
          rw [w] at u
          cases u⟩
      simpa using nn
    · have z' : a ∈ kT ++ kV ∨ a ∈ fT0 ++ gV := by
        simp only [List.mem_append] at z ⊢
        rcases z with (z | z | z) | z <;> simp [z]
      rcases z' with z | z
      · rcases Y.fr a z with w | w
        · exact X2.fr a (by simp [show a ∈ fL from w])
        · exact .inr (X2.new w).2
      · exact X2.fr a (by rw [List.append_assoc]; exact List.mem_append_right _ z)
    · refine Y.kp b o (X2.kp b o q n) fun z => ?_
      rcases X2.fr b (by simp [show b ∈ fL from z]) with y | y
      · exact n y
      · rw [y] at q
        cases q
  exact hn v r _ H' (giveAll main av hs lps) Post.e q
end
section
variable {as : List (Option Nat)} {sp : VSp} {fA : VTA} {e ps : Env} {Q : QV} {QA : List D → Env → Prop} {Qx : QX} {i : Nat} {d : D} {ds : List D} {y : Option D}
@[simp] theorem s_callIO : vCallIO as sp fA e Q Qx = fA e (fun ds e1 => ∃ full, fill as ds e1 = some full ∧ sp full (fun r ps => Q r (putIO as ps e1)) fun _ _ => False) Qx := rfl
@[simp] theorem s_io : vIo i fA e QA Qx = ((∃ d, e[i]? = some (some d)) ∧ fA e QA Qx) := rfl
@[simp] theorem s_fill0 : fill [] [] e = some [] := rfl
@[simp] theorem s_fillN : fill (none :: as) (d :: ds) e = (fill as ds e).map (d :: ·) := rfl
@[simp] theorem s_fillS : fill (some i :: as) ds e = (match e[i]? with | some (some d) => (fill as ds e).map (d :: ·) | _ => none) := rfl
@[simp] theorem s_putIO : putIO as ps e = giveE as ps (wipeIO as e) := rfl
@[simp] theorem s_wio0 : wipeIO [] e = e := rfl
@[simp] theorem s_wioN : wipeIO (none :: as) e = wipeIO as e := rfl
@[simp] theorem s_wioS : wipeIO (some i :: as) e = (wipeIO as e).set i none := rfl
@[simp] theorem s_give0 : giveE [] ps e = e := by cases ps <;> rfl
@[simp] theorem s_giveN : giveE (none :: as) (y :: ps) e = giveE as ps e := rfl
@[simp] theorem s_giveS : giveE (some i :: as) (some d :: ps) e = giveE as ps (e.set i (some d)) := rfl
@[simp] theorem s_giveM : giveE (some i :: as) (none :: ps) e = giveE as ps e := rfl
end
end VL
set_option Elab.async false
set_option linter.all false
set_option maxRecDepth 100000
set_option maxHeartbeats 2000000
namespace VL
open PySem PySem.Spec PyProof.Rows L2
/-! ### bridges -/
theorem fnOk_mono {P : Program} {w : World} {K : PySem.W.Frag} {mg : Str → Option Value} {base : Heap} {CX : CXT} {k : Nat} {f : Addr} {fd : FuncData} {ps : List Str} {sp sp' : Sp} (h : FnOk P w K mg base CX k f fd ps sp) (i : ∀ vs H Q E, sp' vs H Q E → sp vs H Q E) : FnOk P w K mg base CX k f fd ps sp' :=
  ⟨fun vs H Q E z => h.len vs H Q E (i vs H Q E z), fun A outer s H args us vs Q E hr e0 hb r z => h.run A outer s H args us vs Q E hr e0 hb r (i vs H Q E z)⟩
theorem cal_mono {P : Program} {w : World} {K : PySem.W.Frag} {mg : Str → Option Value} {base : Heap} {k : Nat} {x : Str} {sp sp' : Sp} {dvs : List V} (h : C8.Cal P w K mg base k x sp dvs) (i : ∀ vs H Q E, sp' vs H Q E → sp vs H Q E) : C8.Cal P w K mg base k x sp' dvs := by
  obtain ⟨f, fd, ps, ds, F, h⟩ := h.ex
  exact ⟨f, fd, ps, ds, fnOk_mono F i, h⟩
theorem cal_vac {P : Program} {w : World} {K : PySem.W.Frag} {mg : Str → Option Value} {base : Heap} {k : Nat} {x : Str} {st : Stmt} {f : Addr} {fd : FuncData} {ps : List Str} {pM : List Sh} {rsh : Sh} {sp : VSp} (F : L2.Fun K x x st f fd) (gm : mg x = some (.ref f)) (b : Binds K fd ps []) (no : ∀ ds Q Qx, ¬ sp ds Q Qx) : C8.Cal P w K mg base k x (spOf K pM rsh sp) [] :=
  ⟨f, fd, ps, [], ⟨fun vs H Q E h => (let ⟨_, ds, Qv, Qx, _, _, _, _, _, z, _⟩ := h; (no ds Qv Qx z).elim), fun A outer s H args us vs Q E hr e0 hb r h => (let ⟨_, ds, Qv, Qx, _, _, _, _, _, z, _⟩ := h; (no ds Qv Qx z).elim)⟩, gm, F.kp, b, .nil⟩
/-! data that is shown, as data here -/
mutual
def dD : PyData → D
  | .none => .non
  | .bool b => .bl b
  | .int i => .int i
  | .str s => .str s
  | .tuple l => .tup (dDs l)
  | .list l => .lst (dDs l)
  | .dict _ => .non
def dDs : List PyData → List D
  | [] => []
  | d :: ds => dD d :: dDs ds
end
mutual
theorem py_dD : ∀ p : PyData, Fb.noL p = true → py (dD p) = p ∧ plain (dD p) = true
  | .none, _ => by simp [dD, py, plain]
  | .bool b, _ => by simp [dD, py, plain]
  | .int i, _ => by simp [dD, py, plain]
  | .str s, _ => by simp [dD, py, plain]
  | .tuple l, h => by
    have z := pys_dDs l (by simpa [Fb.noL] using h)
    simp [dD, py, plain, z]
  | .list l, h => by simp [Fb.noL] at h
  | .dict l, h => by simp [Fb.noL] at h
theorem pys_dDs : ∀ l : List PyData, Fb.noLs l = true → pys (dDs l) = l ∧ plains (dDs l) = true
  | [], _ => by simp [dDs, pys, plains]
  | d :: ds, h => by
    rw [Fb.noLs, Bool.and_eq_true] at h
    have a := py_dD d h.1
    have b := pys_dDs ds h.2
    simp [dDs, pys, plains, a, b]
end
theorem dDs_map : ∀ l : List PyData, dDs l = l.map dD
  | [] => by rw [dDs]; rfl
  | d :: r => by rw [dDs, dDs_map r]; rfl
section
variable {K : PySem.W.Frag} {ow : Addr → Prop} {H : Hp}
mutual
theorem rs_dp : ∀ (p : PyData) (v : V), Dp K H v p → Fb.noL p = true → RS K ow H (dD p) v
  | .none, _, h, _ => by cases h; rw [dD]; exact rs_non
  | .bool b, _, h, _ => by cases h; rw [dD]; exact rs_bl
  | .int i, _, h, _ => by cases h; rw [dD]; exact rs_int
  | .str s, _, h, _ => by cases h; rw [dD]; exact rs_str
  | .tuple l, _, h, n => by
    cases h with
    | tup a b =>
      rw [dD]
      simp only [RS]
      exact ⟨_, _, rfl, a, rss_dp l _ b (by simpa [Fb.noL] using n)⟩
  | .list l, _, _, n => by simp [Fb.noL] at n
  | .dict l, _, _, n => by simp [Fb.noL] at n
theorem rss_dp : ∀ (l : List PyData) (vs : List V), DpAll K H vs l → Fb.noLs l = true → RSs K ow H (dDs l) vs
  | [], _, h, _ => by cases h; rw [dDs]; exact .nil
  | d :: ds, _, h, n => by
    rw [Fb.noLs, Bool.and_eq_true] at n
    cases h with
    | cons a b =>
      rw [dDs]
      exact .cons (rs_dp d _ a n.1) (rss_dp ds _ b n.2)
end
theorem dp_rs {p : PyData} {v : V} (h : RS K ow H (dD p) v) (n : Fb.noL p = true) : Dp K H v p := by
  have z := py_dD p n
  have y := RS.dp _ _ h z.2
  rw [z.1] at y
  exact y
end
/-- a call without things of the caller's own: what it gives is new or read only -/
theorem spOf_S {K : PySem.W.Frag} {pM : List Sh} {rsh : Sh} {sp : VSp} {vs : List V} {H : Hp} {Q : VK} {E : XK} (h : spOf K pM rsh sp vs H Q E) : ∃ (ow : Addr → Prop) (ds : List D) (Qv : D → Env → Prop) (Qx : Exn → Env → Prop), (∀ sh ∈ pM, sh = .s) → RSs K ow H ds vs ∧ ds.length = pM.length ∧ sp ds Qv Qx ∧
    (∀ v r fp H', Same H H' → fp.Nodup → (∀ a ∈ fp, H a = none) → (∀ ow', (∀ a, ow' a → ow a ∨ a ∈ fp) → RO K ow' H' r rsh v fp) → Qv r (List.replicate pM.length none) → Q v H') := by
  obtain ⟨c, ds, Qv, Qx, rfl, rfl, rfl, h4, ⟨fT, fV, hX⟩, hs, hq, he⟩ := h
  refine ⟨owOf c fT fV, ds, Qv, Qx, fun hall => ?_⟩
  have hlen := hX.vr.len
  rw [List.length_map, List.length_map] at hlen
  have key : ∀ (M : List Sh) (vs : List V) (ds : List D) (fp : List Addr), (∀ sh ∈ M, sh = .s) → RV c.K (owOf c fT fV) c.H0 M (vs.map some) (ds.map some) fp → RSs c.K (owOf c fT fV) c.H0 ds vs := fun M => by
    induction M with
    | nil =>
      rintro vs ds fp _ ⟨a, b, _⟩
      cases vs with
      | nil =>
        cases ds with
        | nil => exact .nil
        | cons _ _ => cases b
      | cons _ _ => cases a
    | cons sh M ih =>
      rintro vs ds fp hs ⟨x, σ', y, e', g1, g2, e1, e2, e3, h1, h3⟩
      cases vs with
      | nil => cases e1
      | cons v vs =>
        cases ds with
        | nil => cases e2
        | cons d ds =>
          rw [List.map_cons] at e1 e2
          cases e1
          cases e2
          have e := hs sh List.mem_cons_self
          subst e
          obtain ⟨u, eu, r⟩ := h1
          cases eu
          exact .cons (RO_s.mp r).2 (ih vs ds g2 (fun sh z => hs sh (List.mem_cons_of_mem _ z)) h3)
  refine ⟨key _ _ _ _ hall hX.vr, hlen.2, hs, fun v r fp H' sm nd fr ro q => hq v r _ H' ?_ q⟩
  have hfT : fT = [] := hX.tm
  subst hfT
  have hfV : fV = [] := RV.fpS hall hX.vr
  subst hfV
  have X2 := hX.pushO sm nd fr (sh := rsh) (v := v) (d := r) (ro _ fun a z => by
    rcases z with z | z
    · right
      simpa using z
    · left
      exact .inr z)
  refine ⟨_, _, X2.tm, ?_, X2.nd, X2.fr, X2.kp, X2.tp, X2.al, X2.ok, X2.rt⟩
  have nn : ∀ (M : List Sh) (vs : List V), vs.length = M.length → (∀ sh ∈ M, sh = .s) → RV c.K (owOf c (fp ++ []) []) H' M (vs.map some) (List.replicate M.length none) [] := fun M => by
    induction M with
    | nil =>
      intro vs hl _
      cases vs with
      | nil => exact ⟨rfl, rfl, rfl⟩
      | cons _ _ => cases hl
    | cons sh M ih =>
      intro vs hl hs
      cases vs with
      | nil => cases hl
      | cons v vs => exact ⟨some v, vs.map some, none, _, [], [], rfl, rfl, rfl, rfl, ih vs (Nat.succ.inj hl) fun sh z => hs sh (List.mem_cons_of_mem _ z)⟩
  exact nn c.M vs hlen.1 hall
end VL
set_option Elab.async false
set_option linter.all false
set_option maxRecDepth 100000
set_option maxHeartbeats 2000000
namespace VL
open PySem PySem.Spec PyProof.Rows L2
/-- a promise whose first parameter is the caller's own -/
theorem spOf_io1 {K : PySem.W.Frag} {sh : Sh} {Ms : List Sh} {rsh : Sh} {sp : VSp} {vs : List V} {H : Hp} {Q : VK} {E : XK} (h : spOf K (sh :: Ms) rsh sp vs H Q E) (hs : ∀ s ∈ Ms, s = .s) (hns : isS sh = false) :
    ∃ (ow : Addr → Prop) (v0 : V) (ws : List V) (d0 : D) (ds : List D) (fp : List Addr) (Qv : D → Env → Prop) (Qx : Exn → Env → Prop), vs = v0 :: ws ∧ RO K ow H d0 sh v0 fp ∧ RSs K ow H ds ws ∧ fp.Nodup ∧ (∀ a ∈ fp, ow a) ∧ ds.length = Ms.length ∧ sp (d0 :: ds) Qv Qx ∧
      ∀ (v : V) (r d' : D) (fp' fpr : List Addr) (H' : Hp), (∀ b o, H b = some o → b ∉ fp → H' b = some o) → ExtT H H' → (∀ b, H b ≠ none → H' b ≠ none) → (fpr ++ fp').Nodup → (∀ a ∈ fpr ++ fp', a ∈ fp ∨ H a = none) → (∀ ow', (∀ a, ow' a → ow a ∨ H a = none) → RO K ow' H' d' sh v0 fp') → (∀ ow', (∀ a, ow' a → ow a ∨ H a = none) → RO K ow' H' r rsh v fpr) →
        Qv r (some d' :: List.replicate Ms.length none) → Q v H' := by
  obtain ⟨c, ds, Qv, Qx, rfl, hM, rfl, h4, ⟨fT, fV, hX⟩, hsp, hq, he⟩ := h
  have hlen := hX.vr.len
  rw [List.length_map, List.length_map, hM] at hlen
  have hfT : fT = [] := hX.tm
  subst hfT
  have vr := hX.vr
  rw [hM] at vr
  obtain ⟨x, σ', y, e', f1, f2, e1, e2, e3, h1, h3⟩ := vr
  cases vs with
  | nil => cases e1
  | cons v0 ws =>
    cases ds with
    | nil => cases e2
    | cons d0 ds =>
      rw [List.map_cons] at e1 e2
      cases e1
      cases e2
      obtain ⟨u, eu, ro⟩ := h1
      cases eu
      have hf2 := RV.fpS hs h3
      subst hf2
      rw [List.append_nil] at e3
      subst e3
      have key : ∀ (M : List Sh) (vs : List V) (ds : List D) (fp : List Addr), (∀ sh ∈ M, sh = .s) → RV c.K (owOf c [] fV) c.H0 M (vs.map some) (ds.map some) fp → RSs c.K (owOf c [] fV) c.H0 ds vs := fun M => by
        induction M with
        | nil =>
          rintro vs ds fp _ ⟨a, b, _⟩
          cases vs with
          | nil =>
            cases ds with
            | nil => exact .nil
            | cons _ _ => cases b
          | cons _ _ => cases a
        | cons sh M ih =>
          rintro vs ds fp hs ⟨x, σ', y, e', g1, g2, e1, e2, e3, h1, h3⟩
          cases vs with
          | nil => cases e1
          | cons v vs =>
            cases ds with
            | nil => cases e2
            | cons d ds =>
              rw [List.map_cons] at e1 e2
              cases e1
              cases e2
              have e := hs sh List.mem_cons_self
              subst e
              obtain ⟨u, eu, r⟩ := h1
              cases eu
              exact .cons (RO_s.mp r).2 (ih vs ds g2 (fun sh z => hs sh (List.mem_cons_of_mem _ z)) h3)
      have nd := hX.nd
      rw [List.nil_append] at nd
      refine ⟨owOf c [] fV, v0, ws, d0, ds, fV, Qv, Qx, rfl, ro, key _ _ _ _ hs h3, nd, fun a z => .inl z, Nat.succ.inj hlen.2, hsp, fun v r d' fp' fpr H' hk hT hal nd' hf' ro' rr q => hq v r _ H' ?_ q⟩
      have how : ∀ a, owOf c fpr fp' a → owOf c [] fV a ∨ c.H0 a = none := fun a z => by
        rcases z with z | z
        · rcases hf' a z with w | w
          · exact .inl (.inl w)
          · exact .inr w
        · exact .inl (.inr z)
      have nn : ∀ (M : List Sh) (vs : List V), vs.length = M.length → RV c.K (owOf c fpr fp') H' M (vs.map some) (List.replicate M.length none) [] := fun M => by
        induction M with
        | nil =>
          intro vs hl
          cases vs with
          | nil => exact ⟨rfl, rfl, rfl⟩
          | cons _ _ => cases hl
        | cons sh M ih =>
          intro vs hl
          cases vs with
          | nil => cases hl
          | cons v vs => exact ⟨some v, vs.map some, none, _, [], [], rfl, rfl, rfl, rfl, ih vs (Nat.succ.inj hl)⟩
      have vr' : RV c.K (owOf c fpr fp') H' (sh :: Ms) ((v0 :: ws).map some) (some d' :: List.replicate Ms.length none) fp' := ⟨some v0, ws.map some, some d', _, fp', [], rfl, rfl, by rw [List.append_nil], ⟨v0, rfl, ro' _ how⟩, nn Ms ws (Nat.succ.inj hlen.1)⟩
      have io0 : ∀ a ∈ fV, c.io a := fun a z => by
        rcases hX.fr a (by rw [List.nil_append]; exact z) with w | w
        · exact w
        · obtain ⟨o, u, _⟩ := hX.at a (by rw [List.nil_append]; exact z)
          rw [w] at u
          cases u
      refine ⟨fpr, fp', ⟨fpr, [], by rw [List.append_nil], rr _ how, rfl⟩, by rw [hM]; exact vr', nd', fun a z => ?_, fun b o z n => hk b o z fun y => n (io0 b y), hT, hal, hX.ok, hX.rt⟩
      rcases hf' a z with w | w
      · exact .inl (io0 a w)
      · exact .inr w
/-! ### the deal -/
def dealSh : Sh := .d fun k => if k = .inr "left" then .l .s else .s
def dealK : List Key := [.inr "seed", .inr "number", .inr "left"]
def dealV (s n : Int) (ns : List Int) : D := .dct dealK [.int s, .int n, .lst (ns.map D.int)]
def dealOk (s n : Int) (ns : List Int) : Prop := 0 ≤ s ∧ s < 2147483648 ∧ 0 ≤ n ∧ ∀ x ∈ ns, 0 < x
theorem rs_ints {K : PySem.W.Frag} {ow : Addr → Prop} {H : Hp} : ∀ ns : List Int, RSs K ow H (ns.map D.int) (ns.map V.int)
  | [] => .nil
  | _ :: ns => .cons rs_int (rs_ints ns)
theorem RO_deal {K : PySem.W.Frag} {ow : Addr → Prop} {H : Hp} {s n : Int} {ns : List Int} {v : V} {fp : List Addr} : RO K ow H (dealV s n ns) dealSh v fp ↔ ∃ d l, v = .ref d ∧ H d = some (.dK (Fb.dealD s n l)) ∧ H l = some (.lst (ns.map V.int)) ∧ fp = [d, l] := by
  have n1 : ¬ (Fb.kx "seed" = Fb.kx "left") := Fb.ne_sl
  have n2 : ¬ (Fb.kx "number" = Fb.kx "left") := Fb.ne_nl
  unfold dealV dealSh
  simp only [RO, dealK, List.map_cons, List.map_nil]
  rw [if_neg n1, if_neg n2, if_pos trivial]
  constructor
  · rintro ⟨a, vs, fps, rfl, q, hl, t, rfl⟩
    simp only [ROs] at t
    obtain ⟨s1, t1, v1, r1, f1, g1, a1, b1, c1, h1, s2, t2, v2, r2, f2, g2, a2, b2, c2, h2, s3, t3, v3, r3, f3, g3, a3, b3, c3, h3, a4, b4, c4⟩ := t
    cases a1
    cases a2
    cases a3
    subst b1 b2 b3 b4 c1 c2 c3 c4
    have h1 := RO_s.mp h1
    have h2 := RO_s.mp h2
    obtain ⟨z1, z2⟩ := h1
    obtain ⟨z3, z4⟩ := h2
    subst z1 z3
    have e1 := z2.b.int
    have e2 := z4.b.int
    subst e1 e2
    obtain ⟨l, a', ws, el, ea, ha, rs, ef⟩ := RO_l.mp h3
    cases el
    subst ea ef
    have ew := rs.ints
    subst ew
    exact ⟨a, a', rfl, q, ha, rfl⟩
  · rintro ⟨d, l, rfl, hd, hl, rfl⟩
    refine ⟨d, [.int s, .int n, .ref l], [l], rfl, hd, rfl, ?_, rfl⟩
    simp only [ROs]
    exact ⟨.s, _, _, _, [], [l], rfl, rfl, rfl, RO_s.mpr ⟨rfl, rs_int⟩, .s, _, _, _, [], [l], rfl, rfl, rfl, RO_s.mpr ⟨rfl, rs_int⟩, .l .s, _, _, _, [l], [], rfl, rfl, rfl, RO_l.mpr ⟨_, l, _, rfl, rfl, hl, rs_ints ns, rfl⟩, rfl, rfl, rfl⟩
def vpDraw : VSp := fun ds Q _ => ∃ s n ns many, ds = [dealV s n ns, .int many] ∧ dealOk s n ns ∧ 0 < many ∧ many < 4611686018427387904 ∧ ∀ r s' n' ns', 0 ≤ r → r < many → dealOk s' n' ns' → Q (.int r) [some (dealV s' n' ns'), none]
def vpDeal : VSp := fun ds Q _ => ∃ ns : List Int, ds = [.lst (ns.map D.int)] ∧ ns.length ≤ 63 ∧ ∀ s n ls, dealOk s n ls → Q (dealV s n ls) [none]
section
variable {P : Program} {w : World} {K : PySem.W.Frag} {mg : Str → Option Value} {base : Heap} {k : Nat}
theorem keep_frame {H H' : Hp} {d l : Addr} (k : Fb.Keep d l H H') : ∀ b o, H b = some o → b ∉ [d, l] → H' b = some o := fun b o e n => by
  simp only [List.mem_cons, List.not_mem_nil, or_false, not_or] at n
  exact k b o e n.1 n.2
theorem keep_ext {H H' : Hp} {d l : Addr} {s n : Int} {ns : List Int} (D : Fb.DealX H d l s n ns) (k : Fb.Keep d l H H') : ExtT H H' := fun b o e f => by
  refine k b o e (fun q => ?_) (fun q => ?_)
  · subst q
    rw [D.1] at e
    cases e
    exact f
  · subst q
    rw [D.2.1] at e
    cases e
    exact f
theorem keep_al {H H' : Hp} {d l : Addr} {s' n' : Int} {ns' : List Int} (D' : Fb.DealX H' d l s' n' ns') (k : Fb.Keep d l H H') : ∀ b, H b ≠ none → H' b ≠ none := fun b q => by
  by_cases e1 : b = d
  · rw [e1, D'.1]; simp
  · by_cases e2 : b = l
    · rw [e2, D'.2.1]; simp
    · cases z : H b with
      | none => exact absurd z q
      | some o => rw [k b o z e1 e2]; simp
theorem v_draw (h : C8.Cal P w K mg base k "_law_draw" Fb.spDraw []) : C8.Cal P w K mg base k "_law_draw" (spOf K [dealSh, .s] .s vpDraw) [] := cal_mono h fun vs H Q E h => by
  obtain ⟨ow, v0, ws, d0, ds, fp, Qv, Qx, rfl, ro, rs, nd, how, hl, ⟨s, n, ns, many, ed, ok, h0, h1, q⟩, kk⟩ := spOf_io1 h (by simp) rfl
  injection ed with e1 e2
  subst e1 e2
  have ew := rs.i1
  subst ew
  obtain ⟨d, l, rfl, hd, hll, rfl⟩ := RO_deal.mp ro
  refine ⟨d, l, many, rfl, ⟨s, n, ns, hd, hll, ok⟩, h0, h1, fun r H' r0 r1 D' K' => ?_⟩
  obtain ⟨s', n', ns', dx⟩ := D'
  refine kk (.int r) (.int r) (dealV s' n' ns') [d, l] [] H' (keep_frame K') (keep_ext ⟨hd, hll, ok⟩ K') (keep_al dx K') (by simpa using nd) (fun a z => .inl z) (fun ow' _ => RO_deal.mpr ⟨d, l, rfl, dx.1, dx.2.1, rfl⟩) (fun ow' _ => RO_s.mpr ⟨rfl, rs_int⟩) (q r s' n' ns' r0 r1 dx.2.2)
theorem v_deal (h : C8.Cal P w K mg base k "_law_deal" (Fb.spDeal K) []) : C8.Cal P w K mg base k "_law_deal" (spOf K [.s] dealSh vpDeal) [] := cal_mono h fun vs H Q E h => by
  obtain ⟨ow, ds, Qv, Qx, kk⟩ := spOf_S h
  obtain ⟨rs, hl, ⟨ns, rfl, hn, q⟩, k2⟩ := kk (by simp)
  simp only [RSs] at rs
  obtain ⟨v, r, rfl, rv, rfl⟩ := rs
  obtain ⟨a, ws, rfl, sq, rw⟩ := rv.b.lst
  have ew := rw.ints
  subst ew
  refine ⟨a, ns, rfl, sq.sq, hn, fun d l H' nd nl D' sm => ?_⟩
  obtain ⟨s', n', ns', dx⟩ := D'
  refine k2 (.ref d) (dealV s' n' ns') [d, l] H' sm ?_ (fun a z => ?_) (fun ow' _ => RO_deal.mpr ⟨d, l, rfl, dx.1, dx.2.1, rfl⟩) (q s' n' ns' dx.2.2)
  · simp [dx.ne]
  · simp only [List.mem_cons, List.not_mem_nil, or_false] at z
    rcases z with z | z <;> (rw [z]; assumption)
end
/-! a list that a def of the program tells of a program -/
open Fb in
theorem v_rows {P : Program} {w : World} {K : PySem.W.Frag} {mg : Str → Option Value} {base : Heap} {k : Nat} {x : Str} {okP : Blk → Prop} {g : Blk → List PyData} (hg : ∀ b, okP b → goodB b)
    (h : C8.Cal P w K mg base k x (fun vs H Q _ => ∃ (v : V) (b : Blk), vs = [v] ∧ Dp K H v (.tuple (dB b)) ∧ okP b ∧ ∀ l H', Rw K H' l (g b) → H l = none → Same H H' → Q (.ref l) H') []) :
    C8.Cal P w K mg base k x (spOf K [.s] (.l .s) fun ds Q _ => ∃ b, ds = [dD (.tuple (dB b))] ∧ okP b ∧ (noLs (g b) = true → Q (.lst (dDs (g b))) [none])) [] := cal_mono h fun vs H Q E h => by
  obtain ⟨ow, ds, Qv, Qx, kk⟩ := spOf_S h
  obtain ⟨rs, hl, ⟨b, rfl, ok, q⟩, k2⟩ := kk (by simp)
  simp only [RSs] at rs
  obtain ⟨v, r, rfl, rv, rfl⟩ := rs
  refine ⟨v, b, rfl, dp_rs rv (noL_blk (hg b ok)), ok, fun l H' rw' nl sm => ?_⟩
  obtain ⟨us, hu, du, nu⟩ := rw'
  exact k2 (.ref l) _ [l] H' sm (by simp) (fun a z => by rw [List.mem_singleton.mp z]; exact nl) (fun ow' _ => RO_l.mpr ⟨_, l, us, rfl, rfl, hu, rss_dp _ _ du nu, rfl⟩) (q nu)
end VL
set_option Elab.async false
set_option linter.all false
set_option maxRecDepth 100000
set_option maxHeartbeats 2000000
namespace VL
open PySem PySem.W PySem.Calls PyProof.Rows L2
/-- the law's own call, by its promise over data -/
def vpLaw : VSp := fun ds Q _ => ∃ ns : List Int, ds = [.lst (ns.map D.int)] ∧ ns.length ≤ 63 ∧ Q (.bl true) [none]
theorem rs_ints' {K : PySem.W.Frag} {ow : Addr → Prop} {H : Hp} : ∀ ns : List Int, RSs K ow H (ns.map D.int) (ns.map V.int)
  | [] => .nil
  | _ :: ns => .cons rs_int (rs_ints' ns)
theorem law_start {K : PySem.W.Frag} {H : Hp} {a : Addr} {ns : List Int} {E : XK} (h : LsR K H a (ns.map V.int)) (hl : ns.length ≤ 63) : spOf K [.s] .s vpLaw [.ref a] H (fun v _ => v = .bl true) E := by
  refine ⟨⟨K, H, fun _ => False, fun _ => False, [.s], roots [.s] 0 [.ref a]⟩, [.lst (ns.map D.int)], fun r _ => r = .bl true, fun _ _ => False, rfl, rfl, rfl, rfl, ⟨[], [], rfl, ⟨some (.ref a), [], some _, [], [], [], rfl, rfl, rfl, ⟨.ref a, rfl, RO_s.mpr ⟨rfl, ?_⟩⟩, rfl, rfl, rfl⟩, by simp, fun x z => (by cases z), fun b o q _ => q, ExtT.refl H, fun b q => q, fun x z => z.elim, fun p hp => (by simp only [roots] at hp; cases hp)⟩, ⟨ns, rfl, hl, rfl⟩, ?_, fun _ _ _ _ _ _ z => z.elim⟩
  · simp only [RS]
    refine ⟨a, _, rfl, ?_, rs_ints' ns⟩
    rcases h with h | h
    · exact .inl ⟨h, fun z => z.elim (fun y => by cases y) id⟩
    · exact .inr h
  · rintro v r ps H' ⟨fT, fV, X⟩ e
    subst e
    exact X.topS.1.b.bl
theorem law_V {P : Program} {w : World} {K : Frag} {mg mb : Str → Option Value} {k : Nat} {fa a : Addr} {fd : FuncData} {x : Str} {s₁ : Shared} {vs : List Value} {ns : List Int}
    (KX : K.In s₁.heap) (hns : s₁.heap.Ns mainGlobals mg) (hb : s₁.heap.Ns builtinsNs mb) (hbb : ∀ x : Str, x ≠ "__name__" → mb x = bootBuiltins x) (hlim : s₁.heap.NoLimit) (hg : s₁.gens = #[])
    (ha : s₁.heap.get? a = some { cls := .type "list", data := .seq vs.toArray }) (hi : IntsAre vs ns) (hl : ns.length ≤ sizeLine) (h63 : ns.length ≤ 63) (hr : Room k callerA)
    (F : ∀ base : Heap, K.In base → base.Ns mainGlobals mg → Fb.FnG P w K mg base k fa fd [x] (spOf K [.s] .s vpLaw)) (hbind : ∀ (s : Shared) (u : Value), BindsTo s fd ⟨[u], []⟩ [(x, u)]) :
    codeAny (model P w) callerA (.call (.ref fa) ⟨[.ref a], []⟩) (fun r s' => r = .ok (.ret (.bool true)) ∧ OldK s₁.heap s'.heap ∧ s'.os = s₁.os ∧ AllBare s'.gens) s₁ := by
  have rv := vals_ints hi
  have lv := hi.length
  have core : ∀ H : Hp, Only H → LsR K H a (ns.map V.int) → HOk P w H s₁.heap → (∀ b, H b ≠ none → b = a) → (H a ≠ none → K.lookup a = none) →
      codeAny (model P w) callerA (.call (.ref fa) ⟨[.ref a], []⟩) (fun r s' => r = .ok (.ret (.bool true)) ∧ OldK s₁.heap s'.heap ∧ s'.os = s₁.os ∧ AllBare s'.gens) s₁ := by
    intro H0 hO hS hok hA hK
    have tracked : ∀ {b : Addr} {u : HO}, H0 b = some u → b = a := fun {b u} q => hA b (by rw [q]; simp)
    have hid : ∀ {b : Addr} {o : Obj}, s₁.heap.get? b = some o → H0 b = none → (hidT s₁.heap H0).get? b = some o := fun e n => hidT_get e n
    have noD : ∀ {b : Addr} {o : Obj} {es : Array DictEntry} {ep : Nat}, s₁.heap.get? b = some o → o.data = .dict es ep → H0 b = none := fun {b o es ep} e dt => by
      cases q : H0 b with
      | none => rfl
      | some u =>
        obtain rfl := tracked q
        rw [ha] at e; cases e
        have z : Data.seq vs.toArray _ = Data.dict es ep := dt
        cases z
    have nsK : ∀ {b : Addr} {m : Str → Option Value}, s₁.heap.Ns b m → (hidT s₁.heap H0).Ns b m := fun {b m} ⟨o, es, ep, e, dt, r⟩ => ⟨o, es, ep, hid e (noD e dt), dt, r⟩
    have kIn : K.In (hidT s₁.heap H0) := fun b o e => hid (KX b o e) (by
      cases q : H0 b with
      | none => rfl
      | some u =>
        obtain rfl := tracked q
        rw [hK (by rw [q]; simp)] at e; cases e)
    have md : Mod K mg (hidT s₁.heap H0) := ⟨kIn, nsK hns, ⟨mb, nsK hb, hbb⟩, let ⟨mc, h1, h2⟩ := hlim; ⟨mc, nsK h1, h2⟩⟩
    have env : Env0 P w K mg (hidT s₁.heap H0) callerA [] s₁ H0 := ⟨rfl, md, fun b o e => of_hidT e, Nat.le_of_eq (hidT_size _ _), trivial, fun b z => absurd (show b ∈ ([] : List Addr) from z) (by simp), hok, .of_eq hg⟩
    refine codeAny_mono ((F _ kIn (nsK hns)).run callerA [] s₁ H0 ⟨[.ref a], []⟩ [.ref a] [.ref a] (fun v _ => v = .bl true) (fun _ _ _ => False) rfl hr env (hbind s₁ (.ref a)) (.cons rfl .nil) (law_start hS h63)) fun r s' h => ?_
    cases r with
    | error e => exact h.elim
    | ok fl =>
      cases fl with
      | next => exact h.elim
      | brk => exact h.elim
      | cont => exact h.elim
      | ret u =>
        obtain ⟨v, H', os, bare, un, ok2, rl, q⟩ := h
        obtain rfl : v = .bl true := q
        obtain rfl : u = Value.bool true := rl
        refine ⟨rfl, OldK.of_keep fun b o e => ?_, os, bare⟩
        cases q : H0 b with
        | none => exact un.keep b o e q (fun z => absurd (show b ∈ ([] : List Addr) from z) (by simp)) (by simp)
        | some u =>
          rcases hO b with z | ⟨ob, xs, z⟩
          · rw [q] at z; cases z
          · obtain ⟨e1, _⟩ := hok b _ z
            obtain ⟨e2, _⟩ := ok2 b _ (un.frzs b ob _ z)
            rw [e] at e1; cases e1
            exact e2
  cases hk : K.lookup a with
  | some o =>
    have e := KX a o hk
    rw [ha] at e
    cases e
    exact core (fun _ => none) (fun _ => .inl rfl) (.inr ⟨vs, _, hk, by rw [lv]; exact hl, rv⟩) (fun b u z => by have y : (none : Option HO) = some u := z; cases y) (fun b z => absurd rfl z) fun z => absurd rfl z
  | none =>
    refine core (fun b => if b = a then some (.frz { cls := .type "list", data := .seq vs.toArray } (.lst (ns.map V.int))) else none) (fun b => ?_) (.inl (.inr ⟨{ cls := .type "list", data := .seq vs.toArray }, if_pos rfl⟩)) (fun b u z => ?_) (fun b z => ?_) fun _ => hk
    · by_cases q : b = a
      · exact .inr ⟨_, _, if_pos q⟩
      · exact .inl (if_neg q)
    · by_cases q : b = a
      · have y := (if_pos q).symm.trans z
        cases y
        subst q
        exact ⟨ha, by rw [List.length_map]; exact hl, vs, _, rv, ha⟩
      · have y := (if_neg q).symm.trans z
        cases y
    · by_cases q : b = a
      · exact q
      · exact absurd (if_neg q) z
theorem walk_V {l : OpenLaw} {k : Nat} {q : Program} {loose : List Str} {XP : (Str → Option Value) → Heap → Prop} {YP : World → Heap → Prop} {d : DefRec} {K : Params → Frag} {x : Str}
    (hn : l.most = some 63) (hdf : d.params.defaults = []) (hr : Room k callerA) (hY : ∀ (w : World) (h : Heap), YP w h → (K w.params).In h)
    (F : ∀ (w : World) (mg : Str → Option Value) (fa : Addr) (h : Heap), (K w.params).In h → h.Ns mainGlobals mg → XP mg h → mg d.name = some (.ref fa) →
      ∃ fd : FuncData, (∀ (s : Shared) (u : Value), BindsTo s fd ⟨[u], []⟩ [(x, u)]) ∧ ∀ base : Heap, (K w.params).In base → base.Ns mainGlobals mg → Fb.FnG l.prog w (K w.params) mg base k fa fd [x] (spOf (K w.params) [.s] .s vpLaw)) :
    WalkO q loose XP YP l.row.toRowW d [] (fun f vs => PySem.call f vs) := by
  refine Att.attach_call hn hdf fun w s₀ s₁ mg mb fa o pm cd doc a vs ns G Y ho hd hcd hmg hobj hints hlen hg => ?_
  obtain ⟨fd, hb, hF⟩ := F w mg fa _ (hY w _ Y) G.T.g G.X hmg
  exact law_V (hY w _ Y) G.T.g G.T.b G.T.builtins G.T.nolimit hg hobj hints (Nat.le_trans hlen (by decide)) hlen hr hF hb
end VL
set_option Elab.async false
set_option linter.all false
set_option maxRecDepth 100000
set_option maxHeartbeats 4000000
namespace K06
open PySem PySem.Spec PyProof.Rows L2 Fb
def top (i : Nat) : Stmt := PySem.Challenge.pw_fourbind_k06_whole_a_statement_put_in.main.body.getD i (.Pass ⟨0, 0, 0, 0⟩)
abbrev sBInit : Stmt := inClass (top 1) 0
abbrev sPInit : Stmt := inClass (top 2) 0
abbrev sTInit : Stmt := inClass (top 3) 0
abbrev sEnter : Stmt := inClass (top 3) 1
abbrev sMeet : Stmt := inClass (top 3) 2
abbrev s_blocks_of : Stmt := top 4
abbrev s_made_by : Stmt := top 5
abbrev s_statements : Stmt := top 6
abbrev s_body_at : Stmt := top 7
abbrev s_bodies : Stmt := top 8
abbrev s_grounds : Stmt := top 9
abbrev s_makings : Stmt := top 10
abbrev s_l_deal : Stmt := top 12
abbrev s_l_draw : Stmt := top 13
abbrev s_l_words : Stmt := top 14
abbrev s_l_any_atom : Stmt := top 15
abbrev s_l_any_flat : Stmt := top 16
abbrev s_l_any_statement : Stmt := top 17
abbrev s_l_any_block : Stmt := top 18
abbrev s_l_any_program : Stmt := top 19
abbrev s_l_places : Stmt := top 20
abbrev s_l_blocks : Stmt := top 21
abbrev s_l_put_in : Stmt := top 22
abbrev s_l_later : Stmt := top 23
abbrev s_l_row_later : Stmt := top 24
abbrev s_l_told : Stmt := top 25
structure Top (K : PySem.W.Frag) (mg : Str → Option Value) (CB CP CT : Addr) : Prop where
  n_len : mg "len" = none
  n_isinstance : mg "isinstance" = none
  n_max : mg "max" = none
  n_list : mg "list" = none
  n_reversed : mg "reversed" = none
  n_range : mg "range" = none
  n_int : mg "int" = none
  n_repr : mg "repr" = none
  n_tuple : mg "tuple" = none
  n_sum : mg "sum" = none
  clB : Cls K CB
  c_Block : Cn mg "Block" (.ref CB)
  m_Block : mg "Block" = some (.ref CB)
  nB_kind : NoAttr K CB "kind"
  nB_k : NoAttr K CB "k"
  nB_around : NoAttr K CB "around"
  nB_body : NoAttr K CB "body"
  nB_inside : NoAttr K CB "inside"
  h_BInit : ∃ f fd, L2.Fun K "__init__" "Block.__init__" sBInit f fd ∧ Mk K CB f
  clP : Cls K CP
  c_Place : Cn mg "Place" (.ref CP)
  m_Place : mg "Place" = some (.ref CP)
  nP_statement : NoAttr K CP "statement"
  nP_ground : NoAttr K CP "ground"
  nP_body : NoAttr K CP "body"
  h_PInit : ∃ f fd, L2.Fun K "__init__" "Place.__init__" sPInit f fd ∧ Mk K CP f
  clT : Cls K CT
  c_Tree : Cn mg "Tree" (.ref CT)
  m_Tree : mg "Tree" = some (.ref CT)
  nT_places : NoAttr K CT "places"
  nT_body_rows : NoAttr K CT "body_rows"
  nT_ground_rows : NoAttr K CT "ground_rows"
  nT_making_rows : NoAttr K CT "making_rows"
  h_TInit : ∃ f fd, L2.Fun K "__init__" "Tree.__init__" sTInit f fd ∧ Mk K CT f
  h_enter : ∃ f fd, L2.Fun K "enter" "Tree.enter" sEnter f fd ∧ Meth K CT "enter" f
  h_meet : ∃ f fd, L2.Fun K "meet" "Tree.meet" sMeet f fd ∧ Meth K CT "meet" f
  iB : C8.InsC K CB
  iP : C8.InsC K CP
  pB : PySem.W.kitOne K (.ref CP) (.ref CB) = some false
  h_blocks_of : Has K mg "blocks_of" s_blocks_of
  h_made_by : Has K mg "made_by" s_made_by
  h_statements : Has K mg "statements" s_statements
  h_body_at : Has K mg "body_at" s_body_at
  h_bodies : Has K mg "bodies" s_bodies
  h_grounds : Has K mg "grounds" s_grounds
  h_makings : Has K mg "makings" s_makings
  h_l_deal : Has K mg "_law_deal" s_l_deal
  h_l_draw : Has K mg "_law_draw" s_l_draw
  h_l_words : Has K mg "_law_words" s_l_words
  h_l_any_atom : Has K mg "_law_any_atom" s_l_any_atom
  h_l_any_flat : Has K mg "_law_any_flat" s_l_any_flat
  h_l_any_statement : Has K mg "_law_any_statement" s_l_any_statement
  h_l_any_block : Has K mg "_law_any_block" s_l_any_block
  h_l_any_program : Has K mg "_law_any_program" s_l_any_program
  h_l_places : Has K mg "_law_places" s_l_places
  h_l_blocks : Has K mg "_law_blocks" s_l_blocks
  h_l_put_in : Has K mg "_law_put_in" s_l_put_in
  h_l_later : Has K mg "_law_later" s_l_later
  h_l_row_later : Has K mg "_law_row_later" s_l_row_later
  h_l_told : Has K mg "_law_told" s_l_told

/-! ### heaps of trees -/
def bF (kind k a body ins : V) : List (Str × V) := [("kind", kind), ("k", k), ("around", a), ("body", body), ("inside", ins)]
def pF (st g b : V) : List (Str × V) := [("statement", st), ("ground", g), ("body", b)]
def tF (lp lb lg lm : Addr) : List (Str × V) := [("places", .ref lp), ("body_rows", .ref lb), ("ground_rows", .ref lg), ("making_rows", .ref lm)]
theorem upd_upd {H : Hp} {p : Addr} {o o' : HO} : L2.upd (L2.upd H p o) p o' = L2.upd H p o' := by
  funext b
  by_cases e : b = p
  · rw [e, upd_same, upd_same]
  · rw [upd_ne e, upd_ne e, upd_ne e]
def spInit (C : Addr) (n : Nat) (F : List V → List (Str × V)) : Sp := fun vs H Q _ => ∃ (p dx : Addr) (args : List V), vs = .ref p :: args ∧ args.length = n ∧ H p = some (.ins C dx []) ∧ Q .non (L2.upd H p (.ins C dx (F args)))
def FB : List V → List (Str × V)
  | [a, b, c, d, e] => bF a b c d e
  | _ => []
def FP : List V → List (Str × V)
  | [a, b, c] => pF a b c
  | _ => []
theorem same_make {C : Addr} {H : Hp} {x dx : Addr} {o o' : HO} (hx : H x = none) (hd : H dx = none) : Same H (L2.upd (L2.upd (L2.upd H dx (.own x)) x o) x o') := fun b z e => by
  rw [upd_ne (ne_of_none e hx), upd_ne (ne_of_none e hx), upd_ne (ne_of_none e hd)]
  exact e
/-- C(..) of a class whose __init__ stores its arguments -/
theorem use_make {C : Addr} {n : Nat} {F : List V → List (Str × V)} {H : Hp} {Q : VK} {E : XK} (args : List V) (hn : args.length = n) (h : ∀ x dx H2, H x = none → Same H H2 → H2 x = some (.ins C dx (F args)) → Q (.ref x) H2) :
    ∀ x dx, H x = none → H dx = none → dx ≠ x → spInit C n F (.ref x :: (args ++ [])) (L2.upd (L2.upd H dx (.own x)) x (.ins C dx [])) (fun v H2 => v = .non ∧ Q (.ref x) H2) E := by
  intro x dx hx hd ne
  rw [List.append_nil]
  exact ⟨x, dx, args, rfl, hn, upd_same, rfl, h x dx _ hx (same_make (C := C) hx hd) upd_same⟩
theorem fne {a b : Str} (h : ¬ a = b := by decide +kernel) : ¬ a = b := h
section
variable {P : Program} {w : World} {K : PySem.W.Frag} {mg : Str → Option Value} {base : Heap} {CB CP CT : Addr}
theorem scBInit : FnScope ["self", "kind", "k", "around", "body", "inside"] ["self", "kind", "k", "around", "body", "inside"] (defScope sBInit) := ⟨rfl, rfl, rfl, by decide +kernel, rfl, by decide +kernel, by decide +kernel⟩
theorem mk_block (T : Top K mg CB CP CT) : C8.Mak P w K mg base 1 "Block" CB (spInit CB 5 FB) [] := by
  obtain ⟨f, fd, F, M⟩ := T.h_BInit
  refine ⟨f, fd, ["self", "kind", "k", "around", "body", "inside"], [], M, ?_, T.m_Block, F.binds (fun _ _ _ _ _ _ us hl => match us, hl with | [_, _, _, _, _, _], _ => rfl), .nil⟩
  refine F.ok scBInit (fun vs H Q E h => ?_) (fun cdv A outer s H vs Q E hr h => ?_)
  · obtain ⟨p, dx, args, rfl, e, _⟩ := h
    show args.length + 1 = 6
    rw [e]
  · obtain ⟨p, dx, args, rfl, e, hp, k⟩ := h
    obtain ⟨a, b, c, d, g, rfl⟩ : ∃ a b c d g, args = [a, b, c, d, g] := by
      match args, e with
      | [a, b, c, d, g], _ => exact ⟨a, b, c, d, g, rfl⟩
    refine ⟨_, (pss_cons (ps_fld (pv 0) (pv 1) rfl)
  (pss_cons (ps_fld (pv 0) (pv 2) rfl)
  (pss_cons (ps_fld (pv 0) (pv 3) rfl)
  (pss_cons (ps_fld (pv 0) (pv 4) rfl)
  (pss_one (ps_fld (pv 0) (pv 5) rfl)))))), ?_⟩
    refine ⟨_, rfl, _, rfl, p, CB, dx, _, rfl, hp, T.clB, T.nB_kind, (by decide), _, rfl, _, rfl, p, CB, dx, _, rfl, upd_same, T.clB, T.nB_k, (by show 1 < 1000; decide), _, rfl, _, rfl, p, CB, dx, _, rfl, upd_same, T.clB, T.nB_around, ?_, _, rfl, _, rfl, p, CB, dx, _, rfl, upd_same, T.clB, T.nB_body, ?_, _, rfl, _, rfl, p, CB, dx, _, rfl, upd_same, T.clB, T.nB_inside, ?_, ?_⟩
    all_goals
      have n1 : ¬ ("kind" : Str) = "k" := by decide +kernel
      have n2 : ¬ ("kind" : Str) = "around" := by decide +kernel
      have n3 : ¬ ("k" : Str) = "around" := by decide +kernel
      have n4 : ¬ ("kind" : Str) = "body" := by decide +kernel
      have n5 : ¬ ("k" : Str) = "body" := by decide +kernel
      have n6 : ¬ ("around" : Str) = "body" := by decide +kernel
      have n7 : ¬ ("kind" : Str) = "inside" := by decide +kernel
      have n8 : ¬ ("k" : Str) = "inside" := by decide +kernel
      have n9 : ¬ ("around" : Str) = "inside" := by decide +kernel
      have n10 : ¬ ("body" : Str) = "inside" := by decide +kernel
    · simp [putF, n1]
    · simp [putF, n1, n2, n3]
    · simp [putF, n1, n2, n3, n4, n5, n6]
    · show Q .non _
      simp only [putF, n1, n2, n3, n4, n5, n6, n7, n8, n9, n10, if_false, upd_upd]
      exact k
theorem scPInit : FnScope ["self", "statement", "ground", "body"] ["self", "statement", "ground", "body"] (defScope sPInit) := ⟨rfl, rfl, rfl, by decide +kernel, rfl, by decide +kernel, by decide +kernel⟩
theorem mk_place (T : Top K mg CB CP CT) : C8.Mak P w K mg base 1 "Place" CP (spInit CP 3 FP) [] := by
  obtain ⟨f, fd, F, M⟩ := T.h_PInit
  refine ⟨f, fd, ["self", "statement", "ground", "body"], [], M, ?_, T.m_Place, F.binds (fun _ _ _ _ _ _ us hl => match us, hl with | [_, _, _, _], _ => rfl), .nil⟩
  refine F.ok scPInit (fun vs H Q E h => ?_) (fun cdv A outer s H vs Q E hr h => ?_)
  · obtain ⟨p, dx, args, rfl, e, _⟩ := h
    show args.length + 1 = 4
    rw [e]
  · obtain ⟨p, dx, args, rfl, e, hp, k⟩ := h
    obtain ⟨a, b, c, rfl⟩ : ∃ a b c, args = [a, b, c] := by
      match args, e with
      | [a, b, c], _ => exact ⟨a, b, c, rfl⟩
    refine ⟨_, (pss_cons (ps_fld (pv 0) (pv 1) rfl)
  (pss_cons (ps_fld (pv 0) (pv 2) rfl)
  (pss_one (ps_fld (pv 0) (pv 3) rfl)))), ?_⟩
    refine ⟨_, rfl, _, rfl, p, CP, dx, _, rfl, hp, T.clP, T.nP_statement, (by decide), _, rfl, _, rfl, p, CP, dx, _, rfl, upd_same, T.clP, T.nP_ground, (by show 1 < 1000; decide), _, rfl, _, rfl, p, CP, dx, _, rfl, upd_same, T.clP, T.nP_body, ?_, ?_⟩
    all_goals
      have n1 : ¬ ("statement" : Str) = "ground" := by decide +kernel
      have n2 : ¬ ("statement" : Str) = "body" := by decide +kernel
      have n3 : ¬ ("ground" : Str) = "body" := by decide +kernel
    · simp [putF, n1]
    · show Q .non _
      simp only [putF, n1, n2, n3, if_false, upd_upd]
      exact k
/-! ### blocks_of, made_by -/
def spBlocks (K : PySem.W.Frag) : Sp := fun vs H Q _ => ∃ (v : V) (s : Stm), vs = [v] ∧ Dp K H v (dS s) ∧ goodS s ∧ ∀ p H' us, H p = none → H' p = some (.lst us) → DpAll K H' us ((blks s).map kbD) → Same H H' → Q (.ref p) H'
def spMade (K : PySem.W.Frag) : Sp := fun vs H Q _ => ∃ (v : V) (s : Stm) (k g f : Nat), vs = [v, .int k, .int g, .int f] ∧ Dp K H v (dS s) ∧ goodS s ∧ ∀ p H' us, H p = none → H' p = some (.lst us) → DpAll K H' us (madeD s k g f) → Same H H' → Q (.ref p) H'
theorem str_of {x y : Str} (h : decide (V.str x = V.str y) = true) : x = y := V.str.inj (of_decide_eq_true h)
theorem strT {A B : Prop} {x y : Str} (h : x = y) (a : A) : if decide (V.str x = V.str y) = true then A else B := by
  rw [if_pos (decide_eq_true (congrArg V.str h))]
  exact a
theorem strF {A B : Prop} {x y : Str} (h : ¬ x = y) (b : B) : if decide (V.str x = V.str y) = true then A else B := by
  rw [if_neg (fun z => h (str_of z))]
  exact b
theorem boolT {A B : Prop} {c : Bool} (h : c = true) (a : A) : if c = true then A else B := by
  rw [if_pos h]
  exact a
theorem boolF {A B : Prop} {c : Bool} (h : c = false) (b : B) : if c = true then A else B := by
  rw [if_neg (by rw [h]; exact Bool.false_ne_true)]
  exact b
theorem fit {n : Nat} (h : n ≤ 1000) : n ≤ sizeLine := Nat.le_of_lt (small1000 h)
theorem sq_same {H H' : Hp} {a : Addr} {xs : List V} (e : Same H H') (h : SqT K H a xs) : SqT K H' a xs := sqT_ext (Same.ext e) h
theorem scBlocks : FnScope ["statement", "word"] ["statement"] (defScope s_blocks_of) := ⟨rfl, rfl, rfl, by decide +kernel, rfl, by decide +kernel, by decide +kernel⟩
theorem ok_blocks (T : Top K mg CB CP CT) : C8.Cal P w K mg base 1 "blocks_of" (spBlocks K) [] := by
  obtain ⟨f, fd, F, gm⟩ := T.h_blocks_of
  refine ⟨f, fd, ["statement"], [], ?_, gm, F.kp, F.binds (fun _ _ _ _ _ _ us hl => match us, hl with | [_], _ => rfl), .nil⟩
  refine F.ok scBlocks (fun vs H Q E h => ?_) (fun cdv A outer s H vs Q E hr h => ?_)
  · obtain ⟨v, s, rfl, _⟩ := h
    rfl
  · obtain ⟨v, s, rfl, hd, hg, k⟩ := h
    refine ⟨_, (pss_cons (ps_set (i := 1) scBlocks.nd rfl (Or.inl rfl) (pe_ix ix_tup (pv 0) pe_int (fun _ _ => rfl)))
  (pss_cons (ps_if (pt_cmpR op_eq (pv 1) pe_str (nomark _))
    (pss_one (ps_ret (pe_lst (pa_cons (pe_tup (pa_cons pe_str (pa_cons (pe_ix ix_tup (pv 0) pe_int (fun _ _ => rfl)) pa_nil))) pa_nil))))
    pss_nil)
  (pss_cons (ps_if (pt_cmpR op_eq (pv 1) pe_str (nomark _))
    (pss_one (ps_ret (pe_lst (pa_cons (pe_tup (pa_cons pe_str (pa_cons (pe_ix ix_tup (pv 0) pe_int (fun _ _ => rfl)) pa_nil))) (pa_cons (pe_tup (pa_cons pe_str (pa_cons (pe_ix ix_tup (pv 0) pe_int (fun _ _ => rfl)) pa_nil))) pa_nil)))))
    pss_nil)
  (pss_cons (ps_if (pt_cmpR op_eq (pv 1) pe_str (nomark _))
    (pss_one (ps_ret (pe_lst (pa_cons (pe_tup (pa_cons pe_str (pa_cons (pe_ix ix_tup (pv 0) pe_int (fun _ _ => rfl)) pa_nil))) pa_nil))))
    pss_nil)
  (pss_cons (ps_if (pt_cmpR op_eq (pv 1) pe_str (nomark _))
    (pss_one (ps_ret (pe_lst (pa_cons (pe_tup (pa_cons pe_str (pa_cons (pe_ix ix_tup (pv 0) pe_int (fun _ _ => rfl)) pa_nil))) pa_nil))))
    pss_nil)
  (pss_one (ps_ret (pe_lst pa_nil)))))))), ?_⟩
    have gB := goodB_blks hg
    cases s with
    | mk w0 x r h0 =>
      obtain ⟨a, rs, rfl, q, _⟩ := view_mk hd
      have n := mkW_ne h0
      refine ⟨_, rfl, a, _, _, _, rfl, rfl, q, atI_nat (j := 0) rfl, ?_⟩
      refine ⟨_, rfl, rfl, _, rfl, strF n.1 ?_⟩
      refine ⟨_, rfl, rfl, _, rfl, strF n.2.1 ?_⟩
      refine ⟨_, rfl, rfl, _, rfl, strF n.2.2.1 ?_⟩
      refine ⟨_, rfl, rfl, _, rfl, strF n.2.2.2 ?_⟩
      exact ⟨fit (by decide), fun p np => k p _ _ np upd_same .nil (same_new np)⟩
    | no w0 r h0 =>
      obtain ⟨a, rs, rfl, q, _⟩ := view_no hd
      have n := noW_ne h0
      refine ⟨_, rfl, a, _, _, _, rfl, rfl, q, atI_nat (j := 0) rfl, ?_⟩
      refine ⟨_, rfl, rfl, _, rfl, strF n.1 ?_⟩
      refine ⟨_, rfl, rfl, _, rfl, strF n.2.1 ?_⟩
      refine ⟨_, rfl, rfl, _, rfl, strF n.2.2.1 ?_⟩
      refine ⟨_, rfl, rfl, _, rfl, strF n.2.2.2 ?_⟩
      exact ⟨fit (by decide), fun p np => k p _ _ np upd_same .nil (same_new np)⟩
    | fn x ps b =>
      obtain ⟨a, pa, ba, rfl, q, qp, hb⟩ := view_fn hd
      refine ⟨_, rfl, a, _, _, _, rfl, rfl, q, atI_nat (j := 0) rfl, ?_⟩
      refine ⟨_, rfl, rfl, _, rfl, strT rfl ?_⟩
      refine ⟨_, rfl, a, _, _, _, rfl, rfl, q, atI_nat (j := 3) rfl, fit (show 2 ≤ 1000 by decide), fun t nt => ⟨fit (show 1 ≤ 1000 by decide), fun p np => ?_⟩⟩
      have s1 : Same H (L2.upd H t (.tup [.str "body", .ref ba])) := same_new nt
      have s2 : Same H (L2.upd (L2.upd H t (.tup [.str "body", .ref ba])) p (.lst [.ref t])) := s1.trans (same_new np)
      refine k p _ _ (s1.free np) upd_same (.cons (.tup (SqT.of (xs := [.str "body", .ref ba]) ?_) (.cons (.str _) (.cons (dp_ext (Same.ext s2) _ _ hb (noL_blk (gB ("body", b) List.mem_cons_self))) .nil))) .nil) s2
      rw [upd_ne (ne_of_none upd_same np), upd_same]
    | ite c b1 b2 =>
      obtain ⟨a, u, p1, p2, rfl, q, h1, h2⟩ := view_ite hd
      refine ⟨_, rfl, a, _, _, _, rfl, rfl, q, atI_nat (j := 0) rfl, ?_⟩
      refine ⟨_, rfl, rfl, _, rfl, strF (by decide +kernel) ?_⟩
      refine ⟨_, rfl, rfl, _, rfl, strT rfl ?_⟩
      refine ⟨_, rfl, a, _, _, _, rfl, rfl, q, atI_nat (j := 2) rfl, fit (show 2 ≤ 1000 by decide), fun t nt => ?_⟩
      have s1 : Same H (L2.upd H t (.tup [.str "one", .ref p1])) := same_new nt
      refine ⟨_, rfl, a, _, _, _, rfl, rfl, sq_same s1 q, atI_nat (j := 3) rfl, fit (show 2 ≤ 1000 by decide), fun t2 nt2 => ⟨fit (show 2 ≤ 1000 by decide), fun p np => ?_⟩⟩
      have s2 : Same (L2.upd H t (.tup [.str "one", .ref p1])) (L2.upd (L2.upd H t (.tup [.str "one", .ref p1])) t2 (.tup [.str "other", .ref p2])) := same_new nt2
      have s3 : Same H (L2.upd (L2.upd (L2.upd H t (.tup [.str "one", .ref p1])) t2 (.tup [.str "other", .ref p2])) p (.lst [.ref t, .ref t2])) := s1.trans (s2.trans (same_new np))
      refine k p _ _ ((s1.trans s2).free np) upd_same (.cons (.tup (SqT.of (xs := [.str "one", .ref p1]) ?_) (.cons (.str _) (.cons (dp_ext (Same.ext s3) _ _ h1 (noL_blk (gB ("one", b1) List.mem_cons_self))) .nil))) (.cons (.tup (SqT.of (xs := [.str "other", .ref p2]) ?_) (.cons (.str _) (.cons (dp_ext (Same.ext s3) _ _ h2 (noL_blk (gB ("other", b2) (List.mem_cons_of_mem _ List.mem_cons_self)))) .nil))) .nil)) s3
      · exact (s2.trans (same_new np)) _ _ upd_same
      · exact (same_new np) _ _ upd_same
    | whl c b =>
      obtain ⟨a, u, ba, rfl, q, hb⟩ := view_whl hd
      refine ⟨_, rfl, a, _, _, _, rfl, rfl, q, atI_nat (j := 0) rfl, ?_⟩
      refine ⟨_, rfl, rfl, _, rfl, strF (by decide +kernel) ?_⟩
      refine ⟨_, rfl, rfl, _, rfl, strF (by decide +kernel) ?_⟩
      refine ⟨_, rfl, rfl, _, rfl, strT rfl ?_⟩
      refine ⟨_, rfl, a, _, _, _, rfl, rfl, q, atI_nat (j := 2) rfl, fit (show 2 ≤ 1000 by decide), fun t nt => ⟨fit (show 1 ≤ 1000 by decide), fun p np => ?_⟩⟩
      have s1 : Same H (L2.upd H t (.tup [.str "while", .ref ba])) := same_new nt
      have s2 : Same H (L2.upd (L2.upd H t (.tup [.str "while", .ref ba])) p (.lst [.ref t])) := s1.trans (same_new np)
      refine k p _ _ (s1.free np) upd_same (.cons (.tup (SqT.of (xs := [.str "while", .ref ba]) ?_) (.cons (.str _) (.cons (dp_ext (Same.ext s2) _ _ hb (noL_blk (gB ("while", b) List.mem_cons_self))) .nil))) .nil) s2
      exact (same_new np) _ _ upd_same
    | tms one x c b =>
      obtain ⟨a, u, ba, rfl, q, hb⟩ := view_tms hd
      refine ⟨_, rfl, a, _, _, _, rfl, rfl, q, atI_nat (j := 0) rfl, ?_⟩
      refine ⟨_, rfl, rfl, _, rfl, strF (by decide +kernel) ?_⟩
      refine ⟨_, rfl, rfl, _, rfl, strF (by decide +kernel) ?_⟩
      refine ⟨_, rfl, rfl, _, rfl, strF (by decide +kernel) ?_⟩
      refine ⟨_, rfl, rfl, _, rfl, strT rfl ?_⟩
      refine ⟨_, rfl, a, _, _, _, rfl, rfl, q, atI_nat (j := 4) rfl, fit (show 2 ≤ 1000 by decide), fun t nt => ⟨fit (show 1 ≤ 1000 by decide), fun p np => ?_⟩⟩
      have s1 : Same H (L2.upd H t (.tup [.str "times", .ref ba])) := same_new nt
      have s2 : Same H (L2.upd (L2.upd H t (.tup [.str "times", .ref ba])) p (.lst [.ref t])) := s1.trans (same_new np)
      refine k p _ _ (s1.free np) upd_same (.cons (.tup (SqT.of (xs := [.str "times", .ref ba]) ?_) (.cons (.str _) (.cons (dp_ext (Same.ext s2) _ _ hb (noL_blk (gB ("times", b) List.mem_cons_self))) .nil))) .nil) s2
      exact (same_new np) _ _ upd_same
end
end K06
set_option Elab.async false
set_option linter.all false
set_option maxRecDepth 100000
set_option maxHeartbeats 4000000
namespace K06
open PySem PySem.Spec PyProof.Rows L2 Fb
/-! ### fields -/
theorem lk_ne {a b : Str} {v : V} {r : List (Str × V)} (h : (a == b) = false) : List.lookup a ((b, v) :: r) = List.lookup a r := by rw [List.lookup_cons, h]
theorem lk_eq {a : Str} {v : V} {r : List (Str × V)} : List.lookup a ((a, v) :: r) = some v := by simp
section
variable {a b c d e : V} {lp lb lg lm : Addr}
theorem bF_kind : (bF a b c d e).lookup ("kind" : Str) = some a := lk_eq
theorem bF_k : (bF a b c d e).lookup ("k" : Str) = some b := (lk_ne (by decide +kernel)).trans lk_eq
theorem bF_around : (bF a b c d e).lookup ("around" : Str) = some c := (lk_ne (by decide +kernel)).trans ((lk_ne (by decide +kernel)).trans lk_eq)
theorem bF_body : (bF a b c d e).lookup ("body" : Str) = some d := (lk_ne (by decide +kernel)).trans ((lk_ne (by decide +kernel)).trans ((lk_ne (by decide +kernel)).trans lk_eq))
theorem bF_inside : (bF a b c d e).lookup ("inside" : Str) = some e := (lk_ne (by decide +kernel)).trans ((lk_ne (by decide +kernel)).trans ((lk_ne (by decide +kernel)).trans ((lk_ne (by decide +kernel)).trans lk_eq)))
theorem pF_statement : (pF a b c).lookup ("statement" : Str) = some a := lk_eq
theorem pF_ground : (pF a b c).lookup ("ground" : Str) = some b := (lk_ne (by decide +kernel)).trans lk_eq
theorem pF_body : (pF a b c).lookup ("body" : Str) = some c := (lk_ne (by decide +kernel)).trans ((lk_ne (by decide +kernel)).trans lk_eq)
theorem tF_places : (tF lp lb lg lm).lookup ("places" : Str) = some (.ref lp) := lk_eq
theorem tF_bodies : (tF lp lb lg lm).lookup ("body_rows" : Str) = some (.ref lb) := (lk_ne (by decide +kernel)).trans lk_eq
theorem tF_grounds : (tF lp lb lg lm).lookup ("ground_rows" : Str) = some (.ref lg) := (lk_ne (by decide +kernel)).trans ((lk_ne (by decide +kernel)).trans lk_eq)
theorem tF_makings : (tF lp lb lg lm).lookup ("making_rows" : Str) = some (.ref lm) := (lk_ne (by decide +kernel)).trans ((lk_ne (by decide +kernel)).trans ((lk_ne (by decide +kernel)).trans lk_eq))
theorem tF_no {m : Str} (h1 : (m == ("places" : Str)) = false) (h2 : (m == ("body_rows" : Str)) = false) (h3 : (m == ("ground_rows" : Str)) = false) (h4 : (m == ("making_rows" : Str)) = false) : (tF lp lb lg lm).lookup m = none := (lk_ne h1).trans ((lk_ne h2).trans ((lk_ne h3).trans (lk_ne h4)))
end
/-! ### what stands in a heap -/
section
variable {K : PySem.W.Frag} {CB CP CT : Addr}
theorem ext_put {H : Hp} {D : Addr} {us : List V} {o : HO} (h : H D = some (.lst us)) : Ext H (L2.upd H D o) := fun b x e f => by
  rw [upd_ne (show b ≠ D from fun z => no_lst h x (by rw [← z]; exact e) f)]
  exact e
theorem ext_new {H : Hp} {p : Addr} {o : HO} (h : H p = none) : Ext H (L2.upd H p o) := Same.ext (same_new h)
def Sc (v : V) (d : PyData) : Prop := (v = .non ∧ d = .none) ∨ ∃ n : Nat, v = .int n ∧ d = nD n
theorem Sc.dp {H : Hp} {v : V} {d : PyData} (h : Sc v d) : Dp K H v d := by
  rcases h with ⟨rfl, rfl⟩ | ⟨n, rfl, rfl⟩
  · exact .non
  · exact .int _
def ItAt (K : PySem.W.Frag) (CB CP : Addr) (H : Hp) (v : V) : Itm → Prop
  | .blk kind k a body b => ∃ q dx kV aV pb, v = .ref q ∧ H q = some (.ins CB dx (bF (.str kind) kV aV (.int (body : Int)) (.ref pb))) ∧ Sc kV k ∧ Sc aV a ∧ Dp K H (.ref pb) (.tuple (dB b)) ∧ goodB b
  | .plc s g b => ∃ q dx p, v = .ref q ∧ H q = some (.ins CP dx (pF (.ref p) (.int (g : Int)) (.int (b : Int)))) ∧ Dp K H (.ref p) (dS s) ∧ goodS s
theorem ItAt.ext {H H' : Hp} {v : V} {i : Itm} (e : Ext H H') (h : ItAt K CB CP H v i) : ItAt K CB CP H' v i := by
  cases i with
  | blk kind k a body b =>
    obtain ⟨q, dx, kV, aV, pb, h1, h2, h3, h4, h5, h6⟩ := h
    exact ⟨q, dx, kV, aV, pb, h1, e _ _ h2 True.intro, h3, h4, dp_ext e _ _ h5 (noL_blk h6), h6⟩
  | plc s g b =>
    obtain ⟨q, dx, p, h1, h2, h3, h4⟩ := h
    exact ⟨q, dx, p, h1, e _ _ h2 True.intro, dp_ext e _ _ h3 (noL_dS s h4), h4⟩
inductive ItAll (K : PySem.W.Frag) (CB CP : Addr) (H : Hp) : List V → List Itm → Prop
  | nil : ItAll K CB CP H [] []
  | cons {v : V} {vs : List V} {i : Itm} {is : List Itm} : ItAt K CB CP H v i → ItAll K CB CP H vs is → ItAll K CB CP H (v :: vs) (i :: is)
theorem ItAll.ext {H H' : Hp} (e : Ext H H') : ∀ {vs : List V} {is : List Itm}, ItAll K CB CP H vs is → ItAll K CB CP H' vs is
  | _, _, .nil => .nil
  | _, _, .cons a t => .cons (a.ext e) (ItAll.ext e t)
theorem ItAll.snoc {H : Hp} {v : V} {i : Itm} (h : ItAt K CB CP H v i) : ∀ {vs : List V} {is : List Itm}, ItAll K CB CP H vs is → ItAll K CB CP H (vs ++ [v]) (is ++ [i])
  | _, _, .nil => .cons h .nil
  | _, _, .cons a t => .cons a (ItAll.snoc h t)
theorem ItAll.app {H : Hp} {ws : List V} {js : List Itm} (h : ItAll K CB CP H ws js) : ∀ {vs : List V} {is : List Itm}, ItAll K CB CP H vs is → ItAll K CB CP H (vs ++ ws) (is ++ js)
  | _, _, .nil => h
  | _, _, .cons a t => .cons a (ItAll.app h t)
theorem ItAll.len {H : Hp} : ∀ {vs : List V} {is : List Itm}, ItAll K CB CP H vs is → vs.length = is.length
  | _, _, .nil => rfl
  | _, _, .cons _ t => by rw [List.length_cons, List.length_cons, ItAll.len t]
/-- the places told -/
def PlAt (K : PySem.W.Frag) (CP : Addr) (H : Hp) (v : V) (e : PyData × Nat × Nat) : Prop := ∃ q dx p, v = .ref q ∧ H q = some (.ins CP dx (pF (.ref p) (.int (e.2.1 : Int)) (.int (e.2.2 : Int)))) ∧ Dp K H (.ref p) e.1 ∧ noL e.1 = true
inductive PlAll (K : PySem.W.Frag) (CP : Addr) (H : Hp) : List V → List (PyData × Nat × Nat) → Prop
  | nil : PlAll K CP H [] []
  | cons {v : V} {vs : List V} {e : PyData × Nat × Nat} {es : List (PyData × Nat × Nat)} : PlAt K CP H v e → PlAll K CP H vs es → PlAll K CP H (v :: vs) (e :: es)
theorem PlAll.ext {H H' : Hp} (x : Ext H H') : ∀ {vs : List V} {es : List (PyData × Nat × Nat)}, PlAll K CP H vs es → PlAll K CP H' vs es
  | _, _, .nil => .nil
  | _, _, .cons ⟨q, dx, p, h1, h2, h3, h4⟩ t => .cons ⟨q, dx, p, h1, x _ _ h2 True.intro, dp_ext x _ _ h3 h4, h4⟩ (PlAll.ext x t)
theorem PlAll.snoc {H : Hp} {v : V} {e : PyData × Nat × Nat} (h : PlAt K CP H v e) : ∀ {vs : List V} {es : List (PyData × Nat × Nat)}, PlAll K CP H vs es → PlAll K CP H (vs ++ [v]) (es ++ [e])
  | _, _, .nil => .cons h .nil
  | _, _, .cons a t => .cons a (PlAll.snoc h t)
theorem PlAll.len {H : Hp} : ∀ {vs : List V} {es : List (PyData × Nat × Nat)}, PlAll K CP H vs es → vs.length = es.length
  | _, _, .nil => rfl
  | _, _, .cons _ t => by rw [List.length_cons, List.length_cons, PlAll.len t]
/-- rows that stay -/
def Rows (K : PySem.W.Frag) (H : Hp) (l : Addr) (ds : List PyData) : Prop := ∃ vs, H l = some (.lst vs) ∧ DpAll K H vs ds ∧ noLs ds = true
structure TreeAt (K : PySem.W.Frag) (CP CT : Addr) (H : Hp) (sf lp lb lg lm : Addr) (t : Fb.TS) : Prop where
  ob : ∃ dx, H sf = some (.ins CT dx (tF lp lb lg lm))
  pl : ∃ vs, H lp = some (.lst vs) ∧ PlAll K CP H vs t.pl
  bd : Rows K H lb t.bd
  gr : Rows K H lg t.gr
  mm : Rows K H lm t.mm
  nd : [lp, lb, lg, lm].Nodup
theorem Rows.mod {H H' : Hp} {l : Addr} {ds : List PyData} (h : Rows K H l ds) (e : Ext H H') (k : ∀ o, H l = some o → H' l = some o) : Rows K H' l ds := by
  obtain ⟨vs, h1, h2, h3⟩ := h
  exact ⟨vs, k _ h1, dps_ext e _ _ h2 h3, h3⟩
theorem TreeAt.same {H H' : Hp} {self lp lb lg lm : Addr} {t : Fb.TS} (h : TreeAt K CP CT H self lp lb lg lm t) (s : Same H H') : TreeAt K CP CT H' self lp lb lg lm t := by
  obtain ⟨⟨dx, h1⟩, ⟨vs, h2, h2'⟩, h3, h4, h5, h6⟩ := h
  exact ⟨⟨dx, s _ _ h1⟩, ⟨vs, s _ _ h2, h2'.ext (Same.ext s)⟩, h3.mod (Same.ext s) (fun o => s _ o), h4.mod (Same.ext s) (fun o => s _ o), h5.mod (Same.ext s) (fun o => s _ o), h6⟩
theorem noLs_app {a b : List PyData} (h1 : noLs a = true) (h2 : noLs b = true) : noLs (a ++ b) = true := by
  induction a with
  | nil => exact h2
  | cons x r ih =>
    rw [noLs, Bool.and_eq_true] at h1
    rw [List.cons_append, noLs, h1.1, ih h1.2]
    rfl
theorem noL_rowG {kind : Str} {k a : PyData} {kV aV : V} (h1 : Sc kV k) (h2 : Sc aV a) : noL (rowG kind k a) = true := by
  rcases h1 with ⟨_, rfl⟩ | ⟨n, _, rfl⟩ <;> rcases h2 with ⟨_, rfl⟩ | ⟨m, _, rfl⟩ <;> rfl
theorem noLs_made (s : Stm) (k g f : Nat) : noLs (madeD s k g f) = true := by
  refine noLs_all fun d h => ?_
  cases s with
  | mk w x r h0 => rw [List.mem_singleton.mp h]; rfl
  | no w r h0 => cases h
  | fn x ps b =>
    rcases List.mem_cons.mp h with e | e
    · rw [e]; rfl
    · obtain ⟨y, _, rfl⟩ := List.mem_map.mp e
      rfl
  | ite c b1 b2 => cases h
  | whl c b => cases h
  | tms one x c b => rw [List.mem_singleton.mp h]; rfl
end
section
variable {P : Program} {w : World} {K : PySem.W.Frag} {mg : Str → Option Value} {base : Heap} {CB CP CT : Addr}
theorem dp_row {H : Hp} {t : Addr} {x : Str} {k g : Nat} (h : H t = some (.tup [.str x, .int (k : Int), .int (g : Int)])) : Dp K H (.ref t) (rowM x k g) := .tup (SqT.of h) (.cons (.str _) (.cons (.int _) (.cons (.int _) .nil)))
theorem take_snoc {α : Type} {xs : List α} {i : Nat} {c : α} (h : xs[i]? = some c) : xs.take (i + 1) = xs.take i ++ [c] := by
  rw [List.take_add_one, h]
  rfl
theorem scMade : FnScope ["statement", "k", "ground", "following", "word", "name"] ["statement", "k", "ground", "following"] (defScope s_made_by) := ⟨rfl, rfl, rfl, by decide +kernel, rfl, by decide +kernel, by decide +kernel⟩
theorem flat3 : (mkW.map V.str).all flatV = true := by decide +kernel
theorem ok_made (T : Top K mg CB CP CT) : C8.Cal P w K mg base 1 "made_by" (spMade K) [] := by
  obtain ⟨f, fd, F, gm⟩ := T.h_made_by
  refine ⟨f, fd, ["statement", "k", "ground", "following"], [], ?_, gm, F.kp, F.binds (fun _ _ _ _ _ _ us hl => match us, hl with | [_, _, _, _], _ => rfl), .nil⟩
  refine F.ok scMade (fun vs H Q E h => ?_) (fun cdv A outer s H vs Q E hr h => ?_)
  · obtain ⟨v, s, k, g, f, rfl, _⟩ := h
    rfl
  · obtain ⟨v, s, kN, gN, fN, rfl, hd, hg, k⟩ := h
    refine ⟨_, (pss_cons (ps_set (i := 4) scMade.nd rfl (Or.inl rfl) (pe_ix ix_tup (pv 0) pe_int (fun _ _ => rfl)))
  (pss_cons (ps_if (pt_cmpR op_in_seq (pv 4) (pe_tup (pa_cons pe_str (pa_cons pe_str (pa_cons pe_str pa_nil)))) (by rfl))
    (pss_one (ps_ret (pe_lst (pa_cons (pe_tup (pa_cons (pe_ix ix_tup (pv 0) pe_int (fun _ _ => rfl)) (pa_cons (pv 1) (pa_cons (pv 2) pa_nil)))) pa_nil))))
    pss_nil)
  (pss_cons (ps_if (pt_cmpR op_eq (pv 4) pe_str (nomark _))
    (pss_one (ps_ret (pe_op op_cat (pe_lst (pa_cons (pe_tup (pa_cons (pe_ix ix_tup (pv 0) pe_int (fun _ _ => rfl)) (pa_cons (pv 1) (pa_cons (pv 2) pa_nil)))) pa_nil)) (pe_lc (own := [("name", 5)]) rfl scMade.nd (pi_tup (pe_ix ix_tup (pv 0) pe_int (fun _ _ => rfl))) (blkOk_by (own := [("name", 5)]) (N := ["statement", "k", "ground", "following", "word", "name"]) (sc := defScope s_made_by) (by decide +kernel)) (fun _ _ _ _ _ => (pg_name (i := 5) scMade.nd rfl (Or.inl rfl))) (fun _ _ _ _ _ => pts_nil) (fun _ _ _ _ _ => (pe_tup (pa_cons (pv 5) (pa_cons (pv 1) (pa_cons (pv 3) pa_nil)))))))))
    pss_nil)
  (pss_cons (ps_if (pt_cmpR op_eq (pv 4) pe_str (nomark _))
    (pss_one (ps_ret (pe_lst (pa_cons (pe_tup (pa_cons (pe_ix ix_tup (pv 0) pe_int (fun _ _ => rfl)) (pa_cons (pv 1) (pa_cons (pv 3) pa_nil)))) pa_nil))))
    pss_nil)
  (pss_one (ps_ret (pe_lst pa_nil))))))), ?_⟩
    cases s with
    | mk w0 x r h0 =>
      obtain ⟨a, rs, rfl, q, _⟩ := view_mk hd
      refine ⟨_, rfl, a, _, _, _, rfl, rfl, q, atI_nat (j := 0) rfl, ?_⟩
      refine ⟨_, rfl, fit (show 3 ≤ 1000 by decide), fun t nt => ⟨t, mkW.map V.str, rfl, .inr (SqT.of upd_same), rfl, flat3, _, rfl, boolT (c := inV (.str w0) (mkW.map V.str)) (mkW_in h0) ?_⟩⟩
      have s1 : Same H (L2.upd H t (.tup (mkW.map V.str))) := same_new nt
      refine ⟨_, rfl, a, _, _, _, rfl, rfl, sq_same s1 q, atI_nat (j := 1) rfl, _, rfl, _, rfl, fit (show 3 ≤ 1000 by decide), fun t2 nt2 => ⟨fit (show 1 ≤ 1000 by decide), fun p np => ?_⟩⟩
      refine k p _ _ ((s1.trans (same_new nt2)).free np) upd_same (.cons (dp_row (same_new np _ _ upd_same)) .nil) (s1.trans ((same_new nt2).trans (same_new np)))
    | no w0 r h0 =>
      obtain ⟨a, rs, rfl, q, _⟩ := view_no hd
      have n := noW_ne h0
      refine ⟨_, rfl, a, _, _, _, rfl, rfl, q, atI_nat (j := 0) rfl, ?_⟩
      refine ⟨_, rfl, fit (show 3 ≤ 1000 by decide), fun t nt => ⟨t, mkW.map V.str, rfl, .inr (SqT.of upd_same), rfl, flat3, _, rfl, boolF (c := inV (.str w0) (mkW.map V.str)) (noW_in h0) ?_⟩⟩
      have s1 : Same H (L2.upd H t (.tup (mkW.map V.str))) := same_new nt
      refine ⟨_, rfl, rfl, _, rfl, strF n.1 ?_⟩
      refine ⟨_, rfl, rfl, _, rfl, strF n.2.2.2 ?_⟩
      exact ⟨fit (by decide), fun p np => k p _ _ (s1.free np) upd_same .nil (s1.trans (same_new np))⟩
    | fn x ps b =>
      obtain ⟨a, pa, ba, rfl, q, qp, hb⟩ := view_fn hd
      refine ⟨_, rfl, a, _, _, _, rfl, rfl, q, atI_nat (j := 0) rfl, ?_⟩
      refine ⟨_, rfl, fit (show 3 ≤ 1000 by decide), fun t nt => ⟨t, mkW.map V.str, rfl, .inr (SqT.of upd_same), rfl, flat3, _, rfl, boolF (c := inV (.str "fn") (mkW.map V.str)) (by decide +kernel) ?_⟩⟩
      have s1 : Same H (L2.upd H t (.tup (mkW.map V.str))) := same_new nt
      refine ⟨_, rfl, rfl, _, rfl, strT rfl ?_⟩
      refine ⟨_, rfl, a, _, _, _, rfl, rfl, sq_same s1 q, atI_nat (j := 1) rfl, _, rfl, _, rfl, fit (show 3 ≤ 1000 by decide), fun t2 nt2 => ⟨fit (show 1 ≤ 1000 by decide), fun p np => ?_⟩⟩
      have s2 := s1.trans ((same_new (o := .tup [.str x, .int (kN : Int), .int (gN : Int)]) nt2).trans (same_new (o := .lst [V.ref t2]) np))
      have hp : (L2.upd (L2.upd (L2.upd H t (.tup (mkW.map V.str))) t2 (.tup [.str x, .int (kN : Int), .int (gN : Int)])) p (.lst [V.ref t2])) p = some (.lst [V.ref t2]) := upd_same
      have ht2 : (L2.upd (L2.upd (L2.upd H t (.tup (mkW.map V.str))) t2 (.tup [.str x, .int (kN : Int), .int (gN : Int)])) p (.lst [V.ref t2])) t2 = some (.tup [.str x, .int (kN : Int), .int (gN : Int)]) := same_new np _ _ upd_same
      rw [goodS] at hg
      refine ⟨_, rfl, a, _, _, _, rfl, rfl, sq_same s2 q, atI_nat (j := 2) rfl, pa, rfl, ⟨_, sq_same s2 qp⟩, fun D nD => lc_it (walk_tup (xs := ps.map V.str)) (fun i H2 => Same H H2 ∧ H2 p = some (.lst [V.ref t2]) ∧ H2 t2 = some (.tup [.str x, .int (kN : Int), .int (gN : Int)]) ∧ ∃ us, H2 D = some (.lst us) ∧ DpAll K H2 us ((ps.take i).map fun y => rowM y kN fN)) ⟨s2.trans (same_new nD), same_new nD _ _ hp, same_new nD _ _ ht2, [], upd_same, .nil⟩ (fun i H2 _ z => sq_same z.1 qp) ?_ ?_⟩
      · rintro i y H2 H3 hi ⟨z1, zp, zt, us, hD, du⟩ ⟨rfl, hy⟩
        obtain ⟨nmx, hn, rfl⟩ : ∃ nx, ps[i]? = some nx ∧ y = .str nx := by
          rw [List.getElem?_map] at hy
          cases e : ps[i]? with
          | none => rw [e] at hy; cases hy
          | some nx => rw [e] at hy; exact ⟨nx, rfl, (Option.some.inj hy).symm⟩
        have lu := dps_len du
        rw [List.length_map, List.length_take] at lu
        refine ⟨rfl, _, rfl, _, rfl, _, rfl, fit (show 3 ≤ 1000 by decide), fun t3 nt3 => ⟨us, same_new nt3 _ _ hD, small1000 (by omega), ?_, ?_, ?_, us ++ [.ref t3], upd_same, ?_⟩⟩
        · intro c o e
          rw [upd_ne (ne_of_none (s2 c o e) nD)]
          exact same_new nt3 _ _ (z1 c o e)
        · rw [upd_ne (ne_of_none hp nD)]
          exact same_new nt3 _ _ zp
        · rw [upd_ne (ne_of_none ht2 nD)]
          exact same_new nt3 _ _ zt
        · rw [take_snoc hn, List.map_append]
          have ex : Ext H3 (L2.upd (L2.upd H3 t3 (.tup [.str nmx, .int (kN : Int), .int (fN : Int)])) D (.lst (us ++ [.ref t3]))) := (ext_new nt3).trans (ext_put (same_new nt3 _ _ hD))
          refine dps_snoc (dps_ext ex _ _ du (noLs_all fun d hd => ?_)) (dp_row ?_)
          · obtain ⟨y, _, rfl⟩ := List.mem_map.mp hd
            rfl
          · rw [upd_ne (ne_of_none hD nt3).symm, upd_same]
      · rintro H2 ⟨z1, zp, zt, us, hD, du⟩
        rw [List.length_map, List.take_length] at du
        have lu := dps_len du
        rw [List.length_map] at lu
        refine ⟨p, D, _, _, rfl, rfl, zp, hD, fit (by rw [List.length_cons, List.length_nil]; omega), fun p2 np2 => ?_⟩
        refine k p2 _ _ (z1.free np2) upd_same ?_ (z1.trans (same_new np2))
        exact .cons (dp_row (same_new np2 _ _ zt)) (dps_ext (ext_new np2) _ _ du (noLs_all fun d hd => by obtain ⟨y, _, rfl⟩ := List.mem_map.mp hd; rfl))
    | ite c b1 b2 =>
      obtain ⟨a, u, p1, p2, rfl, q, h1, h2⟩ := view_ite hd
      refine ⟨_, rfl, a, _, _, _, rfl, rfl, q, atI_nat (j := 0) rfl, ?_⟩
      refine ⟨_, rfl, fit (show 3 ≤ 1000 by decide), fun t nt => ⟨t, mkW.map V.str, rfl, .inr (SqT.of upd_same), rfl, flat3, _, rfl, boolF (c := inV (.str "if") (mkW.map V.str)) (by decide +kernel) ?_⟩⟩
      have s1 : Same H (L2.upd H t (.tup (mkW.map V.str))) := same_new nt
      refine ⟨_, rfl, rfl, _, rfl, strF (by decide +kernel) ?_⟩
      refine ⟨_, rfl, rfl, _, rfl, strF (by decide +kernel) ?_⟩
      exact ⟨fit (by decide), fun p np => k p _ _ (s1.free np) upd_same .nil (s1.trans (same_new np))⟩
    | whl c b =>
      obtain ⟨a, u, p1, rfl, q, h1⟩ := view_whl hd
      refine ⟨_, rfl, a, _, _, _, rfl, rfl, q, atI_nat (j := 0) rfl, ?_⟩
      refine ⟨_, rfl, fit (show 3 ≤ 1000 by decide), fun t nt => ⟨t, mkW.map V.str, rfl, .inr (SqT.of upd_same), rfl, flat3, _, rfl, boolF (c := inV (.str "while") (mkW.map V.str)) (by decide +kernel) ?_⟩⟩
      have s1 : Same H (L2.upd H t (.tup (mkW.map V.str))) := same_new nt
      refine ⟨_, rfl, rfl, _, rfl, strF (by decide +kernel) ?_⟩
      refine ⟨_, rfl, rfl, _, rfl, strF (by decide +kernel) ?_⟩
      exact ⟨fit (by decide), fun p np => k p _ _ (s1.free np) upd_same .nil (s1.trans (same_new np))⟩
    | tms one x c b =>
      obtain ⟨a, u, p1, rfl, q, h1⟩ := view_tms hd
      refine ⟨_, rfl, a, _, _, _, rfl, rfl, q, atI_nat (j := 0) rfl, ?_⟩
      refine ⟨_, rfl, fit (show 3 ≤ 1000 by decide), fun t nt => ⟨t, mkW.map V.str, rfl, .inr (SqT.of upd_same), rfl, flat3, _, rfl, boolF (c := inV (.str "times") (mkW.map V.str)) (by decide +kernel) ?_⟩⟩
      have s1 : Same H (L2.upd H t (.tup (mkW.map V.str))) := same_new nt
      refine ⟨_, rfl, rfl, _, rfl, strF (by decide +kernel) ?_⟩
      refine ⟨_, rfl, rfl, _, rfl, strT rfl ?_⟩
      refine ⟨_, rfl, a, _, _, _, rfl, rfl, sq_same s1 q, atI_nat (j := 2) rfl, _, rfl, _, rfl, fit (show 3 ≤ 1000 by decide), fun t2 nt2 => ⟨fit (show 1 ≤ 1000 by decide), fun p np => ?_⟩⟩
      refine k p _ _ ((s1.trans (same_new nt2)).free np) upd_same (.cons (dp_row (same_new np _ _ upd_same)) .nil) (s1.trans ((same_new nt2).trans (same_new np)))
end
end K06
set_option Elab.async false
set_option linter.all false
set_option maxRecDepth 100000
set_option maxHeartbeats 4000000
namespace K06
open PySem PySem.Spec PyProof.Rows L2 Fb
section
variable {K : PySem.W.Frag} {CB CP CT : Addr} {H H' : Hp} {self lp lb lg lm : Addr} {t : Fb.TS}
theorem TreeAt.nes (h : TreeAt K CP CT H self lp lb lg lm t) : (lp ≠ lb ∧ lp ≠ lg ∧ lp ≠ lm) ∧ (lb ≠ lg ∧ lb ≠ lm) ∧ lg ≠ lm := by
  have z := h.nd
  simp only [List.nodup_cons, List.mem_cons, List.not_mem_nil, or_false, not_or, List.nodup_nil, and_true, not_false_eq_true] at z
  exact z
theorem TreeAt.upd_gr (h : TreeAt K CP CT H self lp lb lg lm t) (m : Mod [lg] H H') {gs : List PyData} (r : Rows K H' lg gs) : TreeAt K CP CT H' self lp lb lg lm { t with gr := gs } := by
  obtain ⟨⟨a1, a2, a3⟩, ⟨b1, b2⟩, c1⟩ := h.nes
  obtain ⟨⟨dx, h1⟩, ⟨vs, h2, h2'⟩, h3, ⟨gv, g1, g2⟩, h5, h6⟩ := h
  have e : Ext H H' := m.ext fun b hb => by rw [List.mem_singleton.mp hb]; exact no_lst g1
  have k : ∀ {l : Addr}, l ≠ lg → ∀ o, H l = some o → H' l = some o := fun hl o q => m _ o q (by simpa using hl)
  exact ⟨⟨dx, e _ _ h1 True.intro⟩, ⟨vs, k a2 _ h2, h2'.ext e⟩, h3.mod e (k b1), r, h5.mod e (k c1.symm), h6⟩
theorem TreeAt.upd_mm (h : TreeAt K CP CT H self lp lb lg lm t) (m : Mod [lm] H H') {gs : List PyData} (r : Rows K H' lm gs) : TreeAt K CP CT H' self lp lb lg lm { t with mm := gs } := by
  obtain ⟨⟨a1, a2, a3⟩, ⟨b1, b2⟩, c1⟩ := h.nes
  obtain ⟨⟨dx, h1⟩, ⟨vs, h2, h2'⟩, h3, h4, ⟨gv, g1, g2⟩, h6⟩ := h
  have e : Ext H H' := m.ext fun b hb => by rw [List.mem_singleton.mp hb]; exact no_lst g1
  have k : ∀ {l : Addr}, l ≠ lm → ∀ o, H l = some o → H' l = some o := fun hl o q => m _ o q (by simpa using hl)
  exact ⟨⟨dx, e _ _ h1 True.intro⟩, ⟨vs, k a3 _ h2, h2'.ext e⟩, h3.mod e (k b2), h4.mod e (k c1), r, h6⟩
theorem TreeAt.upd_bd (h : TreeAt K CP CT H self lp lb lg lm t) (m : Mod [lb] H H') {gs : List PyData} (r : Rows K H' lb gs) : TreeAt K CP CT H' self lp lb lg lm { t with bd := gs } := by
  obtain ⟨⟨a1, a2, a3⟩, ⟨b1, b2⟩, c1⟩ := h.nes
  obtain ⟨⟨dx, h1⟩, ⟨vs, h2, h2'⟩, ⟨gv, g1, g2⟩, h4, h5, h6⟩ := h
  have e : Ext H H' := m.ext fun b hb => by rw [List.mem_singleton.mp hb]; exact no_lst g1
  have k : ∀ {l : Addr}, l ≠ lb → ∀ o, H l = some o → H' l = some o := fun hl o q => m _ o q (by simpa using hl)
  exact ⟨⟨dx, e _ _ h1 True.intro⟩, ⟨vs, k a1 _ h2, h2'.ext e⟩, r, h4.mod e (k b1.symm), h5.mod e (k b2.symm), h6⟩
theorem TreeAt.upd_pl (h : TreeAt K CP CT H self lp lb lg lm t) (m : Mod [lp] H H') {gs : List (PyData × Nat × Nat)} (r : ∃ vs, H' lp = some (.lst vs) ∧ PlAll K CP H' vs gs) : TreeAt K CP CT H' self lp lb lg lm { t with pl := gs } := by
  obtain ⟨⟨a1, a2, a3⟩, ⟨b1, b2⟩, c1⟩ := h.nes
  obtain ⟨⟨dx, h1⟩, ⟨vs, h2, h2'⟩, h3, h4, h5, h6⟩ := h
  have e : Ext H H' := m.ext fun b hb => by rw [List.mem_singleton.mp hb]; exact no_lst h2
  have k : ∀ {l : Addr}, l ≠ lp → ∀ o, H l = some o → H' l = some o := fun hl o q => m _ o q (by simpa using hl)
  exact ⟨⟨dx, e _ _ h1 True.intro⟩, r, h3.mod e (k a1.symm), h4.mod e (k a2.symm), h5.mod e (k a3.symm), h6⟩
/-- a new tuple, and a list that gets it -/
theorem mod_push {l p : Addr} {o o2 : HO} (np : H p = none) : Mod [l] H (L2.upd (L2.upd H p o) l o2) := Mod.put (Mod.put (Mod.refl _ _) (.inr np)) (.inl List.mem_cons_self)
theorem rows_push {l p : Addr} {vs xs : List V} {ds : List PyData} {d : PyData} (h1 : H l = some (.lst vs)) (h2 : DpAll K H vs ds) (h3 : noLs ds = true) (np : H p = none) (nd : noL d = true)
    (hd : Dp K (L2.upd (L2.upd H p (.tup xs)) l (.lst (vs ++ [.ref p]))) (.ref p) d) : Rows K (L2.upd (L2.upd H p (.tup xs)) l (.lst (vs ++ [.ref p]))) l (ds ++ [d]) :=
  ⟨_, upd_same, dps_snoc (dps_ext ((ext_new np).trans (ext_put (same_new np _ _ h1))) _ _ h2 h3) hd, noLs_app h3 (by rw [noLs, nd]; rfl)⟩
theorem push_at {l p : Addr} {vs xs : List V} {o2 : HO} (h1 : H l = some (.lst vs)) (np : H p = none) : (L2.upd (L2.upd H p (.tup xs)) l o2) p = some (.tup xs) := by
  rw [upd_ne (ne_of_none h1 np).symm, upd_same]
theorem plc_at : ∀ {b : Blk} {i : Nat} {d : PyData} (g bo : Nat), (dB b)[i]? = some d → goodB b → ∃ s, d = dS s ∧ (plcs b g bo)[i]? = some (.plc s g bo) ∧ goodS s
  | .nil, _, _, _, _, h, _ => by rw [dB] at h; cases h
  | .cons s r, 0, d, g, bo, h, q => by
    rw [goodB] at q
    rw [dB] at h
    exact ⟨s, (Option.some.inj h).symm, rfl, q.1⟩
  | .cons s r, i + 1, d, g, bo, h, q => by
    rw [goodB] at q
    rw [dB] at h
    exact plc_at (b := r) (i := i) g bo h q.2
theorem dB_len : ∀ (b : Blk) (g bo : Nat), (plcs b g bo).length = (dB b).length
  | .nil, _, _ => rfl
  | .cons s r, g, bo => by
    rw [dB]
    exact congrArg (· + 1) (dB_len r g bo)
end
def spEnter (K : PySem.W.Frag) (CB CP CT : Addr) : Sp := fun vs H Q _ => ∃ (self lp lb lg lm : Addr) (t : Fb.TS) (q : Addr) (kind : Str) (k a : PyData) (body : Nat) (b : Blk), vs = [.ref self, .ref q] ∧ TreeAt K CP CT H self lp lb lg lm t ∧
  ItAt K CB CP H (.ref q) (.blk kind k a body b) ∧ t.n + 1 + wB b ≤ 1000 ∧ ∀ p H' us, H p = none → H' p = some (.lst us) → ItAll K CB CP H' us (plcs b t.gr.length body) → TreeAt K CP CT H' self lp lb lg lm { t with gr := t.gr ++ [rowG kind k a] } → Mod [lg] H H' → Q (.ref p) H'
def spMeet (K : PySem.W.Frag) (CB CP CT : Addr) : Sp := fun vs H Q _ => ∃ (self lp lb lg lm : Addr) (t : Fb.TS) (q : Addr) (s : Stm) (g b : Nat), vs = [.ref self, .ref q] ∧ TreeAt K CP CT H self lp lb lg lm t ∧
  ItAt K CB CP H (.ref q) (.plc s g b) ∧ t.n + wS s ≤ 1000 ∧ ∀ p H' us, H p = none → H' p = some (.lst us) → ItAll K CB CP H' us (metI s g b t) → TreeAt K CP CT H' self lp lb lg lm (metT s g b t) → Mod [lp, lb, lg, lm] H H' → Q (.ref p) H'
section
variable {P : Program} {w : World} {K : PySem.W.Frag} {mg : Str → Option Value} {base : Heap} {CB CP CT : Addr}
theorem scEnter : FnScope ["self", "block", "ground", "statement"] ["self", "block"] (defScope sEnter) := ⟨rfl, rfl, rfl, by decide +kernel, rfl, by decide +kernel, by decide +kernel⟩
theorem ok_enter (T : Top K mg CB CP CT) : C8.Met P w K mg base 3 CT "enter" (spEnter K CB CP CT) [] := by
  have M_Place : C8.Mak P w K mg base 1 "Place" CP (spInit CP 3 FP) [] := mk_place T
  obtain ⟨f, fd, F, me⟩ := T.h_enter
  refine ⟨f, fd, ["self", "block"], [], T.clT, me, ?_, F.binds (fun _ _ _ _ _ _ us hl => match us, hl with | [_, _], _ => rfl), .nil⟩
  refine F.ok scEnter (fun vs H Q E h => ?_) (fun cdv A outer s H vs Q E hr h => ?_)
  · obtain ⟨self, lp, lb, lg, lm, t, q, kind, k, a, body, b, rfl, _⟩ := h
    rfl
  · obtain ⟨self, lp, lb, lg, lm, t, q, kind, kD, aD, body, b, rfl, hT, ⟨q', dx, kV, aV, pb, eq, hq, sk, sa, hb, gb⟩, hN, k⟩ := h
    cases eq
    obtain ⟨dT, hself⟩ := hT.ob
    obtain ⟨gv, hg, dg, ng⟩ := hT.gr
    have lgv := dps_len dg
    refine ⟨_, (pss_cons (ps_set (i := 2) scEnter.nd rfl (Or.inr rfl) (pe_callB call_len_seq (by rfl) T.n_len (by decide +kernel) (pa_cons (pe_fld (pv 0) rfl) pa_nil)))
  (pss_cons (ps_expr (pe_bm PySem.F.plainAttrs_list PySem.F.slot_list_append PySem.F.type_list_append mt_append (pe_fld (pv 0) rfl) (pa_cons (pe_tup (pa_cons (pe_fld (pv 1) rfl) (pa_cons (pe_fld (pv 1) rfl) (pa_cons (pe_fld (pv 1) rfl) pa_nil)))) pa_nil)))
  (pss_one (ps_ret (pe_lc (own := [("statement", 3)]) rfl scEnter.nd (pi_tup (pe_fld (pv 1) rfl)) (blkOk_by (own := [("statement", 3)]) (N := ["self", "block", "ground", "statement"]) (sc := defScope sEnter) (by decide +kernel)) (fun _ _ _ _ _ => (pg_name (i := 3) scEnter.nd rfl (Or.inl rfl))) (fun _ _ _ _ _ => pts_nil) (fun _ _ _ _ _ => (C8.pe_mk M_Place hr (by omega) rfl (pa_cons (pv 3) (pa_cons (pv 2) (pa_cons (Fb.pe_fldK K rfl (pv 1) rfl) pa_nil)))))))))), ?_⟩
    refine ⟨_, rfl, self, CT, dT, _, _, rfl, hself, T.clT, T.nT_ground_rows, tF_grounds, lg, _, rfl, .inl (SqL.of hg), ?_⟩
    refine ⟨_, rfl, self, CT, dT, _, _, rfl, hself, T.clT, T.nT_ground_rows, tF_grounds, .inl ⟨rfl, _, SqL.of hg⟩, _, rfl, q, CB, dx, _, _, rfl, hq, T.clB, T.nB_kind, bF_kind, _, rfl, q, CB, dx, _, _, rfl, hq, T.clB, T.nB_k, bF_k, _, rfl, q, CB, dx, _, _, rfl, hq, T.clB, T.nB_around, bF_around, fit (show 3 ≤ 1000 by decide), fun tt nt => ⟨lg, _, _, rfl, rfl, same_new nt _ _ hg, small1000 (by unfold TS.n at hN; omega), ?_⟩⟩
    have m1 : Mod [lg] H (L2.upd (L2.upd H tt (.tup [.str kind, kV, aV])) lg (.lst (gv ++ [.ref tt]))) := mod_push nt
    have e1 : Ext H (L2.upd (L2.upd H tt (.tup [.str kind, kV, aV])) lg (.lst (gv ++ [.ref tt]))) := m1.ext fun b hb => by rw [List.mem_singleton.mp hb]; exact no_lst hg
    have T1 : TreeAt K CP CT (L2.upd (L2.upd H tt (.tup [.str kind, kV, aV])) lg (.lst (gv ++ [.ref tt]))) self lp lb lg lm { t with gr := t.gr ++ [rowG kind kD aD] } :=
      hT.upd_gr m1 (rows_push hg dg ng nt (noL_rowG sk sa) (.tup (SqT.of (push_at hg nt)) (.cons (.str _) (.cons sk.dp (.cons sa.dp .nil)))))
    have hq1 := e1 _ _ hq True.intro
    have hb1 := dp_ext e1 _ _ hb (noL_blk gb)
    obtain ⟨pb', bv, epb, qb, db⟩ := view_tup hb1
    cases epb
    have lbv := dps_len db
    refine ⟨_, rfl, q, CB, dx, _, _, rfl, hq1, T.clB, T.nB_inside, bF_inside, pb, rfl, ⟨_, qb⟩, fun D nD => lc_it (walk_tup (K := K) (xs := bv)) (fun i H2 => Mod [lg] H H2 ∧ Same (L2.upd (L2.upd H tt (.tup [.str kind, kV, aV])) lg (.lst (gv ++ [.ref tt]))) H2 ∧ ∃ us, H2 D = some (.lst us) ∧ ItAll K CB CP H2 us ((plcs b t.gr.length body).take i)) ⟨m1.trans (Mod.of (same_new nD)), same_new nD, [], upd_same, .nil⟩ (fun i H2 _ z => sq_same z.2.1 qb) ?_ ?_⟩
    · rintro i y H2 H3 hi ⟨z1, z2, us, hD, iu⟩ ⟨rfl, hy⟩
      obtain ⟨d, hd, dy⟩ := dps_at (dps_ext (Same.ext z2) _ _ db (noL_dB b gb)) hy
      obtain ⟨s1, rfl, hs1, gs1⟩ := plc_at t.gr.length body hd gb
      have lu := iu.len
      rw [List.length_take] at lu
      have lp1 := dB_len b t.gr.length body
      have lw := len_wIs (plcs b t.gr.length body)
      rw [w_plcs] at lw
      obtain ⟨ya, yx, rfl, _, _⟩ := view_any dy
      refine ⟨rfl, _, rfl, _, rfl, _, rfl, q, CB, dx, _, _, rfl, z2 _ _ hq1, T.clB, T.nB_body, bF_body, fun x dx2 nx ndx ne => ⟨x, dx2, [.ref ya, .int (gv.length : Int), .int (body : Int)], rfl, rfl, upd_same, rfl, ?_⟩⟩
      have s4 : Same H3 (L2.upd (L2.upd (L2.upd H3 dx2 (.own x)) x (.ins CP dx2 [])) x (.ins CP dx2 (pF (.ref ya) (.int (gv.length : Int)) (.int (body : Int))))) := same_make (C := CP) nx ndx
      have hx : (L2.upd (L2.upd (L2.upd H3 dx2 (.own x)) x (.ins CP dx2 [])) x (.ins CP dx2 (pF (.ref ya) (.int (gv.length : Int)) (.int (body : Int))))) x = some (.ins CP dx2 (pF (.ref ya) (.int (gv.length : Int)) (.int (body : Int)))) := upd_same
      refine ⟨us, s4 _ _ hD, small1000 (by omega), ?_, ?_, us ++ [.ref x], upd_same, ?_⟩
      · exact z1.trans (Mod.of s4) |>.put (.inr (show H D = none from (by
          cases e : H D with
          | none => rfl
          | some o =>
            by_cases eD : D = lg
            · rw [eD, upd_same] at nD
              cases nD
            · have := m1 D o e (by simpa using eD)
              rw [nD] at this
              cases this)))
      · intro c o e
        rw [upd_ne (ne_of_none e nD)]
        exact s4 _ _ (z2 c o e)
      · rw [take_snoc hs1]
        have ex := (Same.ext s4).trans (ext_put (o := .lst (us ++ [.ref x])) (s4 _ _ hD))
        refine ItAll.snoc (v := .ref x) (i := .plc s1 t.gr.length body) ⟨x, dx2, ya, rfl, ?_, dp_ext ex _ _ dy (noL_dS s1 gs1), gs1⟩ (iu.ext ex)
        rw [upd_ne (ne_of_none hD nx).symm, ← lgv]
        exact hx
    · rintro H2 ⟨z1, z2, us, hD, iu⟩
      rw [lbv, ← dB_len b t.gr.length body, List.take_length] at iu
      refine k D H2 us ?_ hD iu (T1.same z2) z1
      cases e : H D with
      | none => rfl
      | some o =>
        by_cases eD : D = lg
        · rw [eD, upd_same] at nD
          cases nD
        · have := m1 D o e (by simpa using eD)
          rw [nD] at this
          cases this
end
end K06
set_option Elab.async false
set_option linter.all false
set_option maxRecDepth 100000
set_option maxHeartbeats 4000000
namespace K06
open PySem PySem.Spec PyProof.Rows L2 Fb
section
variable {K : PySem.W.Frag} {CB CP CT : Addr} {H H' : Hp} {sf lp lb lg lm : Addr} {t : Fb.TS}
theorem TreeAt.ext4 (h : TreeAt K CP CT H sf lp lb lg lm t) (m : Mod [lp, lb, lg, lm] H H') : Ext H H' := by
  obtain ⟨v1, h1, _⟩ := h.pl
  obtain ⟨v2, h2, _⟩ := h.bd
  obtain ⟨v3, h3, _⟩ := h.gr
  obtain ⟨v4, h4, _⟩ := h.mm
  refine m.ext fun b hb => ?_
  simp only [List.mem_cons, List.not_mem_nil, or_false] at hb
  rcases hb with e | e | e | e <;> subst e
  · exact no_lst h1
  · exact no_lst h2
  · exact no_lst h3
  · exact no_lst h4
theorem w1 {l1 l2 l3 l4 : Addr} (m : Mod [l1] H H') : Mod [l1, l2, l3, l4] H H' := m.wide fun b hb => by rw [List.mem_singleton.mp hb]; simp
theorem w2 {l1 l2 l3 l4 : Addr} (m : Mod [l2] H H') : Mod [l1, l2, l3, l4] H H' := m.wide fun b hb => by rw [List.mem_singleton.mp hb]; simp
theorem w3 {l1 l2 l3 l4 : Addr} (m : Mod [l3] H H') : Mod [l1, l2, l3, l4] H H' := m.wide fun b hb => by rw [List.mem_singleton.mp hb]; simp
theorem w4 {l1 l2 l3 l4 : Addr} (m : Mod [l4] H H') : Mod [l1, l2, l3, l4] H H' := m.wide fun b hb => by rw [List.mem_singleton.mp hb]; simp
theorem mod1 {l : Addr} {o : HO} : Mod [l] H (L2.upd H l o) := Mod.put (Mod.refl _ _) (.inl List.mem_cons_self)
/-- a place that the tree's lists do not take, free behind, was free ahead -/
theorem free4 (h : TreeAt K CP CT H sf lp lb lg lm t) {t' : Fb.TS} (h' : TreeAt K CP CT H' sf lp lb lg lm t') (m : Mod [lp, lb, lg, lm] H H') {p : Addr} (np : H' p = none) : H p = none := by
  obtain ⟨v1, h1, _⟩ := h'.pl
  obtain ⟨v2, h2, _⟩ := h'.bd
  obtain ⟨v3, h3, _⟩ := h'.gr
  obtain ⟨v4, h4, _⟩ := h'.mm
  cases e : H p with
  | none => rfl
  | some o =>
    have z := m p o e (by
      simp only [List.mem_cons, List.not_mem_nil, or_false, not_or]
      exact ⟨(ne_of_none h1 np).symm, (ne_of_none h2 np).symm, (ne_of_none h3 np).symm, (ne_of_none h4 np).symm⟩)
    rw [np] at z
    cases z
theorem isFn_word {s : Stm} (h : isFn s = false) : ¬ wordS s = "fn" := by
  cases s with
  | mk w x r h0 => exact (mkW_ne h0).1
  | no w r h0 => exact (noW_ne h0).1
  | fn x ps b => cases h
  | ite c b1 b2 => exact (by decide +kernel : ¬ ("if" : Str) = "fn")
  | whl c b => exact (by decide +kernel : ¬ ("while" : Str) = "fn")
  | tms one x c b => exact (by decide +kernel : ¬ ("times" : Str) = "fn")
theorem bd_none {s : Stm} (h : isFn s = false) (k : Nat) : bdD s k = [] := by
  cases s with
  | fn x ps b => cases h
  | _ => rfl
end
section
variable {P : Program} {w : World} {K : PySem.W.Frag} {mg : Str → Option Value} {base : Heap} {CB CP CT : Addr}
theorem scMeet : FnScope ["self", "place", "statement", "around", "body", "k", "following", "kind", "inside"] ["self", "place"] (defScope sMeet) := ⟨rfl, rfl, rfl, by decide +kernel, rfl, by decide +kernel, by decide +kernel⟩
theorem ok_meet (T : Top K mg CB CP CT) : C8.Met P w K mg base 3 CT "meet" (spMeet K CB CP CT) [] := by
  have M_Block : C8.Mak P w K mg base 1 "Block" CB (spInit CB 5 FB) [] := mk_block T
  have C_made_by : C8.Cal P w K mg base 1 "made_by" (spMade K) [] := ok_made T
  have C_blocks_of : C8.Cal P w K mg base 1 "blocks_of" (spBlocks K) [] := ok_blocks T
  obtain ⟨f, fd, F, me⟩ := T.h_meet
  refine ⟨f, fd, ["self", "place"], [], T.clT, me, ?_, F.binds (fun _ _ _ _ _ _ us hl => match us, hl with | [_, _], _ => rfl), .nil⟩
  refine F.ok scMeet (fun vs H Q E h => ?_) (fun cdv A outer s H vs Q E hr h => ?_)
  · obtain ⟨self, lp, lb, lg, lm, t, q, s, g, b, rfl, _⟩ := h
    rfl
  · obtain ⟨sf, lp, lb, lg, lm, t, q, s, g, b, rfl, hT, ⟨q', dx, sp, eq, hq, hd, gs⟩, hN, k⟩ := h
    cases eq
    have hN2 : t.pl.length + t.bd.length + t.gr.length + t.mm.length + wS s ≤ 1000 := hN
    have wp := wS_pos s
    refine ⟨_, (C8.pss_cut (ps_asg (pe_tup (pa_cons (pe_fld (pv 1) rfl) (pa_cons (pe_fld (pv 1) rfl) (pa_cons (pe_fld (pv 1) rfl) pa_nil)))) (pg_tup rfl (pgs_cons (pg_name (i := 2) scMeet.nd rfl (Or.inl rfl)) (pgs_cons (pg_name (i := 3) scMeet.nd rfl (Or.inr rfl)) (pgs_cons (pg_name (i := 4) scMeet.nd rfl (Or.inr rfl)) pgs_nil)))))
  (C8.pss_cut (ps_set (i := 5) scMeet.nd rfl (Or.inr rfl) (pe_callB call_len_seq (by rfl) T.n_len (by decide +kernel) (pa_cons (pe_fld (pv 0) rfl) pa_nil)))
  (C8.pss_cut (ps_expr (pe_bm PySem.F.plainAttrs_list PySem.F.slot_list_append PySem.F.type_list_append mt_append (pe_fld (pv 0) rfl) (pa_cons (pv 1) pa_nil)))
  (C8.pss_cut (ps_set (i := 6) scMeet.nd rfl (Or.inl rfl) (pe_callB call_len_seq (by rfl) T.n_len (by decide +kernel) (pa_cons (pe_fld (pv 0) rfl) pa_nil)))
  (C8.pss_cut (ps_expr (pe_bm PySem.F.plainAttrs_list PySem.F.slot_list_extend PySem.F.type_list_extend mt_extend (pe_fld (pv 0) rfl) (pa_cons (C8.pe_c C_made_by hr (by omega) rfl (pa_cons (pv 2) (pa_cons (pv 5) (pa_cons (pv 3) (pa_cons (pv 6) pa_nil))))) pa_nil)))
  (C8.pss_cut (ps_if (pt_cmpR op_eq (pe_ix ix_tup (pv 2) pe_int (fun _ _ => rfl)) pe_str (nomark _))
    (pss_cons (ps_set (i := 4) scMeet.nd rfl (Or.inr rfl) (pe_callB call_len_seq (by rfl) T.n_len (by decide +kernel) (pa_cons (pe_fld (pv 0) rfl) pa_nil)))
  (pss_one (ps_expr (pe_bm PySem.F.plainAttrs_list PySem.F.slot_list_append PySem.F.type_list_append mt_append (pe_fld (pv 0) rfl) (pa_cons (pe_tup (pa_cons (pv 5) (pa_cons (pe_ix ix_tup (pv 2) pe_int (fun _ _ => rfl)) pa_nil))) pa_nil)))))
    pss_nil)
  (C8.pss_cut (ps_if (PW.pt (pw_and (pt_cmpR op_eq (pe_ix ix_tup (pv 2) pe_int (fun _ _ => rfl)) pe_str (nomark _)) (pw_and1 (pt_cmpR op_eq (pe_ix ix_tup (pv 2) pe_int (fun _ _ => rfl)) pe_str (nomark _)))))
    (pss_cons (ps_expr (pe_bm PySem.F.plainAttrs_list PySem.F.slot_list_append PySem.F.type_list_append mt_append (pe_fld (pv 0) rfl) (pa_cons (pe_tup (pa_cons pe_str (pa_cons (pv 5) (pa_cons (pv 3) pa_nil)))) pa_nil)))
  (pss_one (ps_set (i := 3) scMeet.nd rfl (Or.inr rfl) (pv 6))))
    pss_nil)
  (pss_one (ps_ret (pe_lc (own := [("kind", 7), ("inside", 8)]) rfl scMeet.nd (pi_list (C8.pe_c C_blocks_of hr (by omega) rfl (pa_cons (pv 2) pa_nil))) (blkOk_by (own := [("kind", 7), ("inside", 8)]) (N := ["self", "place", "statement", "around", "body", "k", "following", "kind", "inside"]) (sc := defScope sMeet) (by decide +kernel)) (fun _ _ _ _ _ => (Fb.pg_tupK K rfl (n := 2) rfl (pgs_cons (pg_name (i := 7) scMeet.nd rfl (Or.inl rfl)) (pgs_cons (pg_name (i := 8) scMeet.nd rfl (Or.inl rfl)) pgs_nil)))) (fun _ _ _ _ _ => pts_nil) (fun _ _ _ _ _ => (C8.pe_mk M_Block hr (by omega) rfl (pa_cons (pv 7) (pa_cons (pv 5) (pa_cons (pv 3) (pa_cons (pv 4) (pa_cons (pv 8) pa_nil))))))))))))))))), ?_⟩
    -- statement, around, body
    refine ⟨fun σ H1 => σ = [some (.ref sf), some (.ref q), some (.ref sp), some (.int (g : Int)), some (.int (b : Int)), none, none, none, none] ∧ Same H H1, ?_, ?_⟩
    · refine ⟨_, rfl, q, CP, dx, _, _, rfl, hq, T.clP, T.nP_statement, pF_statement, _, rfl, q, CP, dx, _, _, rfl, hq, T.clP, T.nP_ground, pF_ground, _, rfl, q, CP, dx, _, _, rfl, hq, T.clP, T.nP_body, pF_body, fit (show 3 ≤ 1000 by decide), fun t0 nt0 => ?_⟩
      exact ⟨t0, _, rfl, SqT.of upd_same, rfl, _, _, rfl, _, _, rfl, _, _, rfl, rfl, rfl, same_new nt0⟩
    rintro σ H1 ⟨rfl, s1⟩
    have T1 := hT.same s1
    obtain ⟨dT, hself⟩ := T1.ob
    obtain ⟨pv1, hp1, pa1⟩ := T1.pl
    have lpv := pa1.len
    -- k
    refine ⟨fun σ H2 => σ = [some (.ref sf), some (.ref q), some (.ref sp), some (.int (g : Int)), some (.int (b : Int)), some (.int (t.pl.length : Int)), none, none, none] ∧ H2 = H1, ?_, ?_⟩
    · refine ⟨_, rfl, sf, CT, dT, _, _, rfl, hself, T.clT, T.nT_places, tF_places, lp, _, rfl, .inl (SqL.of hp1), ?_, rfl⟩
      rw [lpv]
      rfl
    rintro σ H2 ⟨rfl, rfl⟩
    -- self.places.append(place)
    refine ⟨fun σ H2 => σ = [some (.ref sf), some (.ref q), some (.ref sp), some (.int (g : Int)), some (.int (b : Int)), some (.int (t.pl.length : Int)), none, none, none] ∧ Mod [lp, lb, lg, lm] H H2 ∧ TreeAt K CP CT H2 sf lp lb lg lm { t with pl := t.pl ++ [(dS s, g, b)] }, ?_, ?_⟩
    · refine ⟨_, rfl, sf, CT, dT, _, _, rfl, hself, T.clT, T.nT_places, tF_places, .inl ⟨rfl, _, SqL.of hp1⟩, _, rfl, lp, _, _, rfl, rfl, hp1, small1000 (by omega), rfl, (Mod.of s1).trans (w1 mod1), T1.upd_pl mod1 ⟨_, upd_same, ?_⟩⟩
      have ex := ext_put (o := .lst (pv1 ++ [.ref q])) hp1
      exact PlAll.snoc ⟨q, dx, sp, rfl, ex _ _ (s1 _ _ hq) True.intro, dp_ext ((Same.ext s1).trans ex) _ _ hd (noL_dS s gs), noL_dS s gs⟩ (pa1.ext ex)
    rintro σ H3 ⟨rfl, m3, T3⟩
    obtain ⟨dT3, hself3⟩ := T3.ob
    obtain ⟨gv3, hg3, dg3, ng3⟩ := T3.gr
    have lgv := dps_len dg3
    -- following
    refine ⟨fun σ H4 => σ = [some (.ref sf), some (.ref q), some (.ref sp), some (.int (g : Int)), some (.int (b : Int)), some (.int (t.pl.length : Int)), some (.int (t.gr.length : Int)), none, none] ∧ H4 = H3, ?_, ?_⟩
    · refine ⟨_, rfl, sf, CT, dT3, _, _, rfl, hself3, T.clT, T.nT_ground_rows, tF_grounds, lg, _, rfl, .inl (SqL.of hg3), ?_, rfl⟩
      rw [lgv]
      rfl
    rintro σ H4 ⟨rfl, rfl⟩
    -- self.making_rows.extend(..)
    refine ⟨fun σ H5 => σ = [some (.ref sf), some (.ref q), some (.ref sp), some (.int (g : Int)), some (.int (b : Int)), some (.int (t.pl.length : Int)), some (.int (t.gr.length : Int)), none, none] ∧ Mod [lp, lb, lg, lm] H H5 ∧ TreeAt K CP CT H5 sf lp lb lg lm { t with pl := t.pl ++ [(dS s, g, b)], mm := t.mm ++ madeD s t.pl.length g t.gr.length }, ?_, ?_⟩
    · obtain ⟨mv3, hm3, dm3, nm3⟩ := T3.mm
      have lmv := dps_len dm3
      refine ⟨_, rfl, sf, CT, dT3, _, _, rfl, hself3, T.clT, T.nT_making_rows, tF_makings, .inl ⟨rfl, _, SqL.of hm3⟩, _, rfl, _, rfl, _, rfl, _, rfl, .ref sp, s, t.pl.length, g, t.gr.length, rfl, dp_ext (hT.ext4 m3) _ _ hd (noL_dS s gs), gs, fun p H5 us np hp du s5 => ?_⟩
      have lus := dps_len du
      have lmade := madeD_len s t.pl.length g t.gr.length
      refine ⟨lm, p, mv3, us, rfl, rfl, s5 _ _ hm3, hp, fit (by have z : t.mm.length = mv3.length := lmv.symm; omega), rfl, m3.trans ((Mod.of s5).trans (w4 mod1)), ?_⟩
      have ex := ext_put (o := .lst (mv3 ++ us)) (s5 _ _ hm3)
      refine (T3.same s5).upd_mm mod1 ⟨_, upd_same, dps_app (dps_ext ex _ _ du (noLs_made _ _ _ _)) (dps_ext ((Same.ext s5).trans ex) _ _ dm3 nm3), noLs_app nm3 (noLs_made _ _ _ _)⟩
    rintro σ H5 ⟨rfl, m5, T5⟩
    obtain ⟨dT5, hself5⟩ := T5.ob
    have hd5 := dp_ext (hT.ext4 m5) _ _ hd (noL_dS s gs)
    -- a body
    refine ⟨fun σ H6 => σ = [some (.ref sf), some (.ref q), some (.ref sp), some (.int (g : Int)), some (.int ((bodN s b t.bd.length : Nat) : Int)), some (.int (t.pl.length : Int)), some (.int (t.gr.length : Int)), none, none] ∧ Mod [lp, lb, lg, lm] H H6 ∧ TreeAt K CP CT H6 sf lp lb lg lm { t with pl := t.pl ++ [(dS s, g, b)], mm := t.mm ++ madeD s t.pl.length g t.gr.length, bd := t.bd ++ bdD s t.pl.length }, ?_, ?_⟩
    · cases hf : isFn s with
      | false =>
        obtain ⟨a, xs, ea, qa, wa⟩ := view_any hd5
        cases ea
        refine ⟨_, rfl, sp, _, _, _, rfl, rfl, qa, atI_nat (j := 0) wa, rfl, _, rfl, strF (isFn_word hf) ?_⟩
        refine ⟨?_, m5, ?_⟩
        · rw [bodN, hf]
          rfl
        · rw [bd_none hf, List.append_nil]
          exact T5
      | true =>
        cases s with
        | fn x ps blk =>
          obtain ⟨a, pa, ba, ea, qa, qp, hb⟩ := view_fn hd5
          cases ea
          obtain ⟨bv5, hb5, db5, nb5⟩ := T5.bd
          have lbv := dps_len db5
          refine ⟨_, rfl, sp, _, _, _, rfl, rfl, qa, atI_nat (j := 0) rfl, rfl, _, rfl, strT rfl ?_⟩
          refine ⟨_, rfl, sf, CT, dT5, _, _, rfl, hself5, T.clT, T.nT_body_rows, tF_bodies, lb, _, rfl, .inl (SqL.of hb5), ?_⟩
          refine ⟨_, rfl, sf, CT, dT5, _, _, rfl, hself5, T.clT, T.nT_body_rows, tF_bodies, .inl ⟨rfl, _, SqL.of hb5⟩, _, rfl, _, rfl, sp, _, _, _, rfl, rfl, qa, atI_nat (j := 2) rfl, fit (show 2 ≤ 1000 by decide), fun tt nt => ⟨lb, _, _, rfl, rfl, same_new nt _ _ hb5, small1000 (by have z : t.bd.length = bv5.length := lbv.symm; omega), ?_, m5.trans (w2 (mod_push nt)), ?_⟩⟩
          · rw [lbv]
            rfl
          · refine T5.upd_bd (mod_push nt) (rows_push hb5 db5 nb5 nt ?_ (.tup (SqT.of (push_at hb5 nt)) (.cons (.int _) (.cons (.tup (sqT_ext ((ext_new nt).trans (ext_put (same_new nt _ _ hb5))) qp) (dps_strs ps)) .nil))))
            show noL (.tuple [nD t.pl.length, .tuple (ps.map .str)]) = true
            simp only [noL, noLs, noLs_strs, Bool.and_true]
        | mk w x r h0 => cases hf
        | no w r h0 => cases hf
        | ite c b1 b2 => cases hf
        | whl c b => cases hf
        | tms one x c b => cases hf
    rintro σ H6 ⟨rfl, m6, T6⟩
    obtain ⟨dT6, hself6⟩ := T6.ob
    have hd6 := dp_ext (hT.ext4 m6) _ _ hd (noL_dS s gs)
    -- a head
    refine ⟨fun σ H7 => σ = [some (.ref sf), some (.ref q), some (.ref sp), some (.int ((arnd s g t.gr.length : Nat) : Int)), some (.int ((bodN s b t.bd.length : Nat) : Int)), some (.int (t.pl.length : Int)), some (.int (t.gr.length : Int)), none, none] ∧ Mod [lp, lb, lg, lm] H H7 ∧ TreeAt K CP CT H7 sf lp lb lg lm (metT s g b t), ?_, ?_⟩
    · have eT : ∀ H7, TreeAt K CP CT H7 sf lp lb lg lm { t with pl := t.pl ++ [(dS s, g, b)], mm := t.mm ++ madeD s t.pl.length g t.gr.length, bd := t.bd ++ bdD s t.pl.length, gr := t.gr ++ grD s t.pl.length g } → TreeAt K CP CT H7 sf lp lb lg lm (metT s g b t) := fun H7 z => by
        rw [← metT_pl s g b t, ← metT_mm s g b t, ← metT_bd s g b t, ← metT_gr s g b t] at z
        exact z
      have no_ : wordS s ≠ "times" → arnd s g t.gr.length = g ∧ grD s t.pl.length g = [] := fun z => by
        cases s with
        | tms one x c b => exact absurd rfl z
        | _ => exact ⟨rfl, rfl⟩
      by_cases hw : wordS s = "times"
      · cases s with
        | tms one x c blk =>
          obtain ⟨a, u, pb, ea, qa, hb⟩ := view_tms hd6
          cases ea
          refine ⟨_, rfl, sp, _, _, _, rfl, rfl, qa, atI_nat (j := 0) rfl, rfl, _, rfl, strT rfl ?_⟩
          cases one with
          | false =>
            refine ⟨_, rfl, sp, _, _, _, rfl, rfl, qa, atI_nat (j := 1) rfl, rfl, _, rfl, strF (by decide +kernel) ?_⟩
            refine ⟨rfl, m6, eT H6 ?_⟩
            rw [show grD (.tms false x c blk) t.pl.length g = [] from rfl, List.append_nil]
            exact T6
          | true =>
            refine ⟨_, rfl, sp, _, _, _, rfl, rfl, qa, atI_nat (j := 1) rfl, rfl, _, rfl, strT rfl ?_⟩
            obtain ⟨gv6, hg6, dg6, ng6⟩ := T6.gr
            have lgv6 := dps_len dg6
            refine ⟨_, rfl, sf, CT, dT6, _, _, rfl, hself6, T.clT, T.nT_ground_rows, tF_grounds, .inl ⟨rfl, _, SqL.of hg6⟩, _, rfl, _, rfl, fit (show 3 ≤ 1000 by decide), fun tt nt => ⟨lg, _, _, rfl, rfl, same_new nt _ _ hg6, small1000 (by have z : t.gr.length = gv6.length := lgv6.symm; omega), ?_⟩⟩
            refine ⟨_, rfl, rfl, m6.trans (w3 (mod_push nt)), eT _ (T6.upd_gr (mod_push nt) (rows_push hg6 dg6 ng6 nt rfl (.tup (SqT.of (push_at hg6 nt)) (.cons (.str _) (.cons (.int _) (.cons (.int _) .nil))))))⟩
        | mk w x r h0 => exact absurd hw (mkW_ne h0).2.2.2
        | no w r h0 => exact absurd hw (noW_ne h0).2.2.2
        | fn x ps b => exact absurd hw (by decide +kernel : ¬ ("fn" : Str) = "times")
        | ite c b1 b2 => exact absurd hw (by decide +kernel : ¬ ("if" : Str) = "times")
        | whl c b => exact absurd hw (by decide +kernel : ¬ ("while" : Str) = "times")
      · obtain ⟨a, xs, ea, qa, wa⟩ := view_any hd6
        cases ea
        obtain ⟨e1, e2⟩ := no_ hw
        refine ⟨_, rfl, sp, _, _, _, rfl, rfl, qa, atI_nat (j := 0) wa, rfl, _, rfl, strF hw (iteF ⟨?_, m6, eT H6 ?_⟩)⟩
        · rw [e1]
        · rw [e2, List.append_nil]
          exact T6
    rintro σ H7 ⟨rfl, m7, T7⟩
    have hd7 := dp_ext (hT.ext4 m7) _ _ hd (noL_dS s gs)
    have gB := goodB_blks gs
    -- the blocks
    refine ⟨_, rfl, .ref sp, s, rfl, hd7, gs, fun p0 H8 us np0 hp0 du s8 => ⟨p0, rfl, ⟨_, SqL.of hp0⟩, fun D nQ => lc_it (walk_list (K := K) (xs := us)) (fun i H9 => Same H8 H9 ∧ ∃ vs, H9 D = some (.lst vs) ∧ ItAll K CB CP H9 vs ((metI s g b t).take i)) ⟨same_new nQ, [], upd_same, .nil⟩ (fun i H9 _ z => SqL.of (z.1 _ _ hp0)) ?_ ?_⟩⟩
    · rintro i y H9 H10 hi ⟨z1, vs, hD, iu⟩ ⟨rfl, hy⟩
      have nk : noLs ((blks s).map kbD) = true := noLs_all fun d hd => by
        obtain ⟨q1, hq1, rfl⟩ := List.mem_map.mp hd
        have z := noL_blk (gB q1 hq1)
        simp only [kbD, noL, noLs, Bool.and_true] at z ⊢
        exact z
      obtain ⟨d, hd, dy⟩ := dps_at (dps_ext (Same.ext z1) _ _ du nk) hy
      rw [List.getElem?_map] at hd
      cases e0 : (blks s)[i]? with
      | none => rw [e0] at hd; cases hd
      | some kb =>
        rw [e0] at hd
        cases hd
        obtain ⟨kind, blk⟩ := kb
        have hmi : (metI s g b t)[i]? = some (.blk kind (nD t.pl.length) (nD (arnd s g t.gr.length)) (bodN s b t.bd.length) blk) := by
          rw [metI_eq, List.getElem?_map, e0]
          rfl
        obtain ⟨ta, tv, rfl, qt, dt⟩ := view_tup dy
        cases dt with
        | cons d1 dt =>
          cases d1
          cases dt with
          | cons d2 dt =>
            cases dt
            obtain ⟨pb, pbs, rfl, qpb, dpb⟩ := view_tup d2
            have lvs := iu.len
            rw [List.length_take] at lvs
            have lw := len_wIs (metI s g b t)
            have lw2 := w_met s g b t
            have lw3 : wIs (metI s g b t) ≤ 1000 := by omega
            refine ⟨ta, _, rfl, qt, rfl, _, _, rfl, _, _, rfl, rfl, rfl, _, rfl, _, rfl, _, rfl, _, rfl, _, rfl, fun x dx2 nx ndx ne => ⟨x, dx2, [.str kind, .int (t.pl.length : Int), .int ((arnd s g t.gr.length : Nat) : Int), .int ((bodN s b t.bd.length : Nat) : Int), .ref pb], rfl, rfl, upd_same, rfl, ?_⟩⟩
            have s4 : Same H10 (L2.upd (L2.upd (L2.upd H10 dx2 (.own x)) x (.ins CB dx2 [])) x (.ins CB dx2 (bF (.str kind) (.int (t.pl.length : Int)) (.int ((arnd s g t.gr.length : Nat) : Int)) (.int ((bodN s b t.bd.length : Nat) : Int)) (.ref pb)))) := same_make (C := CB) nx ndx
            have hx : (L2.upd (L2.upd (L2.upd H10 dx2 (.own x)) x (.ins CB dx2 [])) x (.ins CB dx2 (bF (.str kind) (.int (t.pl.length : Int)) (.int ((arnd s g t.gr.length : Nat) : Int)) (.int ((bodN s b t.bd.length : Nat) : Int)) (.ref pb)))) x = some (.ins CB dx2 (bF (.str kind) (.int (t.pl.length : Int)) (.int ((arnd s g t.gr.length : Nat) : Int)) (.int ((bodN s b t.bd.length : Nat) : Int)) (.ref pb))) := upd_same
            refine ⟨vs, s4 _ _ hD, small1000 (by omega), ?_, vs ++ [.ref x], upd_same, ?_⟩
            · intro c o e
              rw [upd_ne (ne_of_none e nQ)]
              exact s4 _ _ (z1 c o e)
            · rw [take_snoc hmi]
              have ex := (Same.ext s4).trans (ext_put (o := .lst (vs ++ [.ref x])) (s4 _ _ hD))
              refine ItAll.snoc (v := .ref x) (i := .blk kind (nD t.pl.length) (nD (arnd s g t.gr.length)) (bodN s b t.bd.length) blk) ⟨x, dx2, _, _, pb, rfl, ?_, .inr ⟨_, rfl, rfl⟩, .inr ⟨_, rfl, rfl⟩, dp_ext ex _ _ d2 (noL_blk (gB (kind, blk) (List.mem_of_getElem? e0))), gB (kind, blk) (List.mem_of_getElem? e0)⟩ (iu.ext ex)
              rw [upd_ne (ne_of_none hD nx).symm]
              exact hx
    · rintro H9 ⟨z1, vs, hD, iu⟩
      have lus : us.length = (metI s g b t).length := by
        rw [dps_len du, metI_eq, List.length_map, List.length_map]
      rw [lus, List.take_length] at iu
      have m9 : Mod [lp, lb, lg, lm] H H9 := m7.trans (Mod.of (s8.trans z1))
      have T9 := T7.same (s8.trans z1)
      refine k D H9 vs ?_ hD iu T9 m9
      exact free4 hT (T7.same s8) (m7.trans (Mod.of s8)) nQ
end
end K06
set_option Elab.async false
set_option linter.all false
set_option maxRecDepth 100000
set_option maxHeartbeats 4000000
namespace K06
open PySem PySem.Spec PyProof.Rows L2 Fb
def t00 : Fb.TS := ⟨[], [rowB .none []], [], []⟩
def item0 (b : Blk) : Itm := .blk "body" .none .none 0 b
def final (b : Blk) : Fb.TS := layB b 0 0 ⟨[], [rowB .none []], [rowG "body" .none .none], []⟩
theorem run0 (b : Blk) : runIs [item0 b] t00 = final b := rfl
section
variable {K : PySem.W.Frag} {CB CP CT : Addr} {H H' : Hp} {sf lp lb lg lm : Addr} {t : Fb.TS}
theorem TreeAt.other (h : TreeAt K CP CT H sf lp lb lg lm t) {x : Addr} {us : List V} (m : Mod [x] H H') (hx : H x = some (.lst us)) (ne : x ∉ [lp, lb, lg, lm]) : TreeAt K CP CT H' sf lp lb lg lm t := by
  simp only [List.mem_cons, List.not_mem_nil, or_false, not_or] at ne
  obtain ⟨n1, n2, n3, n4⟩ := ne
  have e : Ext H H' := m.ext fun b hb => by rw [List.mem_singleton.mp hb]; exact no_lst hx
  obtain ⟨⟨dx, h1⟩, ⟨vs, h2, h2'⟩, h3, h4, h5, h6⟩ := h
  have k : ∀ {l : Addr}, x ≠ l → ∀ o, H l = some o → H' l = some o := fun hl o q => m _ o q (by simpa using hl.symm)
  exact ⟨⟨dx, e _ _ h1 True.intro⟩, ⟨vs, k n1 _ h2, h2'.ext e⟩, h3.mod e (k n2), h4.mod e (k n3), h5.mod e (k n4), h6⟩
end
theorem freeM {H H1 : Hp} {p x : Addr} {o : HO} (m : Mod [p] H H1) (hp : H1 p = some o) (nx : H1 x = none) : H x = none := by
  cases e : H x with
  | none => rfl
  | some u =>
    have z := m x u e (by simpa using (ne_of_none hp nx).symm)
    rw [nx] at z
    cases z
def spTInit (K : PySem.W.Frag) (CP CT : Addr) : Sp := fun vs H Q _ => ∃ (p dx pr : Addr) (b : Blk), vs = [.ref p, .ref pr] ∧ H p = some (.ins CT dx []) ∧ Dp K H (.ref pr) (.tuple (dB b)) ∧ goodB b ∧ wB b ≤ 900 ∧
  ∀ H' lp lb lg lm, TreeAt K CP CT H' p lp lb lg lm (final b) → Mod [p] H H' → (∀ x ∈ [lp, lb, lg, lm], H x = none) → Q .non H'
section
variable {P : Program} {w : World} {K : PySem.W.Frag} {mg : Str → Option Value} {base : Heap} {CB CP CT : Addr}
theorem scTInit : FnScope ["self", "program", "pile", "part", "inner"] ["self", "program"] (defScope sTInit) := ⟨rfl, rfl, rfl, by decide +kernel, rfl, by decide +kernel, by decide +kernel⟩
theorem mk_tree (T : Top K mg CB CP CT) : C8.Mak P w K mg base 4 "Tree" CT (spTInit K CP CT) [] := by
  have M_Block : C8.Mak P w K mg base 1 "Block" CB (spInit CB 5 FB) [] := mk_block T
  have C_enter : C8.Met P w K mg base 3 CT "enter" (spEnter K CB CP CT) [] := ok_enter T
  have C_meet : C8.Met P w K mg base 3 CT "meet" (spMeet K CB CP CT) [] := ok_meet T
  obtain ⟨f, fd, F, M⟩ := T.h_TInit
  refine ⟨f, fd, ["self", "program"], [], M, ?_, T.m_Tree, F.binds (fun _ _ _ _ _ _ us hl => match us, hl with | [_, _], _ => rfl), .nil⟩
  refine F.ok scTInit (fun vs H Q E h => ?_) (fun cdv A outer s H vs Q E hr h => ?_)
  · obtain ⟨p, dx, pr, b, rfl, _⟩ := h
    rfl
  · obtain ⟨p, dx, pr, b, rfl, hp, hd, gb, hw, k⟩ := h
    have n1 : ¬ ("places" : Str) = "body_rows" := by decide +kernel
    have n2 : ¬ ("places" : Str) = "ground_rows" := by decide +kernel
    have n3 : ¬ ("body_rows" : Str) = "ground_rows" := by decide +kernel
    have n4 : ¬ ("places" : Str) = "making_rows" := by decide +kernel
    have n5 : ¬ ("body_rows" : Str) = "making_rows" := by decide +kernel
    have n6 : ¬ ("ground_rows" : Str) = "making_rows" := by decide +kernel
    refine ⟨_, (C8.pss_cut (ps_fld (pv 0) (pe_lst pa_nil) rfl)
  (C8.pss_cut (ps_fld (pv 0) (pe_lst (pa_cons (pe_tup (pa_cons pe_non (pa_cons (pe_tup pa_nil) pa_nil))) pa_nil)) rfl)
  (C8.pss_cut (ps_fld (pv 0) (pe_lst pa_nil) rfl)
  (C8.pss_cut (ps_fld (pv 0) (pe_lst pa_nil) rfl)
  (C8.pss_cut (ps_set (i := 2) scTInit.nd rfl (Or.inl rfl) (pe_lst (pa_cons (C8.pe_mk M_Block hr (by omega) rfl (pa_cons pe_str (pa_cons pe_non (pa_cons pe_non (pa_cons pe_int (pa_cons (pv 1) pa_nil)))))) pa_nil)))
  (pss_one (ps_while PassesOwn.never (pt_truth (pv 2) (by intro _; rfl)) (C8.pss_cut (ps_set (i := 3) scTInit.nd rfl (Or.inl rfl) (pe_bm0 PySem.F.plainAttrs_list PySem.F.slot_list_pop PySem.F.type_list_pop mt_pop (pv 2)))
  (C8.pss_cut (ps_set (i := 4) scTInit.nd rfl (Or.inl rfl) (pe_ifExp (pt_val (pe_callB call_isi (by rfl) T.n_isinstance (by decide +kernel) (pa_cons (pv 3) (pa_cons (C8.pe_gc rfl T.c_Block) pa_nil)))) (C8.pe_mt C_enter hr (by omega) (pv 0) (pa_cons (pv 3) pa_nil)) (C8.pe_mt C_meet hr (by omega) (pv 0) (pa_cons (pv 3) pa_nil))))
  (pss_one (ps_expr (pe_bm PySem.F.plainAttrs_list PySem.F.slot_list_extend PySem.F.type_list_extend mt_extend (pv 2) (pa_cons (pe_revL (pv 4)) pa_nil))))))))))))), ?_⟩
    refine ⟨fun σ H1 => σ = [some (.ref p), some (.ref pr), none, none, none] ∧ Mod [p] H H1 ∧ ∃ lp, H1 p = some (.ins CT dx [("places", .ref lp)]) ∧ H1 lp = some (.lst []) ∧ H lp = none, ?_, ?_⟩
    · refine ⟨fit (by decide), fun l nl => ⟨_, rfl, p, CT, dx, _, rfl, same_new nl _ _ hp, T.clT, T.nT_places, by decide, rfl, ?_, l, upd_same, ?_, nl⟩⟩
      · exact Mod.put (Mod.put (Mod.refl _ _) (.inr nl)) (.inl List.mem_cons_self)
      · rw [upd_ne (ne_of_none hp nl).symm, upd_same]
    rintro σ H1 ⟨rfl, m1, lp, hp1, hlp1, flp⟩
    refine ⟨fun σ H2 => σ = [some (.ref p), some (.ref pr), none, none, none] ∧ Mod [p] H H2 ∧ ∃ lb, H2 p = some (.ins CT dx [("places", .ref lp), ("body_rows", .ref lb)]) ∧ H2 lp = some (.lst []) ∧ lp ≠ lb ∧ H lb = none ∧ ∃ t0 t1, H2 lb = some (.lst [.ref t1]) ∧ H2 t1 = some (.tup [.non, .ref t0]) ∧ H2 t0 = some (.tup []), ?_, ?_⟩
    · refine ⟨Nat.zero_le _, fun t0 nt0 => ⟨fit (show 2 ≤ 1000 by decide), fun t1 nt1 => ⟨fit (show 1 ≤ 1000 by decide), fun lb nlb => ?_⟩⟩⟩
      have s3 := (same_new (o := .tup []) nt0).trans ((same_new (o := .tup [.non, .ref t0]) nt1).trans (same_new (o := .lst [.ref t1]) nlb))
      have hp3 := s3 _ _ hp1
      have npl : p ≠ lb := ne_of_none (((same_new (o := .tup []) nt0).trans (same_new (o := .tup [.non, .ref t0]) nt1)) _ _ hp1) nlb
      have nlpl : lp ≠ lb := ne_of_none (((same_new (o := .tup []) nt0).trans (same_new (o := .tup [.non, .ref t0]) nt1)) _ _ hlp1) nlb
      have nt1p : t1 ≠ p := (ne_of_none ((same_new (o := .tup []) nt0) _ _ hp1) nt1).symm
      have nt0p : t0 ≠ p := (ne_of_none hp1 nt0).symm
      have nlpp : lp ≠ p := fun z => by rw [z, hp1] at hlp1; cases hlp1
      refine ⟨_, rfl, p, CT, dx, _, rfl, hp3, T.clT, T.nT_body_rows, (by show 1 < 1000; decide), rfl, m1.trans (Mod.put (Mod.of s3) (.inl List.mem_cons_self)), lb, ?_, ?_, nlpl, freeM m1 hp1 (((same_new (o := .tup []) nt0).trans (same_new (o := .tup [.non, .ref t0]) nt1)).free nlb), t0, t1, ?_, ?_, ?_⟩
      · rw [upd_same]
        simp only [putF, n1, if_false]
      · rw [upd_ne nlpp]
        exact s3 _ _ hlp1
      · rw [upd_ne npl.symm, upd_same]
      · rw [upd_ne nt1p]
        exact same_new nlb _ _ upd_same
      · rw [upd_ne nt0p]
        exact ((same_new nt1).trans (same_new nlb)) _ _ upd_same
    rintro σ H2 ⟨rfl, m2, lb, hp2, hlp2, nplb, flb, t0, t1, hb2, ht1, ht0⟩
    have oth : ∀ {H0 : Hp} {l : Addr} {o : HO}, H0 l = none → ∀ {c : Addr} {x : HO}, c ≠ p → H0 c = some x → (L2.upd (L2.upd H0 l (.lst [])) p o) c = some x := fun {H0 l o} nl {c x} hc e => by
      rw [upd_ne hc]
      exact same_new nl _ _ e
    have nlpp : lp ≠ p := fun z => by rw [z, hp2] at hlp2; cases hlp2
    have nlbp : lb ≠ p := fun z => by rw [z, hp2] at hb2; cases hb2
    have nt1p : t1 ≠ p := fun z => by rw [z, hp2] at ht1; cases ht1
    have nt0p : t0 ≠ p := fun z => by rw [z, hp2] at ht0; cases ht0
    refine ⟨fun σ H3 => σ = [some (.ref p), some (.ref pr), none, none, none] ∧ Mod [p] H H3 ∧ ∃ lg, H3 p = some (.ins CT dx [("places", .ref lp), ("body_rows", .ref lb), ("ground_rows", .ref lg)]) ∧ H3 lp = some (.lst []) ∧ H3 lb = some (.lst [.ref t1]) ∧ H3 t1 = some (.tup [.non, .ref t0]) ∧ H3 t0 = some (.tup []) ∧ H3 lg = some (.lst []) ∧ lp ≠ lg ∧ lb ≠ lg ∧ H lg = none, ?_, ?_⟩
    · refine ⟨fit (by decide), fun l nl => ?_⟩
      have npl : l ≠ p := (ne_of_none hp2 nl).symm
      refine ⟨_, rfl, p, CT, dx, _, rfl, same_new nl _ _ hp2, T.clT, T.nT_ground_rows, (by show 2 < 1000; decide), rfl, m2.trans (Mod.put (Mod.of (same_new nl)) (.inl List.mem_cons_self)), l, ?_, oth nl nlpp hlp2, oth nl nlbp hb2, oth nl nt1p ht1, oth nl nt0p ht0, ?_, ne_of_none hlp2 nl, ne_of_none hb2 nl, freeM m2 hp2 nl⟩
      · rw [upd_same]
        simp only [putF, n2, n3, if_false]
      · rw [upd_ne npl, upd_same]
    rintro σ H3 ⟨rfl, m3, lg, hp3, hlp3, hb3, ht13, ht03, hg3, nplg, nblg, flg⟩
    have nlgp : lg ≠ p := fun z => by rw [z, hp3] at hg3; cases hg3
    refine ⟨fun σ H4 => σ = [some (.ref p), some (.ref pr), none, none, none] ∧ Mod [p] H H4 ∧ ∃ lm, H lm = none ∧ TreeAt K CP CT H4 p lp lb lg lm t00, ?_, ?_⟩
    · refine ⟨fit (by decide), fun l nl => ?_⟩
      have npl : l ≠ p := (ne_of_none hp3 nl).symm
      refine ⟨_, rfl, p, CT, dx, _, rfl, same_new nl _ _ hp3, T.clT, T.nT_making_rows, (by show 3 < 1000; decide), rfl, m3.trans (Mod.put (Mod.of (same_new nl)) (.inl List.mem_cons_self)), l, freeM m3 hp3 nl, ⟨dx, ?_⟩, ⟨[], oth nl nlpp hlp3, .nil⟩, ⟨[.ref t1], oth nl nlbp hb3, .cons (.tup (SqT.of (oth nl nt1p ht13)) (.cons .non (.cons (.tup (SqT.of (oth nl nt0p ht03)) .nil) .nil))) .nil, rfl⟩, ⟨[], oth nl nlgp hg3, .nil, rfl⟩, ⟨[], ?_, .nil, rfl⟩, ?_⟩
      · rw [upd_same]
        simp only [putF, n4, n5, n6, if_false]
        rfl
      · rw [upd_ne npl, upd_same]
      · have a1 := ne_of_none hlp3 nl
        have a2 := ne_of_none hb3 nl
        have a3 := ne_of_none hg3 nl
        simp only [List.nodup_cons, List.mem_cons, List.not_mem_nil, or_false, not_or, List.nodup_nil, and_true, not_false_eq_true]
        exact ⟨⟨nplb, nplg, a1⟩, ⟨nblg, a2⟩, a3⟩
    rintro σ H4 ⟨rfl, m4, lm, flm, T4⟩
    obtain ⟨pr', prv, epr, qpr, dpr⟩ := view_tup hd
    cases epr
    have dp4 : Dp K H4 (.ref pr) (.tuple (dB b)) := dp_extT (m4.extT fun c hc => by rw [List.mem_singleton.mp hc]; exact noT_ins hp) _ _ hd (noL_blk gb)
    -- the pile
    refine ⟨fun σ H5 => Mod [p] H H5 ∧ TreeAt K CP CT H5 p lp lb lg lm t00 ∧ ∃ pile us, σ = [some (.ref p), some (.ref pr), some (.ref pile), none, none] ∧ H5 pile = some (.lst us) ∧ ItAll K CB CP H5 us.reverse [item0 b] ∧ pile ∉ [lp, lb, lg, lm] ∧ H pile = none, ?_, ?_⟩
    · refine ⟨_, rfl, fun x dx2 nx ndx ne => ⟨x, dx2, [.str "body", .non, .non, .int 0, .ref pr], rfl, rfl, upd_same, rfl, ?_⟩⟩
      have s4 : Same H4 (L2.upd (L2.upd (L2.upd H4 dx2 (.own x)) x (.ins CB dx2 [])) x (.ins CB dx2 (bF (.str "body") .non .non (.int 0) (.ref pr)))) := same_make (C := CB) nx ndx
      have hx : (L2.upd (L2.upd (L2.upd H4 dx2 (.own x)) x (.ins CB dx2 [])) x (.ins CB dx2 (bF (.str "body") .non .non (.int 0) (.ref pr)))) x = some (.ins CB dx2 (bF (.str "body") .non .non (.int 0) (.ref pr))) := upd_same
      refine ⟨fit (show 1 ≤ 1000 by decide), fun pile np => ?_⟩
      have s5 := s4.trans (same_new (o := .lst [.ref x]) np)
      refine ⟨m4.trans (Mod.of s5), T4.same s5, pile, [.ref x], rfl, upd_same, .cons ?_ .nil, ?_, ?_⟩
      · exact ⟨x, dx2, .non, .non, pr, rfl, same_new np _ _ hx, .inl ⟨rfl, rfl⟩, .inl ⟨rfl, rfl⟩, dp_ext (Same.ext s5) _ _ dp4 (noL_blk gb), gb⟩
      · have T5 := T4.same s4
        obtain ⟨_, h1, _⟩ := T5.pl
        obtain ⟨_, h2, _⟩ := T5.bd
        obtain ⟨_, h3, _⟩ := T5.gr
        obtain ⟨_, h4, _⟩ := T5.mm
        simp only [List.mem_cons, List.not_mem_nil, or_false, not_or]
        exact ⟨(ne_of_none h1 np).symm, (ne_of_none h2 np).symm, (ne_of_none h3 np).symm, (ne_of_none h4 np).symm⟩
      · cases e : H pile with
        | none => rfl
        | some o =>
          have z := (m4.trans (Mod.of s4)) pile o e (by
            obtain ⟨dq, hq⟩ := (T4.same s4).ob
            simpa using (ne_of_none hq np).symm)
          exact absurd (z.symm.trans np) (by intro q; cases q)
    rintro σ H5 ⟨m5, T5, pile, us5, rfl, hpile5, it5, npile, npileH⟩
    have w0 : t00.n + wIs [item0 b] ≤ 902 := by
      show 1 + (1 + wB b + 0) ≤ 902
      omega
    -- while pile
    refine ⟨fun m σ H6 => Mod [p] H H6 ∧ ∃ (t : Fb.TS) (items : List Itm) (us : List V) (y3 y4 : Option V), σ = [some (.ref p), some (.ref pr), some (.ref pile), y3, y4] ∧ TreeAt K CP CT H6 p lp lb lg lm t ∧ H6 pile = some (.lst us) ∧ ItAll K CB CP H6 us.reverse items ∧ runIs items t = final b ∧ t.n + wIs items ≤ 902 ∧ m = zIs items, ⟨_, m5, t00, [item0 b], us5, none, none, rfl, T5, hpile5, it5, run0 b, w0, rfl⟩, ?_⟩
    rintro m σ H6 ⟨m6, t, items, us, y3, y4, rfl, T6, hpile, it6, hrun, hw6, rfl⟩
    obtain ⟨d6, hself6⟩ := T6.ob
    refine ⟨_, rfl, _, .inl ⟨us, SqL.of hpile, rfl⟩, ?_⟩
    cases hrev : us.reverse with
    | nil =>
      have eu : us = [] := List.reverse_eq_nil_iff.mp hrev
      subst eu
      refine iteF ?_
      rw [hrev] at it6
      cases it6
      have T7 : TreeAt K CP CT H6 p lp lb lg lm (final b) := by
        rw [← hrun]
        exact T6
      refine k H6 lp lb lg lm T7 m6 fun x hx => ?_
      simp only [List.mem_cons, List.not_mem_nil, or_false] at hx
      rcases hx with e | e | e | e <;> subst e
      · exact flp
      · exact flb
      · exact flg
      · exact flm
    | cons v vs =>
      have eu : us = vs.reverse ++ [v] := by
        have z := congrArg List.reverse hrev
        rw [List.reverse_reverse, List.reverse_cons] at z
        exact z
      subst eu
      rw [hrev] at it6
      cases it6 with
      | @cons _ _ it its hit hits =>
      refine boolT (by simp) ?_
      refine ⟨fun σ' H' => Mod [p] H H' ∧ ∃ (t : Fb.TS) (items : List Itm) (us : List V) (y3 y4 : Option V), σ' = [some (.ref p), some (.ref pr), some (.ref pile), y3, y4] ∧ TreeAt K CP CT H' p lp lb lg lm t ∧ H' pile = some (.lst us) ∧ ItAll K CB CP H' us.reverse items ∧ runIs items t = final b ∧ t.n + wIs items ≤ 902 ∧ zIs items < zIs (it :: its), fun σ' H' ⟨a1, t, items, us, y3, y4, a2, a3, a4, a5, a6, a7, a8⟩ => ⟨_, a8, a1, t, items, us, y3, y4, a2, a3, a4, a5, a6, a7, rfl⟩, ?_⟩
      -- part = pile.pop()
      have pm : Mod [p] H6 (L2.upd H6 pile (.lst vs.reverse)) → True := fun _ => True.intro
      refine ⟨fun σ' H7 => σ' = [some (.ref p), some (.ref pr), some (.ref pile), some v, y4] ∧ Mod [p] H H7 ∧ TreeAt K CP CT H7 p lp lb lg lm t ∧ H7 pile = some (.lst vs.reverse) ∧ ItAt K CB CP H7 v it ∧ ItAll K CB CP H7 vs its, ?_, ?_⟩
      · refine ⟨_, rfl, .inl ⟨rfl, _, SqL.of hpile⟩, pile, _, v, rfl, rfl, hpile, by simp, ?_⟩
        rw [List.dropLast_concat]
        have ex := ext_put (o := .lst vs.reverse) hpile
        refine ⟨rfl, m6.put (.inr npileH), T6.other mod1 hpile npile, upd_same, hit.ext ex, hits.ext ex⟩
      rintro σ' H7 ⟨rfl, m7, T7, hpile7, hit7, hits7⟩
      obtain ⟨d7, hself7⟩ := T7.ob
      rw [wIs_cons] at hw6
      have npile2 := npile
      simp only [List.mem_cons, List.not_mem_nil, or_false, not_or] at npile2
      -- inner
      refine ⟨fun σ' H8 => Mod [p] H H8 ∧ ∃ (t' : Fb.TS) (ins : List Itm) (pin : Addr) (ws : List V), σ' = [some (.ref p), some (.ref pr), some (.ref pile), some v, some (.ref pin)] ∧ TreeAt K CP CT H8 p lp lb lg lm t' ∧ H8 pile = some (.lst vs.reverse) ∧ ItAll K CB CP H8 vs its ∧ H8 pin = some (.lst ws) ∧ ItAll K CB CP H8 ws ins ∧ runIs ins t' = runI it t ∧ t'.n + wIs ins ≤ t.n + wI it ∧ zIs ins < zI it, ?_, ?_⟩
      · have mh : ∀ {H8 : Hp}, Mod [lp, lb, lg, lm] H7 H8 → Mod [p] H H8 := fun {H8} m8 c o e hc => m8 c o (m7 c o e hc) (by
          simp only [List.mem_cons, List.not_mem_nil, or_false, not_or]
          exact ⟨ne_of_none e flp, ne_of_none e flb, ne_of_none e flg, ne_of_none e flm⟩)
        cases it with
        | blk kind kD aD body blk =>
          have hit8 := hit7
          obtain ⟨q, dq, kV, aV, pb, rfl, hq, sk, sa, hb, gbk⟩ := hit7
          refine ⟨_, rfl, .ref q, .ref CB, _, _, true, rfl, .own CB, .base (.ins hq T.iB.cl T.iB.ha T.iB.hn T.iB.htk T.iB.hm), T.iB.me, _, rfl, iteT ?_⟩
          refine ⟨_, rfl, p, d7, _, rfl, hself7, tF_no (by decide +kernel) (by decide +kernel) (by decide +kernel) (by decide +kernel), _, rfl, p, lp, lb, lg, lm, t, q, kind, kD, aD, body, blk, rfl, T7, hit8, ?_, fun pin H8 ws npin hpin iw T8 m8 => ?_⟩
          · have : wI (.blk kind kD aD body blk) = 1 + wB blk := rfl
            omega
          have m84 : Mod [lp, lb, lg, lm] H7 H8 := w3 m8
          refine ⟨mh m84, _, _, pin, ws, rfl, T8, m8 _ _ hpile7 (by simpa using npile2.2.2.1), hits7.ext (T7.ext4 m84), hpin, iw, run_plcs _ _ _ _, ?_, ?_⟩
          · rw [w_plcs]
            show _ ≤ t.n + (1 + wB blk)
            simp only [TS.n, List.length_append, List.length_cons, List.length_nil]
            omega
          · rw [z_plcs]
            show zB blk < 1 + zB blk
            omega
        | plc s0 g0 b0 =>
          have hit8 := hit7
          obtain ⟨q, dq, sp0, rfl, hq, hd0, gs0⟩ := hit7
          refine ⟨_, rfl, .ref q, .ref CB, _, _, false, rfl, .own CB, .base (.ins hq T.iP.cl T.iP.ha T.iP.hn T.iP.htk T.iP.hm), T.pB, _, rfl, iteF ?_⟩
          refine ⟨_, rfl, p, d7, _, rfl, hself7, tF_no (by decide +kernel) (by decide +kernel) (by decide +kernel) (by decide +kernel), _, rfl, p, lp, lb, lg, lm, t, q, s0, g0, b0, rfl, T7, hit8, ?_, fun pin H8 ws npin hpin iw T8 m8 => ?_⟩
          · have : wI (.plc s0 g0 b0) = wS s0 := rfl
            omega
          refine ⟨mh m8, _, _, pin, ws, rfl, T8, m8 _ _ hpile7 npile, hits7.ext (T7.ext4 m8), hpin, iw, run_met _ _ _ _, w_met _ _ _ _, ?_⟩
          have := z_met s0 g0 b0 t
          show zIs (metI s0 g0 b0 t) < zS s0
          omega
      rintro σ' H8 ⟨m8, t', ins, pin, ws, rfl, T8, hpile8, hits8, hpin8, iw8, hr8, hw8, hz8⟩
      have lvs := hits8.len
      have lws := iw8.len
      have l1 := len_wIs its
      have l2 := len_wIs ins
      -- pile.extend(inner[::-1])
      refine ⟨_, rfl, .inl ⟨rfl, _, SqL.of hpile8⟩, _, rfl, pin, ws, rfl, SqL.of hpin8, fun rv nrv => ⟨pile, rv, _, _, rfl, rfl, same_new nrv _ _ hpile8, upd_same, fit (by rw [List.length_reverse, List.length_reverse]; omega), ?_⟩⟩
      have s9 := same_new (o := .lst ws.reverse) nrv
      have ex := (Same.ext s9).trans (ext_put (o := .lst (vs.reverse ++ ws.reverse)) (s9 _ _ hpile8))
      refine ⟨(m8.trans (Mod.of s9)).put (.inr npileH), t', ins ++ its, vs.reverse ++ ws.reverse, _, _, rfl, (T8.same s9).other mod1 (s9 _ _ hpile8) npile, upd_same, ?_, ?_, ?_, ?_⟩
      · rw [List.reverse_append, List.reverse_reverse, List.reverse_reverse]
        exact ItAll.app (hits8.ext ex) (iw8.ext ex)
      · rw [runIs_append, hr8]
        exact hrun
      · rw [wIs_append]
        omega
      · rw [zIs_append, zIs_cons]
        omega
end
end K06
set_option Elab.async false
set_option linter.all false
set_option maxRecDepth 100000
set_option maxHeartbeats 4000000
namespace K06
open PySem PySem.Spec PyProof.Rows L2 Fb
section
variable {P : Program} {w : World} {K : PySem.W.Frag} {mg : Str → Option Value} {base : Heap} {CB CP CT : Addr}
theorem scDraw : FnScope ["_law_deal_here", "_law_many", "_law_number", "_law_one", "_law_other"] ["_law_deal_here", "_law_many"] (defScope s_l_draw) := ⟨rfl, rfl, rfl, by decide +kernel, rfl, by decide +kernel, by decide +kernel⟩
theorem ok_draw (T : Top K mg CB CP CT) : C8.Cal P w K mg base 1 "_law_draw" spDraw [] := by
  obtain ⟨f, fd, F, gm⟩ := T.h_l_draw
  refine ⟨f, fd, ["_law_deal_here", "_law_many"], [], ?_, gm, F.kp, F.binds (fun _ _ _ _ _ _ us hl => match us, hl with | [_, _], _ => rfl), .nil⟩
  refine F.ok scDraw (fun vs H Q E h => ?_) (fun cdv A outer s H vs Q E hr h => ?_)
  · obtain ⟨d, l, many, rfl, _⟩ := h
    rfl
  · obtain ⟨d, l, many, rfl, ⟨s0, n0, ns0, hD⟩, m0, m1, k⟩ := h
    have hu := hu_of hr
    have hdl := hD.ne
    refine ⟨_, (C8.pss_cut (ps_while PassesOwn.never (PW.pt (pw_and (pt_cmpR op_eq (pe_dget hu (pv 0) pe_str (fun _ _ => rfl)) pe_int (nomark _)) (pw_and1 (pt_cmpR op_gt (pe_callB call_len_seq (by rfl) T.n_len (by decide +kernel) (pa_cons (pe_dget hu (pv 0) pe_str (fun _ _ => rfl)) pa_nil)) pe_int (nomark _))))) (pss_one (ps_dput hu (pv 0) pe_str (pe_bm0 PySem.F.plainAttrs_list PySem.F.slot_list_pop PySem.F.type_list_pop mt_pop (pe_dget hu (pv 0) pe_str (fun _ _ => rfl))) rfl)))
  (pss_cons (ps_set (i := 2) scDraw.nd rfl (Or.inl rfl) (pe_dget hu (pv 0) pe_str (fun _ _ => rfl)))
  (pss_cons (ps_if (pt_cmpR op_gt (pv 2) pe_int (nomark _))
    (pss_cons (ps_dput hu (pv 0) pe_str (pe_op op_fdivW (pv 2) (pv 1)) rfl)
  (pss_one (ps_ret (pe_op op_mod (pv 2) (pv 1)))))
    pss_nil)
  (pss_cons (ps_set (i := 3) scDraw.nd rfl (Or.inl rfl) (pe_op op_mod (pe_op op_add (pe_op op_mul (pe_dget hu (pv 0) pe_str (fun _ _ => rfl)) pe_int) pe_int) pe_int))
  (pss_cons (ps_dput hu (pv 0) pe_str (pe_op op_mod (pe_op op_add (pe_op op_mul (pv 3) pe_int) pe_int) pe_int) rfl)
  (pss_cons (ps_set (i := 4) scDraw.nd rfl (Or.inl rfl) (pe_op op_mod (pe_op op_mul (pe_dget hu (pv 0) pe_str (fun _ _ => rfl)) (pe_dget hu (pv 0) pe_str (fun _ _ => rfl))) pe_int))
  (pss_one (ps_ret (pe_op op_mod (pe_op op_add (pe_op op_mul (pe_op op_mod (pe_op op_mul (pv 3) (pv 3)) pe_int) pe_int) (pv 4)) (pv 1)))))))))), ?_⟩
    refine ⟨fun σ H1 => σ = [some (.ref d), some (.int many), none, none, none] ∧ Keep d l H H1 ∧ DealAt H1 d l, ?_, ?_⟩
    · refine ⟨fun m σ H1 => σ = [some (.ref d), some (.int many), none, none, none] ∧ Keep d l H H1 ∧ ∃ s n ns, m = ns.length ∧ DealX H1 d l s n ns, ⟨_, rfl, Keep.refl _ _ _, s0, n0, ns0, rfl, hD⟩, ?_⟩
      rintro m σ H1 ⟨rfl, hk, s1, n1, ns, rfl, h1⟩
      refine ⟨.ref d, rfl, d, .int n1, rfl, g_number h1.1, rfl, _, rfl, ?_⟩
      refine ite2 (fun e => ?_) (fun e => ?_)
      · refine ⟨.ref d, rfl, d, .ref l, rfl, g_left h1.1, l, ns.map V.int, rfl, .inl (SqL.of h1.2.1), _, _, rfl, rfl, _, rfl, ?_⟩
        refine ite2 (fun e2 => ?_) (fun e2 => ?_)
        · have hpos : 0 < ns.length := by
            have z := of_decide_eq_true e2
            rw [List.length_map] at z
            omega
          have hlast : (ns.map V.int)[(ns.map V.int).length - 1]? = some (.int (ns.getLast (by intro z; rw [z] at hpos; exact Nat.lt_irrefl _ hpos))) := by
            rw [List.length_map, List.getElem?_map, ← List.getLast?_eq_getElem?, List.getLast?_eq_some_getLast]
            rfl
          refine ⟨fun σ2 H2 => σ2 = [some (.ref d), some (.int many), none, none, none] ∧ Keep d l H H2 ∧ ∃ s n ns', ns'.length < ns.length ∧ DealX H2 d l s n ns', fun σ2 H2 ⟨a1, a2, a3, a4, a5, a6, a7⟩ => ⟨_, a6, a1, a2, a3, a4, a5, rfl, a7⟩, ?_⟩
          refine ⟨.ref d, rfl, d, .ref l, rfl, g_left h1.1, .inl ⟨rfl, _, SqL.of h1.2.1⟩, l, _, _, rfl, rfl, h1.2.1, hlast, .ref d, rfl, d, _, rfl, u_number (by rw [upd_ne hdl]; exact h1.1), ?_⟩
          refine ⟨rfl, hk.at_l.at_d, s1, _, ns.dropLast, by rw [List.length_dropLast]; omega, upd_same, ?_, h1.2.2.1, h1.2.2.2.1, ?_, fun x hx => h1.2.2.2.2.2 x (List.dropLast_subset _ hx)⟩
          · rw [upd_ne hdl.symm, upd_same, List.map_dropLast]
          · exact Int.le_of_lt (h1.2.2.2.2.2 _ (List.getLast_mem _))
        · exact ⟨rfl, hk, _, _, _, h1⟩
      · exact iteF ⟨rfl, hk, _, _, _, h1⟩
    · rintro σ H1 ⟨rfl, hk, s1, n1, ns, h1⟩
      refine ⟨.ref d, rfl, d, .int n1, rfl, g_number h1.1, _, rfl, _, _, rfl, rfl, _, rfl, ?_⟩
      refine ite2 (fun e => ?_) (fun e => ?_)
      · have hn : 0 < n1 := of_decide_eq_true e
        refine ⟨_, rfl, _, rfl, _, _, rfl, rfl, divW m0 m1, .ref d, rfl, d, _, rfl, u_number h1.1, _, rfl, _, rfl, _, _, rfl, rfl, m0, ?_⟩
        refine k _ _ (mod_lo m0) (mod_hi m0) ⟨s1, n1 / many, ns, upd_same, by rw [upd_ne hdl.symm]; exact h1.2.1, h1.2.2.1, h1.2.2.2.1, Int.ediv_nonneg (by omega) (by omega), h1.2.2.2.2.2⟩ hk.at_d
      · have q1 : (0 : Int) < 2147483647 := by decide
        have q2 : (0 : Int) < 2147483399 := by decide
        have q3 : (0 : Int) < 2147483563 := by decide
        have q4 : (0 : Int) < 2147483629 := by decide
        have b1 := mod_lo (a := s1 * 48271 + 7919) q1
        have b2 := mod_hi (a := s1 * 48271 + 7919) q1
        refine ⟨.ref d, rfl, d, .int s1, rfl, g_seed h1.1, _, _, rfl, rfl, mulS h1.2.2.1 (by have := h1.2.2.2.1; omega), _, _, rfl, rfl, _, _, rfl, rfl, q1, ?_⟩
        have c1 := mod_lo (a := (s1 * 48271 + 7919) % 2147483647 * 40692 + 104729) q2
        have c2 := mod_hi (a := (s1 * 48271 + 7919) % 2147483647 * 40692 + 104729) q2
        refine ⟨_, rfl, _, _, rfl, rfl, mulS b1 (by omega), _, _, rfl, rfl, _, _, rfl, rfl, q2, .ref d, rfl, d, _, rfl, u_seed h1.1, ?_⟩
        refine ⟨.ref d, rfl, d, .int _, rfl, g_seed upd_same, .ref d, rfl, d, .int _, rfl, g_seed upd_same, _, _, rfl, rfl, mulS c1 (by omega), _, _, rfl, rfl, q3, ?_⟩
        refine ⟨_, rfl, _, rfl, _, _, rfl, rfl, mulS b1 (by omega), _, _, rfl, rfl, q4, _, _, rfl, rfl, mulS (mod_lo q4) (Int.lt_trans (mod_hi q4) (by decide)), _, rfl, _, _, rfl, rfl, _, rfl, _, _, rfl, rfl, m0, ?_⟩
        exact k _ _ (mod_lo m0) (mod_hi m0) ⟨_, n1, ns, upd_same, by rw [upd_ne hdl.symm]; exact h1.2.1, c1, Int.lt_trans c2 (by decide), h1.2.2.2.2⟩ hk.at_d
theorem scDeal : FnScope ["_law_script", "_law_some", "_law_number", "_law_one"] ["_law_script"] (defScope s_l_deal) := ⟨rfl, rfl, rfl, by decide +kernel, rfl, by decide +kernel, by decide +kernel⟩
theorem ok_deal (T : Top K mg CB CP CT) : C8.Cal P w K mg base 1 "_law_deal" (spDeal K) [] := by
  obtain ⟨f, fd, F, gm⟩ := T.h_l_deal
  refine ⟨f, fd, ["_law_script"], [], ?_, gm, F.kp, F.binds (fun _ _ _ _ _ _ us hl => match us, hl with | [_], _ => rfl), .nil⟩
  refine F.ok scDeal (fun vs H Q E h => ?_) (fun cdv A outer s H vs Q E hr h => ?_)
  · obtain ⟨a, ns, rfl, _⟩ := h
    rfl
  · obtain ⟨a, ns, rfl, hS, hl, k⟩ := h
    have hu := hu_of hr
    refine ⟨_, (pss_cons (ps_setLc (i := 1) (own := [("_law_one", 3)]) rfl scDeal.nd rfl rfl (sw_true rfl rfl rfl (by decide +kernel)) (pi_list (pe_slice sl_list (pv 0) po_none (po_some pe_int))) (blkOk_by (own := [("_law_one", 3)]) (N := ["_law_script", "_law_some", "_law_number", "_law_one"]) (sc := defScope s_l_deal) (by decide +kernel)) (fun _ _ _ _ _ => (pg_name (i := 3) scDeal.nd rfl (Or.inl rfl))) (fun _ _ _ _ _ => pts_nil) (fun _ _ _ _ _ => (pe_callB (call_max2 rfl) (by rfl) T.n_max (by decide +kernel) (pa_cons (pv 3) (pa_cons (pe_op op_sub pe_int (pv 3)) pa_nil)))))
  (pss_cons (ps_set (i := 2) scDeal.nd rfl (Or.inl rfl) pe_int)
  (pss_cons (ps_for PassesOwn.never rfl (pi_list (pv 1)) (pg_name (i := 3) scDeal.nd rfl (Or.inl rfl))
    (pss_one (ps_set (i := 2) scDeal.nd rfl (Or.inl rfl) (pe_op op_mod (pe_op op_add (pe_op op_mul (pv 2) pe_int) (pe_op op_mod (pv 3) pe_int)) pe_int))))
  (pss_one (ps_ret (pe_disp (pps_cons pe_str (pv 2) (pps_cons pe_str pe_int (pps_cons pe_str (Fb.pe_listRev rfl rfl T.n_list rfl T.n_reversed (pe_lc (own := [("_law_one", 3)]) rfl scDeal.nd (pi_list (pv 1)) (blkOk_by (own := [("_law_one", 3)]) (N := ["_law_script", "_law_some", "_law_number", "_law_one"]) (sc := defScope s_l_deal) (by decide +kernel)) (fun _ _ _ _ _ => (pg_name (i := 3) scDeal.nd rfl (Or.inl rfl))) (fun _ _ _ _ _ => pts_one (pt_cmpR op_ge (pv 3) (pe_op op_pow pe_int pe_int) (nomark _))) (fun _ _ _ _ _ => (pv 3)))) pps_nil))) (by rfl) (by rfl) (fun z => by cases z) (by decide))))))), ?_⟩
    refine ⟨.ref a, rfl, 60, rfl, a, ns.map V.int, rfl, hS, fun c nc => ?_⟩
    obtain ⟨ms, em, lm⟩ := cut_ints ns none (some 60)
    have s1 : Same H (L2.upd H c (.lst (cutV (ns.map V.int) none (some 60)))) := same_new nc
    have hc : (L2.upd H c (.lst (cutV (ns.map V.int) none (some 60)))) c = some (.lst (ms.map V.int)) := by rw [upd_same, em]
    generalize L2.upd H c (.lst (cutV (ns.map V.int) none (some 60))) = H1 at s1 hc
    refine ⟨c, rfl, ⟨_, SqL.of hc⟩, fun D nD => lc_list (K := K) (a := c) (xs := ms.map V.int) (fun i H2 => Same H1 H2 ∧ ∃ zs : List Int, H2 D = some (.lst (zs.map V.int)) ∧ zs.length = i ∧ ∀ z ∈ zs, 0 ≤ z)
      ⟨same_new nD, [], upd_same, rfl, fun _ z => nomatch z⟩ (fun i H2 _ ⟨e, _⟩ => SqL.of (e _ _ hc)) ?_ ?_⟩
    · rintro i x H2 hx ⟨e2, zs, hz, lz, pz⟩
      obtain ⟨z, rfl, _⟩ := int_at hx
      have hi := (List.getElem?_eq_some_iff.mp hx).1
      rw [List.length_map] at hi
      refine ⟨rfl, _, rfl, _, rfl, _, _, rfl, rfl, _, _, rfl, _, hz, small1000 (by rw [List.length_map]; omega), fun b o e => ?_, zs ++ [max z (0 - z)], ?_, ?_, ?_⟩
      · rw [upd_ne (ne_of_none e nD)]
        exact e2 b o e
      · rw [upd_same, Fb.nest, snoc_ints]
      · rw [List.length_append, lz]
        rfl
      · intro y hy
        rcases List.mem_append.mp hy with q | q
        · exact pz y q
        · rw [List.mem_singleton.mp q]
          omega
    · rintro H2 ⟨e2, zs, hz, lz, pz⟩
      rw [List.length_map] at lz
      refine ⟨.ref D, rfl, D, rfl, ⟨_, SqL.of hz⟩, for_list (K := K) (a := D) (xs := zs.map V.int) (fun i σ H3 => H3 = H2 ∧ ∃ n y, σ = [some (.ref a), some (.ref D), some (.int n), y] ∧ 0 ≤ n ∧ n < 2147483647)
        ⟨rfl, 7919, none, rfl, by decide, by decide⟩ (fun i σ H3 _ ⟨e, _⟩ => by rw [e]; exact SqL.of hz) ?_ ?_⟩
      · rintro i x σ H3 hx ⟨rfl, n, y, rfl, n0, n1⟩
        obtain ⟨z, rfl, _⟩ := int_at hx
        refine ⟨_, rfl, _, _, rfl, rfl, mulS n0 (by omega), _, rfl, _, _, rfl, rfl, (by decide : (0 : Int) < 2147483629), _, _, rfl, rfl, _, _, rfl, rfl, (by decide : (0 : Int) < 2147483647), ?_⟩
        exact ⟨rfl, _, _, rfl, mod_lo (by decide), mod_hi (by decide)⟩
      · rintro σ H3 ⟨rfl, n, y, rfl, n0, n1⟩
        intro p np
        have sp1 : Same H3 (L2.upd H3 p (.dK [])) := same_new np
        have hp1 : (L2.upd H3 p (.dK [])) p = some (.dK []) := upd_same
        generalize L2.upd H3 p (.dK []) = H4 at sp1 hp1
        have hz4 := sp1 _ _ hz
        refine ⟨_, rfl, .ref D, rfl, D, rfl, ⟨_, SqL.of hz4⟩, fun D2 nD2 => lc_list (K := K) (a := D) (xs := zs.map V.int) (fun i H5 => Same H4 H5 ∧ ∃ ws : List Int, H5 D2 = some (.lst (ws.map V.int)) ∧ ws.length ≤ i ∧ ∀ z ∈ ws, 0 < z)
          ⟨same_new nD2, [], upd_same, Nat.le_refl _, fun _ z => nomatch z⟩ (fun i H5 _ ⟨e, _⟩ => SqL.of (e _ _ hz4)) ?_ ?_⟩
        · rintro i x H5 hx ⟨e5, ws, hw, lw, pw⟩
          obtain ⟨z, rfl, hzm⟩ := int_at hx
          have hi := (List.getElem?_eq_some_iff.mp hx).1
          rw [List.length_map] at hi
          refine ⟨rfl, _, rfl, _, _, rfl, rfl, ⟨by decide, by decide, by decide⟩, _, _, rfl, rfl, _, rfl, ite2 (fun g => ?_) (fun g => ?_)⟩
          · have hg := of_decide_eq_true g
            refine ⟨_, rfl, _, hw, small1000 (by rw [List.length_map]; omega), fun b o e => ?_, ws ++ [z], ?_, ?_, ?_⟩
            · rw [upd_ne (ne_of_none e nD2)]
              exact e5 b o e
            · rw [upd_same, snoc_ints]
            · rw [List.length_append]
              show ws.length + 1 ≤ i + 1
              omega
            · intro y hy
              rcases List.mem_append.mp hy with q | q
              · exact pw y q
              · rw [List.mem_singleton.mp q]
                exact Int.lt_of_lt_of_le (by decide) hg
          · exact ⟨e5, ws, hw, Nat.le_succ_of_le lw, pw⟩
        · rintro H5 ⟨e5, ws, hw, lw, pw⟩
          refine ⟨D2, _, rfl, SqL.of hw, fun q nq => ?_⟩
          have s6 : Same H5 (L2.upd H5 q (.lst (ws.map V.int).reverse)) := same_new nq
          refine ⟨s6 _ _ (e5 _ _ hp1), dealD n 0 q, rfl, by show 3 ≤ 15; decide, ?_⟩
          have nqp : q ≠ p := (ne_of_none (e5 _ _ hp1) nq).symm
          have sH : Same H H5 := s1.trans (e2.trans (sp1.trans e5))
          have np0 : H p = none := (s1.trans e2).free np
          refine k p q _ np0 (sH.free nq) ⟨n, 0, ws.reverse, by rw [upd_same, merge_deal], by rw [upd_ne nqp, upd_same, List.map_reverse], n0, by omega, by decide, fun x hx => pw x (List.mem_reverse.mp hx)⟩ fun b o e => ?_
          rw [upd_ne (ne_of_none e np0)]
          exact s6 _ _ (sH _ _ e)

end
end K06
set_option Elab.async false
set_option linter.all false
set_option maxRecDepth 100000
set_option maxHeartbeats 4000000
namespace K06
open PySem PySem.Spec PyProof.Rows L2 Fb
abbrev abc : Str := "abcdefghijklmnopqrstuvwxyz"
theorem len_abc : abc.cps.toList.length = 26 := by decide +kernel
theorem len_abc2 : abc.length = 26 := by decide +kernel
theorem lo_abc : ∀ c ∈ abc.cps.toList, c < 128 := by decide +kernel
def lo (x : Str) : Prop := ∀ c ∈ x.cps.toList, c < 128
theorem lo_app {x y : Str} (hx : lo x) (hy : lo y) : lo (x ++ y) := fun c h => by
  have z : c ∈ x.cps.toList ++ y.cps.toList := by
    rw [PySem.Str.cps_append, Array.toList_append] at h
    exact h
  rcases List.mem_append.mp z with q | q
  · exact hx c q
  · exact hy c q
theorem lo_cut {x : Str} {a b : Option Int} (h : lo x) : lo (cutS x a b) := fun c hc => by
  have z : c ∈ (x.cps.toList.drop (HT.sIx x.length 0 a)).take (HT.sIx x.length x.length b - HT.sIx x.length 0 a) := by
    unfold cutS at hc
    simpa using hc
  exact h c (List.mem_of_mem_drop (List.mem_of_mem_take z))
theorem lo_one {c : Nat} (h : c < 128) : lo ⟨#[c]⟩ := fun x hx => by
  have z : x = c := by simpa using hx
  rw [z]
  exact h
theorem lo_nil : lo Str.empty := fun c h => by
  have z : c ∈ ([] : List Nat) := h
  cases z
theorem len_app (x y : Str) : (x ++ y).length = x.length + y.length := PySem.Str.length_append x y
theorem len_one (c : Nat) : (⟨#[c]⟩ : Str).length = 1 := rfl
theorem cut_len (z : Str) (a b : Option Int) : (cutS z a b).length ≤ z.length := L2.cutS_length z a b
theorem join_len : ∀ ys : List Str, (Txt.join "" ys).length = (ys.map (·.length)).sum := by
  intro ys
  rw [TL.join_eq]
  induction ys with
  | nil => rfl
  | cons x r ih =>
    cases r with
    | nil => rfl
    | cons y q =>
      show (x ++ ("" : Str) ++ Str.join "" (y :: q)).length = x.length + ((y :: q).map (·.length)).sum
      rw [len_app, len_app, ih, show (("" : Str)).length = 0 by decide +kernel]
      omega
theorem join_lo : ∀ ys : List Str, (∀ y ∈ ys, lo y) → lo (Txt.join "" ys) := by
  intro ys h
  rw [TL.join_eq]
  induction ys with
  | nil => exact lo_nil
  | cons x r ih =>
    cases r with
    | nil => exact h x List.mem_cons_self
    | cons y q =>
      show lo (x ++ ("" : Str) ++ Str.join "" (y :: q))
      exact lo_app (lo_app (h x List.mem_cons_self) (by intro c hc; exact absurd hc (by rw [show (("" : Str)).cps.toList = [] by decide +kernel]; simp))) (ih fun z hz => h z (List.mem_cons_of_mem _ hz))
theorem ones_sum : ∀ ys : List Str, (∀ y ∈ ys, y.length = 1) → (ys.map (·.length)).sum = ys.length
  | [], _ => rfl
  | y :: r, h => by
    rw [List.map_cons, List.sum_cons, h y List.mem_cons_self, ones_sum r fun z hz => h z (List.mem_cons_of_mem _ hz), List.length_cons]
    omega
theorem atI_ok {α : Type} {xs : List α} {i : Int} (h0 : 0 ≤ i) (h1 : i < xs.length) : ∃ v, atI xs i = some v ∧ v ∈ xs := by
  have hl : i.toNat < xs.length := by omega
  refine ⟨xs[i.toNat], ?_, List.getElem_mem hl⟩
  have z := atI_nat (xs := xs) (j := i.toNat) (v := xs[i.toNat]) (List.getElem?_eq_getElem hl)
  rw [show ((i.toNat : Nat) : Int) = i by omega] at z
  exact z
theorem flat_strs (ys : List Str) : (ys.map V.str).all flatV = true := by
  rw [List.all_eq_true]
  intro v h
  obtain ⟨x, _, rfl⟩ := List.mem_map.mp h
  rfl
theorem str_at {ys : List Str} {i : Nat} {x : V} (h : (ys.map V.str)[i]? = some x) : ∃ z, x = .str z ∧ z ∈ ys := by
  rw [List.getElem?_map] at h
  cases e : ys[i]? with
  | none => rw [e] at h; cases h
  | some z => rw [e] at h; exact ⟨z, (Option.some.inj h).symm, List.mem_of_getElem? e⟩
theorem snoc_strs (ys : List Str) (y : Str) : ys.map V.str ++ [V.str y] = (ys ++ [y]).map V.str := by
  rw [List.map_append]
  rfl
abbrev tk0 : Str := "let fn call set tell if else while times own one give end"
def spWords : Sp := fun vs H Q _ => ∃ (d l : Addr) (many : Int), vs = [.ref d, .int many] ∧ DealAt H d l ∧ 0 < many ∧ many ≤ 20 ∧
  ∀ (p : Addr) (ns : List Str) (H' : Hp), H p = none → H' p = some (.lst (ns.map V.str)) → (ns.length : Int) = many → (∀ x ∈ ns, nm x) → DealAt H' d l → Keep d l H H' → Q (.ref p) H'
section
variable {P : Program} {w : World} {K : PySem.W.Frag} {mg : Str → Option Value} {base : Heap} {CB CP CT : Addr}
theorem scWords : FnScope ["_law_deal_here", "_law_many", "_law_letters", "_law_stem", "_law_at", "_law_turn", "_law_found", "_law_taken", "_law_k", "_law_name"] ["_law_deal_here", "_law_many"] (defScope s_l_words) := ⟨rfl, rfl, rfl, by decide +kernel, rfl, by decide +kernel, by decide +kernel⟩
theorem ok_words (T : Top K mg CB CP CT) : C8.Cal P w K mg base 2 "_law_words" spWords [] := by
  have C_law_draw : C8.Cal P w K mg base 1 "_law_draw" spDraw [] := ok_draw T
  obtain ⟨f, fd, F, gm⟩ := T.h_l_words
  refine ⟨f, fd, ["_law_deal_here", "_law_many"], [], ?_, gm, F.kp, F.binds (fun _ _ _ _ _ _ us hl => match us, hl with | [_, _], _ => rfl), .nil⟩
  refine F.ok scWords (fun vs H Q E h => ?_) (fun cdv A outer s H vs Q E hr h => ?_)
  · obtain ⟨d, l, many, rfl, _⟩ := h
    rfl
  · obtain ⟨d, l, many, rfl, hD, hm0, hm1, k⟩ := h
    refine ⟨_, (pss_cons (ps_set (i := 2) scWords.nd rfl (Or.inr rfl) pe_str)
  (pss_cons (ps_set (i := 3) scWords.nd rfl (Or.inr rfl) (pe_join pe_str (pe_lc (own := [("_law_k", 8)]) rfl scWords.nd (pi_range1 rfl T.n_range (pa_cons (C8.pe_c C_law_draw hr (by omega) rfl (pa_cons (pv 0) (pa_cons pe_int pa_nil))) pa_nil)) (blkOk_by (own := [("_law_k", 8)]) (N := ["_law_deal_here", "_law_many", "_law_letters", "_law_stem", "_law_at", "_law_turn", "_law_found", "_law_taken", "_law_k", "_law_name"]) (sc := defScope s_l_words) (by decide +kernel)) (fun _ _ _ _ _ => (pg_name (i := 8) scWords.nd rfl (Or.inl rfl))) (fun _ _ _ _ _ => pts_nil) (fun _ _ _ _ _ => (pe_ix ix_str (pv 2) (C8.pe_c C_law_draw hr (by omega) rfl (pa_cons (pv 0) (pa_cons pe_int pa_nil))) (fun _ _ => rfl))))))
  (pss_cons (ps_asg (pe_tup (pa_cons (C8.pe_c C_law_draw hr (by omega) rfl (pa_cons (pv 0) (pa_cons (pe_op op_add (pe_callB call_len_str (by rfl) T.n_len (by decide +kernel) (pa_cons (pv 3) pa_nil)) pe_int) pa_nil))) (pa_cons (C8.pe_c C_law_draw hr (by omega) rfl (pa_cons (pv 0) (pa_cons pe_int pa_nil))) pa_nil))) (pg_tup rfl (pgs_cons (pg_name (i := 4) scWords.nd rfl (Or.inr rfl)) (pgs_cons (pg_name (i := 5) scWords.nd rfl (Or.inr rfl)) pgs_nil))))
  (pss_cons (ps_setLc (i := 6) (own := [("_law_k", 8)]) rfl scWords.nd rfl rfl (sw_true rfl rfl rfl (by decide +kernel)) (pi_range1 rfl T.n_range (pa_cons (pv 1) pa_nil)) (blkOk_by (own := [("_law_k", 8)]) (N := ["_law_deal_here", "_law_many", "_law_letters", "_law_stem", "_law_at", "_law_turn", "_law_found", "_law_taken", "_law_k", "_law_name"]) (sc := defScope s_l_words) (by decide +kernel)) (fun _ _ _ _ _ => (pg_name (i := 8) scWords.nd rfl (Or.inl rfl))) (fun _ _ _ _ _ => pts_nil) (fun _ _ _ _ _ => (pe_op op_add_str (pe_op op_add_str (pe_slice sl_str (pv 3) po_none (po_some (pv 4))) (pe_ix ix_str (pv 2) (pe_op op_mod (pe_op op_add (pv 5) (pv 8)) pe_int) (fun _ _ => rfl))) (pe_slice sl_str (pv 3) (po_some (pv 4)) po_none))))
  (pss_cons (ps_set (i := 7) scWords.nd rfl (Or.inr rfl) (pe_split pe_str pe_str))
  (pss_one (ps_ret (pe_lc (own := [("_law_name", 9)]) rfl scWords.nd (pi_list (pv 6)) (blkOk_by (own := [("_law_name", 9)]) (N := ["_law_deal_here", "_law_many", "_law_letters", "_law_stem", "_law_at", "_law_turn", "_law_found", "_law_taken", "_law_k", "_law_name"]) (sc := defScope s_l_words) (by decide +kernel)) (fun _ _ _ _ _ => (pg_name (i := 9) scWords.nd rfl (Or.inl rfl))) (fun _ _ _ _ _ => pts_nil) (fun _ _ _ _ _ => (pe_op op_add_str (pv 9) (pe_op Fb.op_mul_s01 pe_str (pe_callTy call_int1 (by rfl) T.n_int (by decide +kernel) (pa_cons (pe_cmpR (Fb.inK K rfl) (pv 9) (pv 7) (by rfl)) pa_nil))))))))))))), ?_⟩
    refine ⟨⟨_, rfl⟩, _, rfl, d, l, _, rfl, hD, by decide, by decide, fun r H1 r0 r1 D1 K1 => ⟨r, rfl, by omega, by omega, fun p np => lc_range (lo := 0) (n := r.toNat)
      (fun i H2 => DealAt H2 d l ∧ Keep d l H H2 ∧ ∃ ys : List Str, H2 p = some (.lst (ys.map V.str)) ∧ ys.length = i ∧ (∀ y ∈ ys, y.length = 1) ∧ ∀ y ∈ ys, lo y)
      ⟨D1.same (same_new np), K1.trans (Keep.of (same_new np)), [], upd_same, rfl, (fun _ z => nomatch z), (fun _ z => nomatch z)⟩ ?_ ?_⟩⟩
    · rintro i H2 hi ⟨D2, K2, ys, hp, ly, oy, ay⟩
      have pd := D1.d_ne np
      have pl := D1.l_ne np
      refine ⟨rfl, _, rfl, _, rfl, d, l, _, rfl, D2, by decide, by decide, fun q H3 q0 q1 D3 K3 => ?_⟩
      obtain ⟨c, hc, mc⟩ := atI_ok (xs := abc.cps.toList) (i := q) q0 (by rw [len_abc]; exact q1)
      have hp3 := K3 p _ hp pd pl
      refine ⟨abc, q, c, rfl, rfl, fit (by rw [len_abc2]; decide), hc, _, hp3, small1000 (by rw [List.length_map]; omega), D3.upd pd pl, fun b o e h1 h2 => ?_, ys ++ [⟨#[c]⟩], ?_, ?_, ?_, ?_⟩
      · have nb : b ≠ p := fun z => by
          have := K1 b o e h1 h2
          rw [z, np] at this
          cases this
        rw [upd_ne nb]
        exact K3 b o (K2 b o e h1 h2) h1 h2
      · rw [upd_same, List.map_append]
        rfl
      · rw [List.length_append, ly]
        rfl
      · intro y hy
        rcases List.mem_append.mp hy with z | z
        · exact oy y z
        · rw [List.mem_singleton.mp z]
          rfl
      · intro y hy
        rcases List.mem_append.mp hy with z | z
        · exact ay y z
        · rw [List.mem_singleton.mp z]
          exact lo_one (lo_abc c mc)
    · rintro H2 ⟨D2, K2, ys, hp, ly, oy, ay⟩
      have hs := ones_sum ys oy
      refine ⟨_, p, ys, rfl, rfl, .inl (SqL.of hp), ?_, ?_⟩
      · rw [hs, show (("" : Str)).length = 0 by decide +kernel]
        omega
      have hj : (Txt.join "" ys).length ≤ 4 := by
        rw [join_len, hs]
        omega
      have hlo : lo (Txt.join "" ys) := join_lo ys ay
      -- at, turn
      refine ⟨_, rfl, _, rfl, _, rfl, fit (by omega), _, _, rfl, rfl, d, l, _, rfl, D2, by omega, by omega, fun at0 H3 a0 a1 D3 K3 => ⟨_, rfl, d, l, _, rfl, D3, by decide, by decide, fun tn H4 t0 t1 D4 K4 => ⟨fit (show 2 ≤ 1000 by decide), fun tt nt => ?_⟩⟩⟩
      refine ⟨tt, _, rfl, SqT.of upd_same, rfl, _, _, rfl, _, _, rfl, rfl, ?_⟩
      have s5 := same_new (o := .tup [.int at0, .int tn]) nt
      have D5 := D4.same s5
      have K5 : Keep d l H (L2.upd H4 tt (.tup [.int at0, .int tn])) := (K2.trans (K3.trans K4)).trans (Keep.of s5)
      -- found
      refine ⟨_, rfl, many, rfl, by omega, by omega, fun p2 np2 => lc_range (lo := 0) (n := many.toNat) (fun i H6 => DealAt H6 d l ∧ Keep d l H H6 ∧ ∃ ys : List Str, H6 p2 = some (.lst (ys.map V.str)) ∧ ys.length = i ∧ ∀ y ∈ ys, y.length ≤ 9 ∧ lo y) ⟨D5.same (same_new np2), K5.trans (Keep.of (same_new np2)), [], upd_same, rfl, fun _ z => nomatch z⟩ ?_ ?_⟩
      · rintro i H6 hi ⟨D6, K6, zs, hp6, lz, oz⟩
        obtain ⟨c, hc, mc⟩ := atI_ok (xs := abc.cps.toList) (i := (tn + (0 + (i : Int))) % 26) (Int.emod_nonneg _ (by decide)) (by rw [len_abc]; exact Int.emod_lt_of_pos _ (by decide))
        have l1 := cut_len (Txt.join "" ys) none (some at0)
        have l2 := cut_len (Txt.join "" ys) (some at0) none
        refine ⟨rfl, _, rfl, _, rfl, _, rfl, _, rfl, fit (by omega), _, rfl, _, rfl, _, rfl, _, _, rfl, rfl, _, _, rfl, rfl, (by decide : (0 : Int) < 26), abc, _, c, rfl, rfl, fit (by rw [len_abc2]; decide), hc, _, _, rfl, rfl, fit (by rw [len_one]; omega), _, rfl, _, rfl, _, rfl, _, rfl, fit (by omega), _, _, rfl, rfl, fit (by rw [len_app, len_one]; omega), _, hp6, small1000 (by rw [List.length_map]; omega), ?_, ?_, zs ++ [cutS (Txt.join "" ys) none (some at0) ++ ⟨#[c]⟩ ++ cutS (Txt.join "" ys) (some at0) none], ?_, ?_, ?_⟩
        · exact D6.upd (D5.d_ne np2) (D5.l_ne np2)
        · intro b o e h1 h2
          have nb : b ≠ p2 := fun z => by
            have := K5 b o e h1 h2
            rw [z, np2] at this
            cases this
          rw [upd_ne nb]
          exact K6 b o e h1 h2
        · rw [upd_same, snoc_strs]
        · rw [List.length_append, lz]
          rfl
        · intro y hy
          rcases List.mem_append.mp hy with z | z
          · exact oz y z
          · rw [List.mem_singleton.mp z]
            refine ⟨?_, lo_app (lo_app (lo_cut hlo) (lo_one (lo_abc c mc))) (lo_cut hlo)⟩
            rw [len_app, len_app, len_one]
            omega
      · rintro H6 ⟨D6, K6, zs, hp6, lz, oz⟩
        -- taken
        refine ⟨⟨_, rfl⟩, _, _, rfl, rfl, by decide +kernel, by decide +kernel, fun p3 np3 => ?_⟩
        have s7 := same_new (o := .lst ((Txt.split tk0 " ").map V.str)) np3
        have hp7 := s7 _ _ hp6
        have ht7 : (L2.upd H6 p3 (.lst ((Txt.split tk0 " ").map V.str))) p3 = some (.lst ((Txt.split tk0 " ").map V.str)) := upd_same
        refine ⟨_, rfl, p2, rfl, ⟨_, SqL.of hp7⟩, fun p4 np4 => lc_it (walk_list (K := K) (xs := zs.map V.str)) (fun i H8 => Same (L2.upd H6 p3 (.lst ((Txt.split tk0 " ").map V.str))) H8 ∧ ∃ ws : List Str, H8 p4 = some (.lst (ws.map V.str)) ∧ ws.length = i ∧ ∀ y ∈ ws, nm y) ⟨same_new np4, [], upd_same, rfl, fun _ z => nomatch z⟩ (fun i H8 _ z => SqL.of (z.1 _ _ hp7)) ?_ ?_⟩
        · rintro i y H8 H9 hi ⟨z1, ws, hp9, lw, ow⟩ ⟨rfl, hy⟩
          obtain ⟨x, rfl, mx⟩ := str_at hy
          obtain ⟨lx, ox⟩ := oz x mx
          rw [List.length_map] at hi
          have b01 : ∀ bb : Bool, ((if bb = true then (1 : Int) else 0) = 0 ∨ (if bb = true then (1 : Int) else 0) = 1) := fun bb => by cases bb <;> decide
          have lq : ∀ n : Int, (if n = 1 then ("q" : Str) else Str.empty).length ≤ 1 := fun n => by split <;> decide +kernel
          have oq : ∀ n : Int, lo (if n = 1 then ("q" : Str) else Str.empty) := fun n => by
            split
            · exact (by decide +kernel : ∀ c ∈ ("q" : Str).cps.toList, c < 128)
            · exact lo_nil
          refine ⟨rfl, _, rfl, _, rfl, _, rfl, p3, _, rfl, .inl (SqL.of (z1 _ _ ht7)), rfl, flat_strs _, .inr ⟨_, rfl, ?_⟩⟩
          refine ⟨_, _, rfl, rfl, b01 _, _, _, rfl, rfl, fit (by have := lq (if (if false = true then !inV (.str x) ((Txt.split tk0 " ").map V.str) else inV (.str x) ((Txt.split tk0 " ").map V.str)) = true then 1 else 0); omega), _, hp9, small1000 (by rw [List.length_map]; omega), ?_, ws ++ [x ++ (if (if (if false = true then !inV (.str x) ((Txt.split tk0 " ").map V.str) else inV (.str x) ((Txt.split tk0 " ").map V.str)) = true then (1 : Int) else 0) = 1 then ("q" : Str) else Str.empty)], ?_, ?_, ?_⟩
          · intro b o e
            rw [upd_ne (ne_of_none e np4)]
            exact z1 b o e
          · rw [upd_same, snoc_strs]
          · rw [List.length_append, lw]
            rfl
          · intro y hy
            rcases List.mem_append.mp hy with z | z
            · exact ow y z
            · rw [List.mem_singleton.mp z]
              refine ⟨?_, lo_app ox (oq _)⟩
              rw [len_app]
              have := lq (if (if false = true then !inV (.str x) ((Txt.split tk0 " ").map V.str) else inV (.str x) ((Txt.split tk0 " ").map V.str)) = true then 1 else 0)
              omega
        · rintro H8 ⟨z1, ws, hp8, lw, ow⟩
          rw [List.length_map, lz] at lw
          refine k p4 ws H8 ?_ hp8 (by omega) ow ((D6.same s7).same z1) (K6.trans (Keep.of (s7.trans z1)))
          cases e : H p4 with
          | none => rfl
          | some o =>
            have z := (K6.trans (Keep.of s7)) p4 o e ((D6.same s7).d_ne np4) ((D6.same s7).l_ne np4)
            rw [np4] at z
            cases z
end
end K06
set_option Elab.async false
set_option linter.all false
set_option maxRecDepth 100000
set_option maxHeartbeats 4000000
namespace K06
open PySem PySem.Spec PyProof.Rows L2 Fb
def spAtom : Sp := fun vs H Q _ => ∃ (d l wd ln : Addr) (ns : List Str) (m : Nat), vs = [.ref d, .ref wd] ∧ GenAt H d l wd ln ns m ∧ ∀ v dt H', At v dt → GenAt H' d l wd ln ns m → Mod [d, l, wd] H H' → Q v H'
def spFlat (K : PySem.W.Frag) : Sp := fun vs H Q _ => ∃ (d l wd ln : Addr) (ns : List Str) (m : Nat) (way : Int) (x : Str), vs = [.ref d, .ref wd, .int way, .str x] ∧ GenAt H d l wd ln ns m ∧ 0 ≤ way ∧ way < 6 ∧ nm x ∧
  ∀ v s H', Dp K H' v (dS s) → goodS s → nS s = 1 → (dS s).depth ≤ 2 → GenAt H' d l wd ln ns m → Mod [d, l, wd] H H' → Q v H'
inductive AtAll : List V → List PyData → Prop
  | nil : AtAll [] []
  | cons {v : V} {vs : List V} {d : PyData} {ds : List PyData} : At v d → AtAll vs ds → AtAll (v :: vs) (d :: ds)
theorem AtAll.snoc {v : V} {d : PyData} (h : At v d) : ∀ {vs : List V} {ds : List PyData}, AtAll vs ds → AtAll (vs ++ [v]) (ds ++ [d])
  | _, _, .nil => .cons h .nil
  | _, _, .cons a t => .cons a (AtAll.snoc h t)
theorem AtAll.dps {K : PySem.W.Frag} {H : Hp} : ∀ {vs : List V} {ds : List PyData}, AtAll vs ds → DpAll K H vs ds
  | _, _, .nil => .nil
  | _, _, .cons a t => .cons a.dp (AtAll.dps t)
theorem AtAll.lf : ∀ {vs : List V} {ds : List PyData}, AtAll vs ds → ∀ d ∈ ds, Lf d
  | _, _, .nil, _, h => by cases h
  | _, _, .cons a t, d, h => by
    rcases List.mem_cons.mp h with e | e
    · rw [e]; exact a.lf
    · exact AtAll.lf t d e
theorem AtAll.len : ∀ {vs : List V} {ds : List PyData}, AtAll vs ds → vs.length = ds.length
  | _, _, .nil => rfl
  | _, _, .cons _ t => by rw [List.length_cons, List.length_cons, AtAll.len t]
theorem int_of {x y : Int} (h : decide (V.int x = V.int y) = true) : x = y := V.int.inj (of_decide_eq_true h)
theorem int_not {x y : Int} (h : ¬ decide (V.int x = V.int y) = true) : ¬ x = y := fun e => h (decide_eq_true (congrArg V.int e))
theorem good_mk {w x : Str} {r : List PyData} {h : w = "let" ∨ w = "sum" ∨ w = "call"} (hx : nm x) (n : noLs r = true) (s : ShA r 1300 1) : goodS (.mk w x r h) ∧ nS (.mk w x r h) = 1 ∧ (dS (.mk w x r h)).depth ≤ 2 := by
  refine ⟨by rw [goodS]; exact ⟨hx, n, s⟩, rfl, ?_⟩
  rw [dS]
  show PyData.depthAll _ + 1 ≤ 2
  simp only [PyData.depthAll, PyData.depth]
  have := s.dp
  omega
theorem good_no {w : Str} {r : List PyData} {h : w = "set" ∨ w = "tell" ∨ w = "give"} (n : noLs r = true) (s : ShA r 1300 1) : goodS (.no w r h) ∧ nS (.no w r h) = 1 ∧ (dS (.no w r h)).depth ≤ 2 := by
  refine ⟨by rw [goodS]; exact ⟨n, s⟩, rfl, ?_⟩
  rw [dS]
  show PyData.depthAll _ + 1 ≤ 2
  simp only [PyData.depthAll, PyData.depth]
  have := s.dp
  omega
theorem noL_cons {d : PyData} {ds : List PyData} (h : noL d = true) (t : noLs ds = true) : noLs (d :: ds) = true := by rw [noLs, h, t]; rfl
theorem lo_signs : ∀ c ∈ ("+-*<=" : Str).cps.toList, c < 128 := by decide +kernel
section
variable {P : Program} {w : World} {K : PySem.W.Frag} {mg : Str → Option Value} {base : Heap} {CB CP CT : Addr}
theorem scAtom : FnScope ["_law_deal_here", "_law_world"] ["_law_deal_here", "_law_world"] (defScope s_l_any_atom) := ⟨rfl, rfl, rfl, by decide +kernel, rfl, by decide +kernel, by decide +kernel⟩
theorem ok_atom (T : Top K mg CB CP CT) : C8.Cal P w K mg base 2 "_law_any_atom" spAtom [] := by
  have C_law_draw : C8.Cal P w K mg base 1 "_law_draw" spDraw [] := ok_draw T
  obtain ⟨f, fd, F, gm⟩ := T.h_l_any_atom
  refine ⟨f, fd, ["_law_deal_here", "_law_world"], [], ?_, gm, F.kp, F.binds (fun _ _ _ _ _ _ us hl => match us, hl with | [_, _], _ => rfl), .nil⟩
  refine F.ok scAtom (fun vs H Q E h => ?_) (fun cdv A outer s H vs Q E hr h => ?_)
  · obtain ⟨d, l, wd, ln, ns, m, rfl, _⟩ := h
    rfl
  · obtain ⟨d, l, wd, ln, ns, m, rfl, G, k⟩ := h
    have hu := hu_of hr
    refine ⟨_, (pss_cons (ps_if (pt_cmpR op_gt (C8.pe_c C_law_draw hr (by omega) rfl (pa_cons (pv 0) (pa_cons pe_int pa_nil))) pe_int (nomark _))
    (pss_one (ps_ret (pe_ix ix_list (pe_dget hu (pv 1) pe_str (fun _ _ => rfl)) (C8.pe_c C_law_draw hr (by omega) rfl (pa_cons (pv 0) (pa_cons (pe_callB call_len_seq (by rfl) T.n_len (by decide +kernel) (pa_cons (pe_dget hu (pv 1) pe_str (fun _ _ => rfl)) pa_nil)) pa_nil))) (fun _ _ => rfl))))
    pss_nil)
  (pss_one (ps_ret (pe_ix ix_list (pe_lst (pa_cons (C8.pe_c C_law_draw hr (by omega) rfl (pa_cons (pv 0) (pa_cons pe_int pa_nil))) (pa_cons (C8.pe_c C_law_draw hr (by omega) rfl (pa_cons (pv 0) (pa_cons pe_int pa_nil))) pa_nil))) (C8.pe_c C_law_draw hr (by omega) rfl (pa_cons (pv 0) (pa_cons pe_int pa_nil))) (fun _ _ => rfl))))), ?_⟩
    refine ⟨_, rfl, d, l, _, rfl, G.dl, by decide, by decide, fun r H1 r0 r1 D1 K1 => ⟨_, _, rfl, rfl, _, rfl, ite2 (fun e => ?_) (fun e => ?_)⟩⟩
    · have G1 := G.dealt D1 K1
      have z0 := G1.n0
      have z1 := G1.n1
      refine ⟨_, rfl, wd, _, rfl, gw_names G1.wa, _, rfl, _, rfl, wd, _, rfl, gw_names G1.wa, ln, _, rfl, .inl (SqL.of G1.na), d, l, _, rfl, D1, by rw [List.length_map]; omega, by rw [List.length_map]; omega, fun q H2 q0 q1 D2 K2 => ?_⟩
      have G2 := G1.dealt D2 K2
      obtain ⟨v, hv, mv⟩ := atI_ok (xs := ns.map V.str) (i := q) q0 q1
      refine ⟨ln, _, q, v, rfl, rfl, SqL.of G2.na, hv, ?_⟩
      obtain ⟨x, mx, rfl⟩ := List.mem_map.mp mv
      exact k _ (.str x) H2 (.inl ⟨x, rfl, rfl, G2.gd x mx⟩) G2 (K1.mod.trans K2.mod)
    · refine ⟨_, rfl, d, l, _, rfl, D1, by decide, by decide, fun a H2 a0 a1 D2 K2 => ⟨_, rfl, d, l, _, rfl, D2, by decide, by decide, fun b H3 b0 b1 D3 K3 => ⟨fit (show 2 ≤ 1000 by decide), fun p np => ⟨_, rfl, d, l, _, rfl, D3.same (same_new np), by decide, by decide, fun q H4 q0 q1 D4 K4 => ?_⟩⟩⟩⟩
      obtain ⟨v, hv, mv⟩ := atI_ok (xs := [a, b].map V.int) (i := q) q0 (by rw [List.length_map]; exact q1)
      have hp : H4 p = some (.lst ([a, b].map V.int)) := K4 p _ upd_same (D3.d_ne np) (D3.l_ne np)
      refine ⟨p, _, q, v, rfl, rfl, SqL.of hp, hv, ?_⟩
      obtain ⟨x, mx, rfl⟩ := List.mem_map.mp mv
      have Kall : Keep d l H H4 := K1.trans (K2.trans (K3.trans ((Keep.of (same_new np)).trans K4)))
      have hx : 0 ≤ x ∧ x < 1000000000 := by
        simp only [List.mem_cons, List.not_mem_nil, or_false] at mx
        rcases mx with e | e <;> (subst e; omega)
      exact k _ (.int x) H4 (.inr ⟨x, rfl, rfl, hx.1, hx.2⟩) (G.dealt D4 Kall) Kall.mod
theorem scFlat : FnScope ["_law_deal_here", "_law_world", "_law_way", "_law_x", "_law_a", "_law_b", "_law_f", "_law_k"] ["_law_deal_here", "_law_world", "_law_way", "_law_x"] (defScope s_l_any_flat) := ⟨rfl, rfl, rfl, by decide +kernel, rfl, by decide +kernel, by decide +kernel⟩
theorem ok_flat (T : Top K mg CB CP CT) : C8.Cal P w K mg base 3 "_law_any_flat" (spFlat K) [] := by
  have C_law_draw : C8.Cal P w K mg base 1 "_law_draw" spDraw [] := ok_draw T
  have C_law_any_atom : C8.Cal P w K mg base 2 "_law_any_atom" spAtom [] := ok_atom T
  obtain ⟨f, fd, F, gm⟩ := T.h_l_any_flat
  refine ⟨f, fd, ["_law_deal_here", "_law_world", "_law_way", "_law_x"], [], ?_, gm, F.kp, F.binds (fun _ _ _ _ _ _ us hl => match us, hl with | [_, _, _, _], _ => rfl), .nil⟩
  refine F.ok scFlat (fun vs H Q E h => ?_) (fun cdv A outer s H vs Q E hr h => ?_)
  · obtain ⟨d, l, wd, ln, ns, m, way, x, rfl, _⟩ := h
    rfl
  · obtain ⟨d, l, wd, ln, ns, m, way, x, rfl, G, w0, w1, hx, k⟩ := h
    have hu := hu_of hr
    refine ⟨_, (pss_cons (ps_par (by rfl) scFlat.nd (i := 4) (j := 5) rfl rfl (by decide) rfl rfl (pa_cons (C8.pe_c C_law_any_atom hr (by omega) rfl (pa_cons (pv 0) (pa_cons (pv 1) pa_nil))) (pa_cons (C8.pe_c C_law_any_atom hr (by omega) rfl (pa_cons (pv 0) (pa_cons (pv 1) pa_nil))) pa_nil)) (by rfl))
  (pss_cons (ps_if (pt_cmpR op_eq (pv 2) pe_int (nomark _))
    (pss_one (ps_ret (pe_tup (pa_cons pe_str (pa_cons (pv 3) (pa_cons (pv 4) pa_nil))))))
    pss_nil)
  (pss_cons (ps_if (pt_cmpR op_eq (pv 2) pe_int (nomark _))
    (pss_one (ps_ret (pe_tup (pa_cons pe_str (pa_cons (pv 3) (pa_cons (pe_ix ix_str pe_str (C8.pe_c C_law_draw hr (by omega) rfl (pa_cons (pv 0) (pa_cons pe_int pa_nil))) (fun _ _ => rfl)) (pa_cons (pv 4) (pa_cons (pv 5) pa_nil))))))))
    pss_nil)
  (pss_cons (ps_if (pt_cmpR op_eq (pv 2) pe_int (nomark _))
    (pss_cons (ps_set (i := 6) scFlat.nd rfl (Or.inl rfl) (pe_ix ix_list (pe_dget hu (pv 1) pe_str (fun _ _ => rfl)) (C8.pe_c C_law_draw hr (by omega) rfl (pa_cons (pv 0) (pa_cons (pe_callB call_len_seq (by rfl) T.n_len (by decide +kernel) (pa_cons (pe_dget hu (pv 1) pe_str (fun _ _ => rfl)) pa_nil)) pa_nil))) (fun _ _ => rfl)))
  (pss_one (ps_ret (pe_tup (pa_cons pe_str (pa_cons (pv 3) (pa_cons (pv 6) (pa_cons (pe_callTy call_tuple_of (by rfl) T.n_tuple (by decide +kernel) (pa_cons (pe_lc (own := [("_law_k", 7)]) rfl scFlat.nd (pi_range1 rfl T.n_range (pa_cons (C8.pe_c C_law_draw hr (by omega) rfl (pa_cons (pv 0) (pa_cons pe_int pa_nil))) pa_nil)) (blkOk_by (own := [("_law_k", 7)]) (N := ["_law_deal_here", "_law_world", "_law_way", "_law_x", "_law_a", "_law_b", "_law_f", "_law_k"]) (sc := defScope s_l_any_flat) (by decide +kernel)) (fun _ _ _ _ _ => (pg_name (i := 7) scFlat.nd rfl (Or.inl rfl))) (fun _ _ _ _ _ => pts_nil) (fun _ _ _ _ _ => (C8.pe_c C_law_any_atom hr (by omega) rfl (pa_cons (pv 0) (pa_cons (pv 1) pa_nil))))) pa_nil)) pa_nil))))))))
    pss_nil)
  (pss_cons (ps_if (pt_cmpR op_eq (pv 2) pe_int (nomark _))
    (pss_one (ps_ret (pe_tup (pa_cons pe_str (pa_cons (pv 3) (pa_cons (pv 4) pa_nil))))))
    pss_nil)
  (pss_one (ps_ret (pe_ix ix_list (pe_lst (pa_cons (pe_tup (pa_cons pe_str (pa_cons (pv 4) pa_nil))) (pa_cons (pe_tup (pa_cons pe_str (pa_cons (pv 4) pa_nil))) pa_nil))) (pe_op op_mod (pv 2) pe_int) (fun _ _ => rfl))))))))), ?_⟩
    refine ⟨_, rfl, _, rfl, d, l, wd, ln, ns, m, rfl, G, fun va da H1 aa G1 M1 => ⟨_, rfl, _, rfl, d, l, wd, ln, ns, m, rfl, G1, fun vb db H2 ab G2 M2 => ⟨_, _, rfl, ?_⟩⟩⟩
    have M02 := M1.trans M2
    -- way == 0
    refine ⟨_, rfl, rfl, _, rfl, ite2 (fun e => ?_) (fun e => ?_)⟩
    · refine ⟨_, rfl, _, rfl, fit (show 3 ≤ 1000 by decide), fun t nt => ?_⟩
      obtain ⟨g1, g2, g3⟩ := good_mk (w := "let") (h := .inl rfl) hx (noL_cons aa.lf.1 rfl) ((sha_cons aa.lf.sh (sha_nil 0 1)).mono (by decide) (Nat.le_refl _))
      exact k _ (.mk "let" x [da] (.inl rfl)) _ (by rw [dS]; exact .tup (SqT.of upd_same) (.cons (.str _) (.cons (.str _) (.cons aa.dp .nil)))) g1 g2 g3 (G2.same (same_new nt)) (M02.trans (Mod.of (same_new nt)))
    have e0 := int_not e
    -- way == 1
    refine ⟨_, rfl, rfl, _, rfl, ite2 (fun e => ?_) (fun e => ?_)⟩
    · refine ⟨_, rfl, _, rfl, d, l, _, rfl, G2.dl, by decide, by decide, fun q H3 q0 q1 D3 K3 => ?_⟩
      obtain ⟨c, hc, mc⟩ := atI_ok (xs := ("+-*<=" : Str).cps.toList) (i := q) q0 (by rw [show ("+-*<=" : Str).cps.toList.length = 5 by decide +kernel]; exact q1)
      refine ⟨_, q, c, rfl, rfl, by decide +kernel, hc, _, rfl, _, rfl, fit (show 5 ≤ 1000 by decide), fun t nt => ?_⟩
      obtain ⟨g1, g2, g3⟩ := good_mk (w := "sum") (h := .inr (.inl rfl)) hx (noL_cons (d := .str ⟨#[c]⟩) rfl (noL_cons aa.lf.1 (noL_cons ab.lf.1 rfl))) ((sha_cons (sh_str (x := ⟨#[c]⟩) (k := 1) (n := 12) (Nat.le_refl 1) (lo_one (lo_signs c mc)) (by decide)) (sha_cons aa.lf.sh (sha_cons ab.lf.sh (sha_nil 0 1)))).mono (by decide) (Nat.le_refl _))
      exact k _ (.mk "sum" x [.str ⟨#[c]⟩, da, db] (.inr (.inl rfl))) _ (by rw [dS]; exact .tup (SqT.of upd_same) (.cons (.str _) (.cons (.str _) (.cons (.str _) (.cons aa.dp (.cons ab.dp .nil)))))) g1 g2 g3 ((G2.dealt D3 K3).same (same_new nt)) ((M02.trans K3.mod).trans (Mod.of (same_new nt)))
    have e1 := int_not e
    -- way == 2
    refine ⟨_, rfl, rfl, _, rfl, ite2 (fun e => ?_) (fun e => ?_)⟩
    · have z0 := G2.n0
      have z1 := G2.n1
      refine ⟨_, rfl, wd, _, rfl, gw_names G2.wa, _, rfl, _, rfl, wd, _, rfl, gw_names G2.wa, ln, _, rfl, .inl (SqL.of G2.na), d, l, _, rfl, G2.dl, by rw [List.length_map]; omega, by rw [List.length_map]; omega, fun q H3 q0 q1 D3 K3 => ?_⟩
      have G3 := G2.dealt D3 K3
      obtain ⟨v, hv, mv⟩ := atI_ok (xs := ns.map V.str) (i := q) q0 q1
      refine ⟨ln, _, q, v, rfl, rfl, SqL.of G3.na, hv, ?_⟩
      obtain ⟨fx, mx, rfl⟩ := List.mem_map.mp mv
      have hf := G3.gd fx mx
      refine ⟨_, rfl, _, rfl, _, rfl, d, l, _, rfl, D3, by decide, by decide, fun r H4 r0 r1 D4 K4 => ⟨r, rfl, by omega, by omega, fun p np => lc_range (lo := 0) (n := r.toNat) (fun i H5 => GenAt H5 d l wd ln ns m ∧ Mod [d, l, wd] H H5 ∧ ∃ vs ds, H5 p = some (.lst vs) ∧ vs.length = i ∧ AtAll vs ds) ⟨(G3.dealt D4 K4).same (same_new np), ((M02.trans K3.mod).trans K4.mod).trans (Mod.of (same_new np)), [], [], upd_same, rfl, .nil⟩ ?_ ?_⟩⟩
      · rintro i H5 hi ⟨G5, M5, vs, ds, hp, lv, av⟩
        have hfr := (G3.dealt D4 K4).fresh np
        have hfr2 := hfr
        simp only [List.mem_cons, List.not_mem_nil, or_false, not_or] at hfr2
        refine ⟨rfl, _, rfl, _, rfl, d, l, wd, ln, ns, m, rfl, G5, fun vc dc H6 ac G6 M6 => ⟨vs, M6 p _ hp (by simp only [List.mem_cons, List.not_mem_nil, or_false, not_or]; exact ⟨hfr2.1, hfr2.2.1, hfr2.2.2.1⟩), small1000 (by omega), G6.upd hfr, ?_, vs ++ [vc], ds ++ [dc], upd_same, ?_, av.snoc ac⟩⟩
        · refine (M5.trans M6).put (.inr ?_)
          cases e : H p with
          | none => rfl
          | some o =>
            have z := ((M02.trans K3.mod).trans K4.mod) p o e (by simp only [List.mem_cons, List.not_mem_nil, or_false, not_or]; exact ⟨hfr2.1, hfr2.2.1, hfr2.2.2.1⟩)
            rw [np] at z
            cases z
        · rw [List.length_append, lv]
          rfl
      · rintro H5 ⟨G5, M5, vs, ds, hp, lv, av⟩
        refine ⟨p, vs, rfl, .inl ⟨SqL.of hp, fun t nt => ⟨fit (show 4 ≤ 1000 by decide), fun t2 nt2 => ?_⟩⟩⟩
        have ld := av.len
        have s2 := (same_new (o := .tup vs) nt).trans (same_new (o := .tup [.str "call", .str x, .str fx, .ref t]) nt2)
        have sa : ShA [.str fx, .tuple ds] 1300 1 := by
          refine (sha_cons (nm_sh (n := 202) hf (Nat.le_refl _)) (sha_cons (sh_tup (sha_all (a := 202) (m := 0) fun d z => (av.lf d z).sh)) (sha_nil 0 1))).mono ?_ (Nat.le_refl _)
          have : ds.length * (202 + 2) ≤ 5 * (202 + 2) := Nat.mul_le_mul_right _ (by omega)
          omega
        obtain ⟨g1, g2, g3⟩ := good_mk (w := "call") (h := .inr (.inr rfl)) hx (noL_cons (d := .str fx) rfl (noL_cons (by rw [noL]; exact noLs_all fun d z => (av.lf d z).1) rfl)) sa
        exact k _ (.mk "call" x [.str fx, .tuple ds] (.inr (.inr rfl))) _ (by rw [dS]; exact .tup (SqT.of upd_same) (.cons (.str _) (.cons (.str _) (.cons (.str _) (.cons (.tup (SqT.of (same_new nt2 _ _ upd_same)) av.dps) .nil))))) g1 g2 g3 (G5.same s2) (M5.trans (Mod.of s2))
    have e2 := int_not e
    -- way == 3
    refine ⟨_, rfl, rfl, _, rfl, ite2 (fun e => ?_) (fun e => ?_)⟩
    · refine ⟨_, rfl, _, rfl, fit (show 3 ≤ 1000 by decide), fun t nt => ?_⟩
      obtain ⟨g1, g2, g3⟩ := good_no (w := "set") (h := .inl rfl) (noL_cons (d := .str x) rfl (noL_cons aa.lf.1 rfl)) ((sha_cons (nm_sh (n := 202) hx (Nat.le_refl _)) (sha_cons aa.lf.sh (sha_nil 0 1))).mono (by decide) (Nat.le_refl _))
      exact k _ (.no "set" [.str x, da] (.inl rfl)) _ (by rw [dS]; exact .tup (SqT.of upd_same) (.cons (.str _) (.cons (.str _) (.cons aa.dp .nil)))) g1 g2 g3 (G2.same (same_new nt)) (M02.trans (Mod.of (same_new nt)))
    have e3 := int_not e
    refine ⟨_, rfl, fit (show 2 ≤ 1000 by decide), fun t1 nt1 => ⟨_, rfl, fit (show 2 ≤ 1000 by decide), fun t2 nt2 => ⟨fit (show 2 ≤ 1000 by decide), fun p np => ⟨_, rfl, _, _, rfl, rfl, (by decide : (0 : Int) < 2), ?_⟩⟩⟩⟩
    have s2 := (same_new (o := .tup [.str "tell", va]) nt1).trans ((same_new (o := .tup [.str "give", va]) nt2).trans (same_new (o := .lst [.ref t1, .ref t2]) np))
    have sha1 : ShA [da] 1300 1 := (sha_cons aa.lf.sh (sha_nil 0 1)).mono (by decide) (Nat.le_refl _)
    have hwy : way = 4 ∨ way = 5 := by omega
    rcases hwy with e | e
    · subst e
      obtain ⟨g1, g2, g3⟩ := good_no (w := "tell") (h := .inr (.inl rfl)) (noL_cons aa.lf.1 rfl) sha1
      refine ⟨p, _, _, _, rfl, rfl, SqL.of upd_same, atI_nat (j := 0) rfl, k _ (.no "tell" [da] (.inr (.inl rfl))) _ ?_ g1 g2 g3 (G2.same s2) (M02.trans (Mod.of s2))⟩
      rw [dS]
      exact .tup (SqT.of (((same_new nt2).trans (same_new np)) _ _ upd_same)) (.cons (.str _) (.cons aa.dp .nil))
    · subst e
      obtain ⟨g1, g2, g3⟩ := good_no (w := "give") (h := .inr (.inr rfl)) (noL_cons aa.lf.1 rfl) sha1
      refine ⟨p, _, _, _, rfl, rfl, SqL.of upd_same, atI_nat (j := 1) rfl, k _ (.no "give" [da] (.inr (.inr rfl))) _ ?_ g1 g2 g3 (G2.same s2) (M02.trans (Mod.of s2))⟩
      rw [dS]
      exact .tup (SqT.of ((same_new np) _ _ upd_same)) (.cons (.str _) (.cons aa.dp .nil))
end
end K06
set_option Elab.async false
set_option linter.all false
set_option maxRecDepth 100000
set_option maxHeartbeats 4000000
namespace K06
open PySem PySem.Spec PyProof.Rows L2 Fb
def spStm (K : PySem.W.Frag) (n : Nat) : Sp := fun vs H Q _ => ∃ (d l wd ln : Addr) (ns : List Str) (m : Nat) (dp : Int), vs = [.ref d, .ref wd, .int dp] ∧ dp = (n : Int) ∧ GenAt H d l wd ln ns m ∧ m ≤ 60 ∧
  ∀ v s H' m', Dp K H' v (dS s) → goodS s → m' ≤ m → nS s ≤ 1 + (m - m') → (dS s).depth ≤ 2 * n + 2 → GenAt H' d l wd ln ns m' → Mod [d, l, wd] H H' → Q v H'
def spBlk (K : PySem.W.Frag) (n : Nat) : Sp := fun vs H Q _ => ∃ (d l wd ln : Addr) (ns : List Str) (m : Nat) (dp : Int), vs = [.ref d, .ref wd, .int dp] ∧ dp = (n : Int) ∧ GenAt H d l wd ln ns m ∧ m ≤ 60 ∧
  ∀ v b H' m', Dp K H' v (.tuple (dB b)) → goodB b → m' ≤ m → nB b ≤ m - m' → PyData.depthAll (dB b) ≤ 2 * n + 2 → GenAt H' d l wd ln ns m' → Mod [d, l, wd] H H' → Q v H'
/-- one level down; at the bottom nothing is promised -/
def spBelow (K : PySem.W.Frag) : Nat → Sp
  | 0 => fun _ _ _ _ => False
  | n + 1 => spBlk K n
theorem dep_ps : ∀ ps : List Str, PyData.depthAll (ps.map PyData.str) = 0
  | [] => rfl
  | _ :: r => by
    rw [List.map_cons, PyData.depthAll, dep_ps r]
    rfl
theorem dep_snoc : ∀ (ds : List PyData) (d : PyData), PyData.depthAll (ds ++ [d]) = max (PyData.depthAll ds) d.depth
  | [], d => by simp [PyData.depthAll]
  | x :: r, d => by
    rw [List.cons_append, PyData.depthAll, PyData.depthAll, dep_snoc r d]
    omega
theorem at_dep {v : V} {d : PyData} (h : At v d) : d.depth = 0 := by
  rcases h with ⟨x, rfl, rfl, _⟩ | ⟨n, rfl, rfl, _⟩ <;> rfl
theorem free3 {H H' : Hp} {d l wd ln p : Addr} {ns : List Str} {m m' : Nat} (g : GenAt H' d l wd ln ns m') (M : Mod [d, l, wd] H H') (np : H' p = none) : H p = none := by
  have h := g.fresh np
  simp only [List.mem_cons, List.not_mem_nil, or_false, not_or] at h
  cases e : H p with
  | none => rfl
  | some o =>
    have z := M p o e (by simp only [List.mem_cons, List.not_mem_nil, or_false, not_or]; exact ⟨h.1, h.2.1, h.2.2.1⟩)
    rw [np] at z
    cases z
theorem out3 {H : Hp} {d l wd ln p : Addr} {ns : List Str} {m : Nat} (g : GenAt H d l wd ln ns m) (np : H p = none) : p ∉ [d, l, wd] := by
  have h := g.fresh np
  simp only [List.mem_cons, List.not_mem_nil, or_false, not_or] at h ⊢
  exact ⟨h.1, h.2.1, h.2.2.1⟩
section
variable {P : Program} {w : World} {K : PySem.W.Frag} {mg : Str → Option Value} {base : Heap} {CB CP CT : Addr}
theorem scStm : FnScope ["_law_deal_here", "_law_world", "_law_deep", "_law_way", "_law_x", "_law_a", "_law_params", "_law_one", "_law_k"] ["_law_deal_here", "_law_world", "_law_deep"] (defScope s_l_any_statement) := ⟨rfl, rfl, rfl, by decide +kernel, rfl, by decide +kernel, by decide +kernel⟩
theorem no_block (T : Top K mg CB CP CT) (k : Nat) : C8.Cal P w K mg base k "_law_any_block" (fun _ _ _ _ => False) [] := by
  obtain ⟨f, fd, F, gm⟩ := T.h_l_any_block
  exact ⟨f, fd, ["_law_deal_here", "_law_world", "_law_deep"], [], ⟨fun _ _ _ _ h => h.elim, fun _ _ _ _ _ _ _ _ _ _ _ _ _ h => h.elim⟩, gm, F.kp, F.binds (fun _ _ _ _ _ _ us hl => match us, hl with | [_, _, _], _ => rfl), .nil⟩
theorem ok_stm (T : Top K mg CB CP CT) (n : Nat) (C_law_any_block : C8.Cal P w K mg base (3 + 2 * n) "_law_any_block" (spBelow K n) []) : C8.Cal P w K mg base (4 + 2 * n) "_law_any_statement" (spStm K n) [] := by
  have C_law_draw : C8.Cal P w K mg base 1 "_law_draw" spDraw [] := ok_draw T
  have C_law_any_atom : C8.Cal P w K mg base 2 "_law_any_atom" spAtom [] := ok_atom T
  have C_law_any_flat : C8.Cal P w K mg base 3 "_law_any_flat" (spFlat K) [] := ok_flat T
  obtain ⟨f, fd, F, gm⟩ := T.h_l_any_statement
  refine ⟨f, fd, ["_law_deal_here", "_law_world", "_law_deep"], [], ?_, gm, F.kp, F.binds (fun _ _ _ _ _ _ us hl => match us, hl with | [_, _, _], _ => rfl), .nil⟩
  rw [show 4 + 2 * n = (3 + 2 * n) + 1 by omega]
  refine F.ok scStm (fun vs H Q E h => ?_) (fun cdv A outer s H vs Q E hr h => ?_)
  · obtain ⟨d, l, wd, ln, ns, m, dp, rfl, _⟩ := h
    rfl
  · obtain ⟨d, l, wd, ln, ns, m, dp, rfl, edp, G, hm, k⟩ := h
    subst edp
    have hu := hu_of hr
    refine ⟨_, (pss_cons (ps_set (i := 3) scStm.nd rfl (Or.inl rfl) (C8.pe_c C_law_draw hr (by omega) rfl (pa_cons (pv 0) (pa_cons pe_int pa_nil))))
  (pss_cons (ps_par (by rfl) scStm.nd (i := 4) (j := 5) rfl rfl (by decide) rfl rfl (pa_cons (pe_ix ix_list (pe_dget hu (pv 1) pe_str (fun _ _ => rfl)) (C8.pe_c C_law_draw hr (by omega) rfl (pa_cons (pv 0) (pa_cons (pe_callB call_len_seq (by rfl) T.n_len (by decide +kernel) (pa_cons (pe_dget hu (pv 1) pe_str (fun _ _ => rfl)) pa_nil)) pa_nil))) (fun _ _ => rfl)) (pa_cons (C8.pe_c C_law_any_atom hr (by omega) rfl (pa_cons (pv 0) (pa_cons (pv 1) pa_nil))) pa_nil)) (by rfl))
  (pss_cons (ps_if (PW.pt (pw_or (pt_cmpR op_lt (pv 2) pe_int (nomark _)) (pw_or1 (pt_cmpR op_lt (pv 3) pe_int (nomark _)))))
    (pss_one (ps_ret (C8.pe_c C_law_any_flat hr (by omega) rfl (pa_cons (pv 0) (pa_cons (pv 1) (pa_cons (pe_op op_mod (pv 3) pe_int) (pa_cons (pv 4) pa_nil)))))))
    pss_nil)
  (pss_cons (ps_if (pt_cmpR op_lt (pv 3) pe_int (nomark _))
    (pss_cons (ps_setLc (i := 6) (own := [("_law_k", 8)]) rfl scStm.nd rfl rfl (sw_true rfl rfl rfl (by decide +kernel)) (pi_range1 rfl T.n_range (pa_cons (C8.pe_c C_law_draw hr (by omega) rfl (pa_cons (pv 0) (pa_cons pe_int pa_nil))) pa_nil)) (blkOk_by (own := [("_law_k", 8)]) (N := ["_law_deal_here", "_law_world", "_law_deep", "_law_way", "_law_x", "_law_a", "_law_params", "_law_one", "_law_k"]) (sc := defScope s_l_any_statement) (by decide +kernel)) (fun _ _ _ _ _ => (pg_name (i := 8) scStm.nd rfl (Or.inl rfl))) (fun _ _ _ _ _ => pts_nil) (fun _ _ _ _ _ => (pe_ix (Fb.ixL K rfl) (pe_dget hu (pv 1) pe_str (fun _ _ => rfl)) (C8.pe_c C_law_draw hr (by omega) rfl (pa_cons (pv 0) (pa_cons (pe_callB (Fb.lenK K rfl) (by rfl) T.n_len (by decide +kernel) (pa_cons (pe_dget hu (pv 1) pe_str (fun _ _ => rfl)) pa_nil)) pa_nil))) (fun _ _ => rfl))))
  (pss_one (ps_ret (pe_tup (pa_cons pe_str (pa_cons (pv 4) (pa_cons (pe_callTy call_tuple_of (by rfl) T.n_tuple (by decide +kernel) (pa_cons (pv 6) pa_nil)) (pa_cons (C8.pe_c C_law_any_block hr (by omega) rfl (pa_cons (pv 0) (pa_cons (pv 1) (pa_cons (pe_op op_sub (pv 2) pe_int) pa_nil)))) pa_nil))))))))
    pss_nil)
  (pss_cons (ps_if (pt_cmpR op_eq (pv 3) pe_int (nomark _))
    (pss_cons (ps_set (i := 7) scStm.nd rfl (Or.inl rfl) (C8.pe_c C_law_any_block hr (by omega) rfl (pa_cons (pv 0) (pa_cons (pv 1) (pa_cons (pe_op op_sub (pv 2) pe_int) pa_nil)))))
  (pss_one (ps_ret (pe_tup (pa_cons pe_str (pa_cons (pv 5) (pa_cons (pv 7) (pa_cons (C8.pe_c C_law_any_block hr (by omega) rfl (pa_cons (pv 0) (pa_cons (pv 1) (pa_cons (pe_op op_sub (pv 2) pe_int) pa_nil)))) pa_nil))))))))
    pss_nil)
  (pss_cons (ps_if (pt_cmpR op_eq (pv 3) pe_int (nomark _))
    (pss_one (ps_ret (pe_tup (pa_cons pe_str (pa_cons (pv 5) (pa_cons (C8.pe_c C_law_any_block hr (by omega) rfl (pa_cons (pv 0) (pa_cons (pv 1) (pa_cons (pe_op op_sub (pv 2) pe_int) pa_nil)))) pa_nil))))))
    pss_nil)
  (pss_one (ps_ret (pe_tup (pa_cons pe_str (pa_cons (pe_ix ix_list (pe_lst (pa_cons pe_str (pa_cons pe_str pa_nil))) (pe_op op_sub (pv 3) pe_int) (fun _ _ => rfl)) (pa_cons (pv 4) (pa_cons (pv 5) (pa_cons (C8.pe_c C_law_any_block hr (by omega) rfl (pa_cons (pv 0) (pa_cons (pv 1) (pa_cons (pe_op op_sub (pv 2) pe_int) pa_nil)))) pa_nil)))))))))))))), ?_⟩
    -- way
    refine ⟨_, rfl, d, l, _, rfl, G.dl, by decide, by decide, fun way H1 w0 w1 D1 K1 => ?_⟩
    have G1 := G.dealt D1 K1
    have z0 := G1.n0
    have z1 := G1.n1
    -- x, a
    refine ⟨_, rfl, wd, _, rfl, gw_names G1.wa, _, rfl, _, rfl, wd, _, rfl, gw_names G1.wa, ln, _, rfl, .inl (SqL.of G1.na), d, l, _, rfl, D1, by rw [List.length_map]; omega, by rw [List.length_map]; omega, fun q H2 q0 q1 D2 K2 => ?_⟩
    have G2 := G1.dealt D2 K2
    obtain ⟨v, hv, mv⟩ := atI_ok (xs := ns.map V.str) (i := q) q0 q1
    refine ⟨ln, _, q, v, rfl, rfl, SqL.of G2.na, hv, ?_⟩
    obtain ⟨x, mx, rfl⟩ := List.mem_map.mp mv
    have hx := G2.gd x mx
    refine ⟨_, rfl, _, rfl, d, l, wd, ln, ns, m, rfl, G2, fun va da H3 aa G3 M3 => ⟨_, _, rfl, ?_⟩⟩
    have M03 : Mod [d, l, wd] H H3 := (K1.mod.trans K2.mod).trans M3
    -- flat
    have flat : ∀ {H4 : Hp} {Q4 : VK}, H4 = H3 → Q4 = Q → spFlat K [.ref d, .ref wd, .int (way % 6), .str x] H4 Q4 E0 := fun {H4 Q4} e1 e2 => by
      subst e1
      subst e2
      exact ⟨d, l, wd, ln, ns, m, way % 6, x, rfl, G3, mod_lo (by decide), mod_hi (by decide), hx, fun v s H4 dv gs n1 dp4 G4 M4 => k v s H4 m dv gs (Nat.le_refl _) (by omega) (by omega) G4 (M03.trans M4)⟩
    cases n with
    | zero =>
      refine ⟨_, rfl, _, _, rfl, rfl, _, rfl, boolT (by decide) ?_⟩
      exact iteT ⟨_, rfl, _, rfl, _, rfl, _, _, rfl, rfl, (by decide : (0 : Int) < 6), _, rfl, flat rfl rfl⟩
    | succ n =>
      refine ⟨_, rfl, _, _, rfl, rfl, _, rfl, boolF (decide_eq_false (by omega)) ?_⟩
      refine ⟨_, rfl, _, _, rfl, rfl, _, rfl, ite2 (fun e => ?_) (fun e => ?_)⟩
      · exact ⟨_, rfl, _, rfl, _, rfl, _, _, rfl, rfl, (by decide : (0 : Int) < 6), _, rfl, flat rfl rfl⟩
      have e6 : ¬ way < 6 := fun z => e (decide_eq_true z)
      -- way < 8
      refine ⟨_, rfl, _, _, rfl, rfl, _, rfl, ite2 (fun e => ?_) (fun e => ?_)⟩
      · refine ⟨_, rfl, d, l, _, rfl, G3.dl, by decide, by decide, fun r H4 r0 r1 D4 K4 => ⟨r, rfl, by omega, by omega, fun p np => lc_range (lo := 0) (n := r.toNat) (fun i H5 => GenAt H5 d l wd ln ns m ∧ Mod [d, l, wd] H H5 ∧ ∃ ps : List Str, H5 p = some (.lst (ps.map V.str)) ∧ ps.length = i ∧ ∀ y ∈ ps, nm y) ⟨(G3.dealt D4 K4).same (same_new np), (M03.trans K4.mod).trans (Mod.of (same_new np)), [], upd_same, rfl, fun _ z => nomatch z⟩ ?_ ?_⟩⟩
        · rintro i H5 hi ⟨G5, M5, ps, hp, lps, ops⟩
          have hfr := (G3.dealt D4 K4).fresh np
          have ho := out3 (G3.dealt D4 K4) np
          refine ⟨rfl, _, rfl, wd, _, rfl, gw_names G5.wa, _, rfl, _, rfl, wd, _, rfl, gw_names G5.wa, ln, _, rfl, .inl (SqL.of G5.na), d, l, _, rfl, G5.dl, by rw [List.length_map]; omega, by rw [List.length_map]; omega, fun q6 H6 q60 q61 D6 K6 => ?_⟩
          have G6 := G5.dealt D6 K6
          obtain ⟨v6, hv6, mv6⟩ := atI_ok (xs := ns.map V.str) (i := q6) q60 q61
          obtain ⟨x6, mx6, rfl⟩ := List.mem_map.mp mv6
          refine ⟨ln, _, q6, _, rfl, rfl, SqL.of G6.na, hv6, _, (K6.mod (wd := wd)) p _ hp ho, small1000 (by rw [List.length_map]; omega), G6.upd hfr, (M5.trans K6.mod).put (.inr (free3 (m := m) (G3.dealt D4 K4) (M03.trans K4.mod) np)), ps ++ [x6], ?_, ?_, ?_⟩
          · rw [upd_same, snoc_strs]
          · rw [List.length_append, lps]
            rfl
          · intro y hy
            rcases List.mem_append.mp hy with z | z
            · exact ops y z
            · rw [List.mem_singleton.mp z]
              exact G6.gd x6 mx6
        · rintro H5 ⟨G5, M5, ps, hp, lps, ops⟩
          refine ⟨_, rfl, _, rfl, p, _, rfl, .inl ⟨SqL.of hp, fun t nt => ⟨_, rfl, _, rfl, _, rfl, _, _, rfl, rfl, d, l, wd, ln, ns, m, _, rfl, by omega, G5.same (same_new nt), hm, fun vb b H6 m' db gb hm' nb db2 G6 M6 => ⟨fit (show 4 ≤ 1000 by decide), fun t2 nt2 => ?_⟩⟩⟩⟩
          have ht6 : H6 t = some (.tup (ps.map V.str)) := M6 t _ upd_same (out3 G5 nt)
          obtain ⟨bA, bvs, rfl, _, _⟩ := view_tup db
          have s7 := same_new (o := .tup [.str "fn", .str x, .ref t, .ref bA]) nt2
          refine k _ (.fn x ps b) _ m' ?_ ?_ hm' ?_ ?_ (G6.same s7) ((M5.trans (Mod.of (same_new nt))).trans (M6.trans (Mod.of s7)))
          · rw [dS]
            exact .tup (SqT.of upd_same) (.cons (.str _) (.cons (.str _) (.cons (.tup (SqT.of (s7 _ _ ht6)) (dps_strs ps)) (.cons (dp_ext (Same.ext s7) _ _ db (noL_blk gb)) .nil))))
          · rw [goodS]
            exact ⟨hx, by omega, ops, gb⟩
          · simp only [nS]
            omega
          · rw [dS]
            simp only [PyData.depth, PyData.depthAll, dep_ps]
            omega
      have e8 : ¬ way < 8 := fun z => e (decide_eq_true z)
      -- way == 8
      refine ⟨_, rfl, rfl, _, rfl, ite2 (fun e => ?_) (fun e => ?_)⟩
      · refine ⟨_, rfl, _, rfl, _, rfl, _, _, rfl, rfl, d, l, wd, ln, ns, m, _, rfl, by omega, G3, hm, fun v1 b1 H4 m1 db1 gb1 hm1 nb1 dd1 G4 M4 => ?_⟩
        refine ⟨_, rfl, _, rfl, _, rfl, _, rfl, _, rfl, _, _, rfl, rfl, d, l, wd, ln, ns, m1, _, rfl, by omega, G4, by omega, fun v2 b2 H5 m2 db2 gb2 hm2 nb2 dd2 G5 M5 => ⟨fit (show 4 ≤ 1000 by decide), fun t nt => ?_⟩⟩
        obtain ⟨a1, vs1, rfl, _, _⟩ := view_tup db1
        obtain ⟨a2, vs2, rfl, _, _⟩ := view_tup db2
        have s6 := same_new (o := .tup [.str "if", va, .ref a1, .ref a2]) nt
        refine k _ (.ite da b1 b2) _ m2 ?_ ?_ (by omega) ?_ ?_ (G5.same s6) (M03.trans (M4.trans (M5.trans (Mod.of s6))))
        · rw [dS]
          exact .tup (SqT.of upd_same) (.cons (.str _) (.cons aa.dp (.cons (dp_ext ((G4.ext M5).trans (Same.ext s6)) _ _ db1 (noL_blk gb1)) (.cons (dp_ext (Same.ext s6) _ _ db2 (noL_blk gb2)) .nil))))
        · rw [goodS]
          exact ⟨aa.lf, gb1, gb2⟩
        · simp only [nS]
          omega
        · rw [dS]
          simp only [PyData.depth, PyData.depthAll, at_dep aa]
          omega
      have e9 := int_not e
      -- way == 9
      refine ⟨_, rfl, rfl, _, rfl, ite2 (fun e => ?_) (fun e => ?_)⟩
      · refine ⟨_, rfl, _, rfl, _, rfl, _, rfl, _, _, rfl, rfl, d, l, wd, ln, ns, m, _, rfl, by omega, G3, hm, fun v1 b1 H4 m1 db1 gb1 hm1 nb1 dd1 G4 M4 => ⟨fit (show 3 ≤ 1000 by decide), fun t nt => ?_⟩⟩
        obtain ⟨a1, vs1, rfl, _, _⟩ := view_tup db1
        have s6 := same_new (o := .tup [.str "while", va, .ref a1]) nt
        refine k _ (.whl da b1) _ m1 ?_ ?_ hm1 ?_ ?_ (G4.same s6) (M03.trans (M4.trans (Mod.of s6)))
        · rw [dS]
          exact .tup (SqT.of upd_same) (.cons (.str _) (.cons aa.dp (.cons (dp_ext (Same.ext s6) _ _ db1 (noL_blk gb1)) .nil)))
        · rw [goodS]
          exact ⟨aa.lf, gb1⟩
        · simp only [nS]
          omega
        · rw [dS]
          simp only [PyData.depth, PyData.depthAll, at_dep aa]
          omega
      have e10 := int_not e
      -- times
      refine ⟨fit (show 2 ≤ 1000 by decide), fun p np => ⟨_, rfl, _, _, rfl, rfl, ?_⟩⟩
      have s4 := same_new (o := .lst [.str "own", .str "one"]) np
      have hmode : ∃ one : Bool, atI [V.str ("own" : Str), V.str ("one" : Str)] (way - 10) = some (.str (modeS one)) := by
        have hwy : way = 10 ∨ way = 11 := by omega
        rcases hwy with e | e <;> subst e
        · exact ⟨false, atI_nat (j := 0) rfl⟩
        · exact ⟨true, atI_nat (j := 1) rfl⟩
      obtain ⟨one, hone⟩ := hmode
      refine ⟨p, _, _, _, rfl, rfl, SqL.of upd_same, hone, _, rfl, _, rfl, _, rfl, _, rfl, _, rfl, _, _, rfl, rfl, d, l, wd, ln, ns, m, _, rfl, by omega, G3.same s4, hm, fun v1 b1 H4 m1 db1 gb1 hm1 nb1 dd1 G4 M4 => ⟨fit (show 5 ≤ 1000 by decide), fun t nt => ?_⟩⟩
      obtain ⟨a1, vs1, rfl, _, _⟩ := view_tup db1
      have s6 := same_new (o := .tup [.str "times", .str (modeS one), .str x, va, .ref a1]) nt
      refine k _ (.tms one x da b1) _ m1 ?_ ?_ hm1 ?_ ?_ (G4.same s6) (M03.trans ((Mod.of s4).trans (M4.trans (Mod.of s6))))
      · rw [dS]
        exact .tup (SqT.of upd_same) (.cons (.str _) (.cons (.str _) (.cons (.str _) (.cons aa.dp (.cons (dp_ext (Same.ext s6) _ _ db1 (noL_blk gb1)) .nil)))))
      · rw [goodS]
        exact ⟨hx, aa.lf, gb1⟩
      · simp only [nS]
        omega
      · rw [dS]
        simp only [PyData.depth, PyData.depthAll, at_dep aa]
        omega
end
end K06
set_option Elab.async false
set_option linter.all false
set_option maxRecDepth 100000
set_option maxHeartbeats 4000000
namespace K06
open PySem PySem.Spec PyProof.Rows L2 Fb
def spProg (K : PySem.W.Frag) : Sp := fun vs H Q _ => ∃ (d l : Addr), vs = [.ref d] ∧ DealAt H d l ∧ ∀ v b H', Dp K H' v (.tuple (dB b)) → goodB b → nB b ≤ 58 → PyData.depthAll (dB b) ≤ 18 → DealAt H' d l → Keep d l H H' → Q v H'
section
variable {P : Program} {w : World} {K : PySem.W.Frag} {mg : Str → Option Value} {base : Heap} {CB CP CT : Addr}
theorem scBlk : FnScope ["_law_deal_here", "_law_world", "_law_deep", "_law_found", "_law_k"] ["_law_deal_here", "_law_world", "_law_deep"] (defScope s_l_any_block) := ⟨rfl, rfl, rfl, by decide +kernel, rfl, by decide +kernel, by decide +kernel⟩
theorem ok_blk (T : Top K mg CB CP CT) (n : Nat) (C_law_any_statement : C8.Cal P w K mg base (4 + 2 * n) "_law_any_statement" (spStm K n) []) : C8.Cal P w K mg base (5 + 2 * n) "_law_any_block" (spBlk K n) [] := by
  have C_law_draw : C8.Cal P w K mg base 1 "_law_draw" spDraw [] := ok_draw T
  obtain ⟨f, fd, F, gm⟩ := T.h_l_any_block
  refine ⟨f, fd, ["_law_deal_here", "_law_world", "_law_deep"], [], ?_, gm, F.kp, F.binds (fun _ _ _ _ _ _ us hl => match us, hl with | [_, _, _], _ => rfl), .nil⟩
  rw [show 5 + 2 * n = (4 + 2 * n) + 1 by omega]
  refine F.ok scBlk (fun vs H Q E h => ?_) (fun cdv A outer s H vs Q E hr h => ?_)
  · obtain ⟨d, l, wd, ln, ns, m, dp, rfl, _⟩ := h
    rfl
  · obtain ⟨d, l, wd, ln, ns, m, dp, rfl, edp, G, hm, k⟩ := h
    have hu := hu_of hr
    refine ⟨_, (pss_cons (ps_set (i := 3) scBlk.nd rfl (Or.inl rfl) (pe_lst pa_nil))
  (pss_cons (ps_for PassesOwn.never rfl (pi_range1 rfl T.n_range (pa_cons (C8.pe_c C_law_draw hr (by omega) rfl (pa_cons (pv 0) (pa_cons pe_int pa_nil))) pa_nil)) (pg_name (i := 4) scBlk.nd rfl (Or.inl rfl))
    (pss_one (ps_if (pt_cmpR op_gt (pe_dget hu (pv 1) pe_str (fun _ _ => rfl)) pe_int (nomark _))
    (pss_cons (ps_dput hu (pv 1) pe_str (pe_op op_sub (pe_dget hu (pv 1) pe_str (fun _ _ => rfl)) pe_int) rfl)
  (pss_one (ps_expr (pe_bm PySem.F.plainAttrs_list PySem.F.slot_list_append PySem.F.type_list_append mt_append (pv 3) (pa_cons (C8.pe_c C_law_any_statement hr (by omega) rfl (pa_cons (pv 0) (pa_cons (pv 1) (pa_cons (pv 2) pa_nil)))) pa_nil)))))
    pss_nil)))
  (pss_one (ps_ret (pe_callTy call_tuple_of (by rfl) T.n_tuple (by decide +kernel) (pa_cons (pv 3) pa_nil)))))), ?_⟩
    refine ⟨fit (by decide), fun p np => ?_⟩
    have hfr := G.fresh np
    have ho := out3 G np
    refine ⟨_, rfl, d, l, _, rfl, (G.same (same_new np)).dl, by decide, by decide, fun r H1 r0 r1 D1 K1 => ⟨r, rfl, by omega, by omega, for_range (lo := 0) (n := r.toNat) (fun i σ H2 => ∃ (y : Option V) (b : Blk) (m' : Nat) (vs : List V), σ = [some (.ref d), some (.ref wd), some (.int dp), some (.ref p), y] ∧ GenAt H2 d l wd ln ns m' ∧ Mod [d, l, wd] H H2 ∧ H2 p = some (.lst vs) ∧ DpAll K H2 vs (dB b) ∧ goodB b ∧ m' ≤ m ∧ nB b ≤ m - m' ∧ PyData.depthAll (dB b) ≤ 2 * n + 2 ∧ vs.length ≤ i) ⟨none, .nil, m, [], rfl, (G.same (same_new np)).dealt D1 K1, (Mod.of (same_new np)).trans K1.mod, (K1.mod (wd := wd)) _ _ upd_same ho, .nil, by rw [goodB]; exact True.intro, Nat.le_refl _, Nat.zero_le _, Nat.zero_le _, Nat.le_refl _⟩ ?_ ?_⟩⟩
    · rintro i σ H2 hi ⟨y, b, m', vs, rfl, G2, M2, hp2, dv, gb, hm', nb, db, lv⟩
      refine ⟨_, rfl, wd, _, rfl, gw_left G2.wa, _, _, rfl, rfl, _, rfl, ite2 (fun e => ?_) (fun e => ?_)⟩
      · have hpos : 0 < m' := by
          have := of_decide_eq_true e
          omega
        have em : ((m' : Int) - 1) = ((m' - 1 : Nat) : Int) := by omega
        refine ⟨_, rfl, wd, _, rfl, gw_left G2.wa, _, _, rfl, rfl, _, rfl, wd, L2.upd H2 wd (.dK (wD ln (m' - 1))), rfl, (by show DPut H2 wd _ (V.int ((m' : Int) - 1)) _; rw [em]; exact uw_left G2.wa), ?_⟩
        have G3 : GenAt (L2.upd H2 wd (.dK (wD ln (m' - 1)))) d l wd ln ns (m' - 1) := G2.left
        have npw : p ≠ wd := fun z => hfr (by rw [z]; simp)
        have hp3 : (L2.upd H2 wd (.dK (wD ln (m' - 1)))) p = some (.lst vs) := by rw [upd_ne npw]; exact hp2
        have M3 : Mod [d, l, wd] H2 (L2.upd H2 wd (.dK (wD ln (m' - 1)))) := (Mod.refl _ _).put (.inl (by simp))
        refine ⟨_, rfl, .inl ⟨rfl, _, SqL.of hp3⟩, _, rfl, _, rfl, _, rfl, d, l, wd, ln, ns, m' - 1, dp, rfl, edp, G3, by omega, fun v s H4 m4 dv4 gs hm4 ns4 ds4 G4 M4 => ?_⟩
        have hp4 := M4 p _ hp3 ho
        have ex := (G2.ext (M3.trans M4)).trans (ext_put (o := .lst (vs ++ [v])) hp4)
        refine ⟨p, vs, v, rfl, rfl, hp4, small1000 (by omega), _, snoc b s, m4, vs ++ [v], rfl, G4.upd hfr, (M2.trans (M3.trans M4)).put (.inr np), upd_same, ?_, goodB_snoc gb gs, by omega, ?_, ?_, ?_⟩
        · rw [dB_snoc]
          exact dps_snoc (dps_ext ex _ _ dv (noL_dB b gb)) (dp_ext (ext_put hp4) _ _ dv4 (noL_dS s gs))
        · rw [nB_snoc]
          omega
        · rw [dB_snoc, dep_snoc]
          omega
        · rw [List.length_append]
          show vs.length + 1 ≤ i + 1
          omega
      · exact ⟨_, b, m', vs, rfl, G2, M2, hp2, dv, gb, hm', nb, db, by omega⟩
    · rintro σ H2 ⟨y, b, m', vs, rfl, G2, M2, hp2, dv, gb, hm', nb, db, lv⟩
      refine ⟨_, rfl, p, vs, rfl, .inl ⟨SqL.of hp2, fun t nt => ?_⟩⟩
      exact k _ b _ m' (.tup (SqT.of upd_same) (dps_ext (ext_new nt) _ _ dv (noL_dB b gb))) gb hm' nb db (G2.same (same_new nt)) (M2.trans (Mod.of (same_new nt)))
theorem ok_both (T : Top K mg CB CP CT) : ∀ n : Nat, C8.Cal P w K mg base (4 + 2 * n) "_law_any_statement" (spStm K n) [] ∧ C8.Cal P w K mg base (5 + 2 * n) "_law_any_block" (spBlk K n) []
  | 0 => by
    have h := ok_stm (P := P) (w := w) (base := base) T 0 (no_block T _)
    exact ⟨h, ok_blk T 0 h⟩
  | n + 1 => by
    have ih := (ok_both T n).2
    have h := ok_stm (P := P) (w := w) (base := base) T (n + 1) (by
      rw [show 3 + 2 * (n + 1) = 5 + 2 * n by omega]
      exact ih)
    exact ⟨h, ok_blk T (n + 1) h⟩
theorem scProg : FnScope ["_law_deal_here", "_law_world", "_law_found"] ["_law_deal_here"] (defScope s_l_any_program) := ⟨rfl, rfl, rfl, by decide +kernel, rfl, by decide +kernel, by decide +kernel⟩
theorem ok_prog (T : Top K mg CB CP CT) : C8.Cal P w K mg base 21 "_law_any_program" (spProg K) [] := by
  have C_law_draw : C8.Cal P w K mg base 1 "_law_draw" spDraw [] := ok_draw T
  have C_law_words : C8.Cal P w K mg base 2 "_law_words" spWords [] := ok_words T
  have C_law_any_statement : C8.Cal P w K mg base 20 "_law_any_statement" (spStm K 8) [] := (ok_both T 8).1
  obtain ⟨f, fd, F, gm⟩ := T.h_l_any_program
  refine ⟨f, fd, ["_law_deal_here"], [], ?_, gm, F.kp, F.binds (fun _ _ _ _ _ _ us hl => match us, hl with | [_], _ => rfl), .nil⟩
  refine F.ok scProg (fun vs H Q E h => ?_) (fun cdv A outer s H vs Q E hr h => ?_)
  · obtain ⟨d, l, rfl, _⟩ := h
    rfl
  · obtain ⟨d, l, rfl, hD, k⟩ := h
    have hu := hu_of hr
    refine ⟨_, (pss_cons (ps_set (i := 1) scProg.nd rfl (Or.inl rfl) (pe_disp (pps_cons pe_str (C8.pe_c C_law_words hr (by omega) rfl (pa_cons (pv 0) (pa_cons (pe_op op_add pe_int (C8.pe_c C_law_draw hr (by omega) rfl (pa_cons (pv 0) (pa_cons pe_int pa_nil)))) pa_nil))) (pps_cons pe_str (pe_ix ix_list (pe_lst (pa_cons pe_int (pa_cons pe_int (pa_cons pe_int (pa_cons pe_int pa_nil))))) (C8.pe_c C_law_draw hr (by omega) rfl (pa_cons (pv 0) (pa_cons pe_int pa_nil))) (fun _ _ => rfl)) pps_nil)) (by rfl) (by rfl) (fun z => by cases z) (by decide)))
  (pss_cons (ps_set (i := 2) scProg.nd rfl (Or.inl rfl) (pe_lst pa_nil))
  (C8.pss_cut (ps_while PassesOwn.never (pt_cmpR op_gt (pe_dget hu (pv 1) pe_str (fun _ _ => rfl)) pe_int (nomark _)) (pss_cons (ps_dput hu (pv 1) pe_str (pe_op op_sub (pe_dget hu (pv 1) pe_str (fun _ _ => rfl)) pe_int) rfl)
  (pss_one (ps_expr (pe_bm PySem.F.plainAttrs_list PySem.F.slot_list_append PySem.F.type_list_append mt_append (pv 2) (pa_cons (C8.pe_c C_law_any_statement hr (by omega) rfl (pa_cons (pv 0) (pa_cons (pv 1) (pa_cons pe_int pa_nil)))) pa_nil))))))
  (pss_one (ps_ret (pe_callTy call_tuple_of (by rfl) T.n_tuple (by decide +kernel) (pa_cons (pv 2) pa_nil))))))), ?_⟩
    intro wd nwd
    have s0 := same_new (o := .dK []) nwd
    have D0 := hD.same s0
    refine ⟨_, rfl, _, rfl, d, l, _, rfl, D0, by decide, by decide, fun r H1 r0 r1 D1 K1 => ⟨_, _, rfl, rfl, d, l, _, rfl, D1, by omega, by omega, fun ln ns H2 nln hln lns gns D2 K2 => ⟨fit (show 4 ≤ 1000 by decide), fun q nq => ⟨_, rfl, d, l, _, rfl, D2.same (same_new nq), by decide, by decide, fun j H3 j0 j1 D3 K3 => ?_⟩⟩⟩⟩
    obtain ⟨v, hv, mv⟩ := atI_ok (xs := ([0, 3, 12, 58] : List Nat).map fun z : Nat => V.int (z : Int)) (i := j) j0 (by rw [List.length_map]; exact j1)
    have hq3 : H3 q = some (.lst (([0, 3, 12, 58] : List Nat).map fun z : Nat => V.int (z : Int))) := K3 q _ upd_same (D2.d_ne nq) (D2.l_ne nq)
    obtain ⟨mN, mm, rfl⟩ := List.mem_map.mp mv
    have hmN : mN ≤ 58 := by
      simp only [List.mem_cons, List.not_mem_nil, or_false] at mm
      rcases mm with e | e | e | e <;> (subst e; decide)
    have K03 : Keep d l (L2.upd H wd (.dK [])) H3 := K1.trans (K2.trans ((Keep.of (same_new nq)).trans K3))
    have wdd := hD.d_ne nwd
    have wdl := hD.l_ne nwd
    have hwd3 : H3 wd = some (.dK []) := K03 wd _ upd_same wdd wdl
    have hln3 : H3 ln = some (.lst (ns.map V.str)) := ((Keep.of (same_new nq)).trans K3) ln _ hln (D1.d_ne nln) (D1.l_ne nln)
    have nlw : ln ≠ wd := fun z => by rw [z, hwd3] at hln3; cases hln3
    refine ⟨q, _, j, _, rfl, rfl, SqL.of hq3, hv, hwd3, wD ln mN, rfl, by show 2 ≤ 15; decide, ?_⟩
    rw [merge_w]
    have G4 : GenAt (L2.upd H3 wd (.dK (wD ln mN))) d l wd ln ns mN := ⟨D3.upd wdd wdl, upd_same, by rw [upd_ne nlw]; exact hln3, by omega, by omega, gns, wdd, D1.l_ne nln⟩
    have M4 : Mod [d, l, wd] H (L2.upd H3 wd (.dK (wD ln mN))) := ((Mod.of s0).trans K03.mod).put (.inl (by simp))
    -- found = []
    refine ⟨fit (by decide), fun p np => ?_⟩
    have hfr := G4.fresh np
    have ho := out3 G4 np
    have npH : H p = none := free3 (m := mN) G4 M4 np
    have G5 := G4.same (same_new (o := .lst []) np)
    have M5 := M4.trans (Mod.of (same_new (o := .lst []) np))
    refine ⟨fun σ H6 => ∃ (b : Blk) (vs : List V) (m' : Nat), σ = [some (.ref d), some (.ref wd), some (.ref p)] ∧ GenAt H6 d l wd ln ns m' ∧ Mod [d, l, wd] H H6 ∧ H6 p = some (.lst vs) ∧ DpAll K H6 vs (dB b) ∧ goodB b ∧ nB b ≤ 58 ∧ PyData.depthAll (dB b) ≤ 18, ?_, ?_⟩
    · refine ⟨fun n σ H6 => ∃ (b : Blk) (vs : List V) (m' : Nat), n = m' ∧ σ = [some (.ref d), some (.ref wd), some (.ref p)] ∧ GenAt H6 d l wd ln ns m' ∧ Mod [d, l, wd] H H6 ∧ H6 p = some (.lst vs) ∧ DpAll K H6 vs (dB b) ∧ goodB b ∧ m' ≤ mN ∧ nB b ≤ mN - m' ∧ PyData.depthAll (dB b) ≤ 18 ∧ vs.length ≤ mN - m', ⟨mN, .nil, [], mN, rfl, rfl, G5, M5, upd_same, .nil, by rw [goodB]; exact True.intro, Nat.le_refl _, Nat.zero_le _, Nat.zero_le _, Nat.zero_le _⟩, ?_⟩
      rintro n σ H6 ⟨b, vs, m', rfl, rfl, G6, M6, hp6, dv, gb, hm', nb, db, lv⟩
      refine ⟨_, rfl, wd, _, rfl, gw_left G6.wa, _, _, rfl, rfl, _, rfl, ite2 (fun e => ?_) (fun e => ?_)⟩
      · have hpos : 0 < n := by
          have := of_decide_eq_true e
          omega
        have em : ((n : Int) - 1) = ((n - 1 : Nat) : Int) := by omega
        refine ⟨fun σ' H' => ∃ (b : Blk) (vs : List V) (m' : Nat), m' < n ∧ σ' = [some (.ref d), some (.ref wd), some (.ref p)] ∧ GenAt H' d l wd ln ns m' ∧ Mod [d, l, wd] H H' ∧ H' p = some (.lst vs) ∧ DpAll K H' vs (dB b) ∧ goodB b ∧ m' ≤ mN ∧ nB b ≤ mN - m' ∧ PyData.depthAll (dB b) ≤ 18 ∧ vs.length ≤ mN - m', fun σ' H' ⟨b, vs, m', a0, a⟩ => ⟨m', a0, b, vs, m', rfl, a⟩, ?_⟩
        refine ⟨_, rfl, wd, _, rfl, gw_left G6.wa, _, _, rfl, rfl, _, rfl, wd, L2.upd H6 wd (.dK (wD ln (n - 1))), rfl, (by show DPut H6 wd _ (V.int ((n : Int) - 1)) _; rw [em]; exact uw_left G6.wa), ?_⟩
        have G7 : GenAt (L2.upd H6 wd (.dK (wD ln (n - 1)))) d l wd ln ns (n - 1) := G6.left
        have npw : p ≠ wd := fun z => hfr (by rw [z]; simp)
        have hp7 : (L2.upd H6 wd (.dK (wD ln (n - 1)))) p = some (.lst vs) := by rw [upd_ne npw]; exact hp6
        have M7 : Mod [d, l, wd] H6 (L2.upd H6 wd (.dK (wD ln (n - 1)))) := (Mod.refl _ _).put (.inl (by simp))
        refine ⟨_, rfl, .inl ⟨rfl, _, SqL.of hp7⟩, _, rfl, _, rfl, d, l, wd, ln, ns, n - 1, 8, rfl, rfl, G7, by omega, fun v s H8 m8 dv8 gs hm8 ns8 ds8 G8 M8 => ?_⟩
        have hp8 := M8 p _ hp7 ho
        have ex := (G6.ext (M7.trans M8)).trans (ext_put (o := .lst (vs ++ [v])) hp8)
        refine ⟨p, vs, v, rfl, rfl, hp8, small1000 (by omega), snoc b s, vs ++ [v], m8, by omega, rfl, G8.upd hfr, (M6.trans (M7.trans M8)).put (.inr npH), upd_same, ?_, goodB_snoc gb gs, by omega, ?_, ?_, ?_⟩
        · rw [dB_snoc]
          exact dps_snoc (dps_ext ex _ _ dv (noL_dB b gb)) (dp_ext (ext_put hp8) _ _ dv8 (noL_dS s gs))
        · rw [nB_snoc]
          omega
        · rw [dB_snoc, dep_snoc]
          omega
        · rw [List.length_append]
          show vs.length + 1 ≤ _
          omega
      · exact ⟨b, vs, n, rfl, G6, M6, hp6, dv, gb, by omega, db⟩
    rintro σ H6 ⟨b, vs, m', rfl, G6, M6, hp6, dv, gb, nb, db⟩
    refine ⟨_, rfl, p, vs, rfl, .inl ⟨SqL.of hp6, fun t nt => ?_⟩⟩
    refine k _ b _ (.tup (SqT.of upd_same) (dps_ext (ext_new nt) _ _ dv (noL_dB b gb))) gb nb db (G6.same (same_new nt)).dl fun c o e h1 h2 => ?_
    refine same_new nt _ _ (M6 c o e ?_)
    simp only [List.mem_cons, List.not_mem_nil, or_false, not_or]
    exact ⟨h1, h2, ne_of_none e nwd⟩
end
end K06
set_option Elab.async false
set_option linter.all false
set_option maxRecDepth 100000
set_option maxHeartbeats 4000000
namespace K06
open PySem PySem.Spec PyProof.Rows L2 Fb
def okP (b : Blk) : Prop := goodB b ∧ nB b ≤ 60 ∧ PyData.depthAll (dB b) ≤ 36
theorem okP.w {b : Blk} (h : okP b) : wB b ≤ 540 := by
  have := w9B b h.1
  have := h.2.1
  omega
theorem okP.rows {b : Blk} (h : okP b) : RowsOk (final b) := by
  refine rowsB b 0 0 _ h.1 (by decide) ?_ ⟨fun d z => ?_, (fun d z => by cases z), fun d z => ?_⟩
  · have := h.w
    simp only [TS.n, List.length_cons, List.length_nil]
    omega
  · rw [List.mem_singleton.mp z]
    exact sh_rowG (by decide +kernel) (sh_none _ _ (by decide)) (sh_none _ _ (by decide))
  · rw [List.mem_singleton.mp z]
    exact sh_rowB (sh_none _ _ (by decide)) (by decide) (fun p hp => by cases hp)
theorem okP.n {b : Blk} (h : okP b) : (final b).n ≤ 542 := by
  have h1 := w_layB b 0 0 ⟨[], [rowB .none []], [rowG "body" .none .none], []⟩
  have := h.w
  have e : TS.n ⟨[], [rowB .none []], [rowG "body" .none .none], []⟩ = 2 := rfl
  rw [e] at h1
  exact Nat.le_trans h1 (by omega)
def spR_bodies (K : PySem.W.Frag) : Sp := fun vs H Q _ => ∃ (v : V) (b : Blk), vs = [v] ∧ Dp K H v (.tuple (dB b)) ∧ okP b ∧ ∀ l H', Rw K H' l (final b).bd → H l = none → Same H H' → Q (.ref l) H'
def spR_grounds (K : PySem.W.Frag) : Sp := fun vs H Q _ => ∃ (v : V) (b : Blk), vs = [v] ∧ Dp K H v (.tuple (dB b)) ∧ okP b ∧ ∀ l H', Rw K H' l (final b).gr → H l = none → Same H H' → Q (.ref l) H'
def spR_makings (K : PySem.W.Frag) : Sp := fun vs H Q _ => ∃ (v : V) (b : Blk), vs = [v] ∧ Dp K H v (.tuple (dB b)) ∧ okP b ∧ ∀ l H', Rw K H' l (final b).mm → H l = none → Same H H' → Q (.ref l) H'
def spStms (K : PySem.W.Frag) : Sp := fun vs H Q _ => ∃ (v : V) (b : Blk), vs = [v] ∧ Dp K H v (.tuple (dB b)) ∧ okP b ∧ ∀ l H', Rw K H' l ((final b).pl.map (·.1)) → H l = none → Same H H' → Q (.ref l) H'
def spBodyAt (K : PySem.W.Frag) : Sp := fun vs H Q _ => ∃ (v : V) (b : Blk) (k : Nat) (e : PyData × Nat × Nat) (ki : Int), vs = [v, .int ki] ∧ ki = (k : Int) ∧ Dp K H v (.tuple (dB b)) ∧ okP b ∧ (final b).pl[k]? = some e ∧ ∀ H', Same H H' → Q (.int (e.2.2 : Int)) H'
theorem pl_at {K : PySem.W.Frag} {CP : Addr} {H : Hp} : ∀ {vs : List V} {es : List (PyData × Nat × Nat)} {i : Nat} {v : V}, PlAll K CP H vs es → vs[i]? = some v → ∃ e, es[i]? = some e ∧ PlAt K CP H v e
  | _, _, 0, _, .cons a _, h => ⟨_, rfl, by cases h; exact a⟩
  | _, _, i + 1, _, .cons _ t, h => pl_at (i := i) t h
  | _, _, _, _, .nil, h => by cases h
theorem pl_nol {K : PySem.W.Frag} {CP : Addr} {H : Hp} : ∀ {vs : List V} {es : List (PyData × Nat × Nat)}, PlAll K CP H vs es → ∀ e ∈ es, noL e.1 = true
  | _, _, .nil, _, h => by cases h
  | _, _, .cons ⟨_, _, _, _, _, _, n⟩ t, e, h => by
    rcases List.mem_cons.mp h with q | q
    · rw [q]; exact n
    · exact pl_nol t e q
theorem nol_take {es : List (PyData × Nat × Nat)} (h : ∀ e ∈ es, noL e.1 = true) (i : Nat) : noLs ((es.take i).map (·.1)) = true := noLs_all fun d z => by
  obtain ⟨e, he, rfl⟩ := List.mem_map.mp z
  exact h e (List.mem_of_mem_take he)
theorem okP.pl {b : Blk} (h : okP b) : PlOk (final b) := by
  refine plB b 0 0 _ h.1 h.2.1 (by have := h.2.2; omega) (by decide) ?_ (fun e z => by cases z)
  have := h.w
  simp only [TS.n, List.length_cons, List.length_nil]
  omega
theorem okP.pln {b : Blk} (h : okP b) : (final b).pl.length ≤ 60 := by
  have z := lenB b 0 0 ⟨[], [rowB .none []], [rowG "body" .none .none], []⟩
  have := h.2.1
  show (layB b 0 0 ⟨[], [rowB .none []], [rowG "body" .none .none], []⟩).pl.length ≤ 60
  rw [z]
  simp only [List.length_nil]
  omega
section
variable {P : Program} {w : World} {K : PySem.W.Frag} {mg : Str → Option Value} {base : Heap} {CB CP CT : Addr}
theorem sc_bodies : FnScope ["program"] ["program"] (defScope s_bodies) := ⟨rfl, rfl, rfl, by decide +kernel, rfl, by decide +kernel, by decide +kernel⟩
theorem ok_bodies (T : Top K mg CB CP CT) : C8.Cal P w K mg base 6 "bodies" (spR_bodies K) [] := by
  have M_Tree : C8.Mak P w K mg base 4 "Tree" CT (spTInit K CP CT) [] := mk_tree T
  obtain ⟨f, fd0, F, gm⟩ := T.h_bodies
  refine ⟨f, fd0, ["program"], [], ?_, gm, F.kp, F.binds (fun _ _ _ _ _ _ us hl => match us, hl with | [_], _ => rfl), .nil⟩
  refine F.ok sc_bodies (fun vs H Q E h => ?_) (fun cdv A outer s H vs Q E hr h => ?_)
  · obtain ⟨v, b, rfl, _⟩ := h
    rfl
  · obtain ⟨v, b, rfl, hd, ok, k⟩ := h
    obtain ⟨pb, bv, rfl, qb, db⟩ := view_tup hd
    have w0 := ok.w
    refine ⟨_, (pss_one (ps_ret (pe_fld (C8.pe_mk M_Tree hr (by omega) rfl (pa_cons (pv 0) pa_nil)) rfl))), ?_⟩
    refine ⟨_, rfl, fun x dx nx ndx ne => ?_⟩
    have s1 : Same H (L2.upd (L2.upd H dx (.own x)) x (.ins CT dx [])) := (same_new ndx).trans (same_new (show (L2.upd H dx (.own x)) x = none by rw [upd_ne ne.symm]; exact nx))
    refine ⟨x, dx, pb, b, rfl, upd_same, dp_ext (Same.ext s1) _ _ hd (noL_blk ok.1), ok.1, by omega, fun H' lp lb lg lm T' M' fr => ⟨rfl, ?_⟩⟩
    obtain ⟨dT, hself⟩ := T'.ob
    refine ⟨x, CT, dT, _, _, rfl, hself, T.clT, T.nT_body_rows, tF_bodies, k lb H' T'.bd (s1.free (fr lb (by simp))) fun c o e => M' c o (s1 c o e) ?_⟩
    simpa using ne_of_none e nx
theorem sc_grounds : FnScope ["program"] ["program"] (defScope s_grounds) := ⟨rfl, rfl, rfl, by decide +kernel, rfl, by decide +kernel, by decide +kernel⟩
theorem ok_grounds (T : Top K mg CB CP CT) : C8.Cal P w K mg base 6 "grounds" (spR_grounds K) [] := by
  have M_Tree : C8.Mak P w K mg base 4 "Tree" CT (spTInit K CP CT) [] := mk_tree T
  obtain ⟨f, fd0, F, gm⟩ := T.h_grounds
  refine ⟨f, fd0, ["program"], [], ?_, gm, F.kp, F.binds (fun _ _ _ _ _ _ us hl => match us, hl with | [_], _ => rfl), .nil⟩
  refine F.ok sc_grounds (fun vs H Q E h => ?_) (fun cdv A outer s H vs Q E hr h => ?_)
  · obtain ⟨v, b, rfl, _⟩ := h
    rfl
  · obtain ⟨v, b, rfl, hd, ok, k⟩ := h
    obtain ⟨pb, bv, rfl, qb, db⟩ := view_tup hd
    have w0 := ok.w
    refine ⟨_, (pss_one (ps_ret (pe_fld (C8.pe_mk M_Tree hr (by omega) rfl (pa_cons (pv 0) pa_nil)) rfl))), ?_⟩
    refine ⟨_, rfl, fun x dx nx ndx ne => ?_⟩
    have s1 : Same H (L2.upd (L2.upd H dx (.own x)) x (.ins CT dx [])) := (same_new ndx).trans (same_new (show (L2.upd H dx (.own x)) x = none by rw [upd_ne ne.symm]; exact nx))
    refine ⟨x, dx, pb, b, rfl, upd_same, dp_ext (Same.ext s1) _ _ hd (noL_blk ok.1), ok.1, by omega, fun H' lp lb lg lm T' M' fr => ⟨rfl, ?_⟩⟩
    obtain ⟨dT, hself⟩ := T'.ob
    refine ⟨x, CT, dT, _, _, rfl, hself, T.clT, T.nT_ground_rows, tF_grounds, k lg H' T'.gr (s1.free (fr lg (by simp))) fun c o e => M' c o (s1 c o e) ?_⟩
    simpa using ne_of_none e nx
theorem sc_makings : FnScope ["program"] ["program"] (defScope s_makings) := ⟨rfl, rfl, rfl, by decide +kernel, rfl, by decide +kernel, by decide +kernel⟩
theorem ok_makings (T : Top K mg CB CP CT) : C8.Cal P w K mg base 6 "makings" (spR_makings K) [] := by
  have M_Tree : C8.Mak P w K mg base 4 "Tree" CT (spTInit K CP CT) [] := mk_tree T
  obtain ⟨f, fd0, F, gm⟩ := T.h_makings
  refine ⟨f, fd0, ["program"], [], ?_, gm, F.kp, F.binds (fun _ _ _ _ _ _ us hl => match us, hl with | [_], _ => rfl), .nil⟩
  refine F.ok sc_makings (fun vs H Q E h => ?_) (fun cdv A outer s H vs Q E hr h => ?_)
  · obtain ⟨v, b, rfl, _⟩ := h
    rfl
  · obtain ⟨v, b, rfl, hd, ok, k⟩ := h
    obtain ⟨pb, bv, rfl, qb, db⟩ := view_tup hd
    have w0 := ok.w
    refine ⟨_, (pss_one (ps_ret (pe_fld (C8.pe_mk M_Tree hr (by omega) rfl (pa_cons (pv 0) pa_nil)) rfl))), ?_⟩
    refine ⟨_, rfl, fun x dx nx ndx ne => ?_⟩
    have s1 : Same H (L2.upd (L2.upd H dx (.own x)) x (.ins CT dx [])) := (same_new ndx).trans (same_new (show (L2.upd H dx (.own x)) x = none by rw [upd_ne ne.symm]; exact nx))
    refine ⟨x, dx, pb, b, rfl, upd_same, dp_ext (Same.ext s1) _ _ hd (noL_blk ok.1), ok.1, by omega, fun H' lp lb lg lm T' M' fr => ⟨rfl, ?_⟩⟩
    obtain ⟨dT, hself⟩ := T'.ob
    refine ⟨x, CT, dT, _, _, rfl, hself, T.clT, T.nT_making_rows, tF_makings, k lm H' T'.mm (s1.free (fr lm (by simp))) fun c o e => M' c o (s1 c o e) ?_⟩
    simpa using ne_of_none e nx
theorem scStms : FnScope ["program", "place"] ["program"] (defScope s_statements) := ⟨rfl, rfl, rfl, by decide +kernel, rfl, by decide +kernel, by decide +kernel⟩
theorem ok_stms (T : Top K mg CB CP CT) : C8.Cal P w K mg base 6 "statements" (spStms K) [] := by
  have M_Tree : C8.Mak P w K mg base 4 "Tree" CT (spTInit K CP CT) [] := mk_tree T
  obtain ⟨f, fd0, F, gm⟩ := T.h_statements
  refine ⟨f, fd0, ["program"], [], ?_, gm, F.kp, F.binds (fun _ _ _ _ _ _ us hl => match us, hl with | [_], _ => rfl), .nil⟩
  refine F.ok scStms (fun vs H Q E h => ?_) (fun cdv A outer s H vs Q E hr h => ?_)
  · obtain ⟨v, b, rfl, _⟩ := h
    rfl
  · obtain ⟨v, b, rfl, hd, ok, k⟩ := h
    obtain ⟨pb, bv, rfl, qb, db⟩ := view_tup hd
    have w0 := ok.w
    have w60 := ok.pln
    refine ⟨_, (pss_one (ps_ret (pe_lc (own := [("place", 1)]) rfl scStms.nd (pi_list (pe_fld (C8.pe_mk M_Tree hr (by omega) rfl (pa_cons (pv 0) pa_nil)) rfl)) (blkOk_by (own := [("place", 1)]) (N := ["program", "place"]) (sc := defScope s_statements) (by decide +kernel)) (fun _ _ _ _ _ => (pg_name (i := 1) scStms.nd rfl (Or.inl rfl))) (fun _ _ _ _ _ => pts_nil) (fun _ _ _ _ _ => (Fb.pe_fldK K rfl (pv 1) rfl))))), ?_⟩
    refine ⟨_, rfl, fun x dx nx ndx ne => ?_⟩
    have s1 : Same H (L2.upd (L2.upd H dx (.own x)) x (.ins CT dx [])) := (same_new ndx).trans (same_new (show (L2.upd H dx (.own x)) x = none by rw [upd_ne ne.symm]; exact nx))
    refine ⟨x, dx, pb, b, rfl, upd_same, dp_ext (Same.ext s1) _ _ hd (noL_blk ok.1), ok.1, by omega, fun H' lp lb lg lm T' M' fr => ⟨rfl, ?_⟩⟩
    obtain ⟨dT, hself⟩ := T'.ob
    obtain ⟨pvs, hlp, pla⟩ := T'.pl
    have sH : Same H H' := fun c o e => M' c o (s1 c o e) (by simpa using ne_of_none e nx)
    have nol := pl_nol pla
    have lpv := pla.len
    refine ⟨x, CT, dT, _, _, rfl, hself, T.clT, T.nT_places, tF_places, lp, rfl, ⟨_, SqL.of hlp⟩, fun D nQ => lc_it (walk_list (K := K) (xs := pvs)) (fun i H2 => Same H' H2 ∧ ∃ us, H2 D = some (.lst us) ∧ DpAll K H2 us (((final b).pl.take i).map (·.1))) ⟨same_new nQ, [], upd_same, .nil⟩ (fun i H2 _ z => SqL.of (z.1 _ _ hlp)) ?_ ?_⟩
    · rintro i y H2 H3 hi ⟨z1, us, hD, du⟩ ⟨rfl, hy⟩
      obtain ⟨e, he, q, dq, sp, rfl, hq, dsp, nsp⟩ := pl_at (pla.ext (Same.ext z1)) hy
      have lu := dps_len du
      rw [List.length_map, List.length_take] at lu
      refine ⟨rfl, _, rfl, q, CP, dq, _, _, rfl, hq, T.clP, T.nP_statement, pF_statement, us, hD, small1000 (by omega), fun c o ec => ?_, us ++ [.ref sp], upd_same, ?_⟩
      · rw [upd_ne (ne_of_none ec nQ)]
        exact z1 c o ec
      · rw [take_snoc he, List.map_append]
        have ex := ext_put (o := .lst (us ++ [.ref sp])) hD
        exact dps_snoc (dps_ext ex _ _ du (nol_take nol i)) (dp_ext ex _ _ dsp nsp)
    · rintro H2 ⟨z1, us, hD, du⟩
      rw [lpv, List.take_length] at du
      refine k D H2 ⟨us, hD, du, ?_⟩ (sH.free nQ) (sH.trans z1)
      have z := nol_take nol (final b).pl.length
      rw [List.take_length] at z
      exact z
theorem scBodyAt : FnScope ["program", "k"] ["program", "k"] (defScope s_body_at) := ⟨rfl, rfl, rfl, by decide +kernel, rfl, by decide +kernel, by decide +kernel⟩
theorem ok_bodyat (T : Top K mg CB CP CT) : C8.Cal P w K mg base 6 "body_at" (spBodyAt K) [] := by
  have M_Tree : C8.Mak P w K mg base 4 "Tree" CT (spTInit K CP CT) [] := mk_tree T
  obtain ⟨f, fd0, F, gm⟩ := T.h_body_at
  refine ⟨f, fd0, ["program", "k"], [], ?_, gm, F.kp, F.binds (fun _ _ _ _ _ _ us hl => match us, hl with | [_, _], _ => rfl), .nil⟩
  refine F.ok scBodyAt (fun vs H Q E h => ?_) (fun cdv A outer s H vs Q E hr h => ?_)
  · obtain ⟨v, b, k0, e, ki, rfl, _⟩ := h
    rfl
  · obtain ⟨v, b, k0, e, ki, rfl, rfl, hd, ok, he, k⟩ := h
    obtain ⟨pb, bv, rfl, qb, db⟩ := view_tup hd
    have w0 := ok.w
    refine ⟨_, (pss_one (ps_ret (pe_fld (pe_ix ix_list (pe_fld (C8.pe_mk M_Tree hr (by omega) rfl (pa_cons (pv 0) pa_nil)) rfl) (pv 1) (fun _ _ => rfl)) rfl))), ?_⟩
    refine ⟨_, rfl, fun x dx nx ndx ne => ?_⟩
    have s1 : Same H (L2.upd (L2.upd H dx (.own x)) x (.ins CT dx [])) := (same_new ndx).trans (same_new (show (L2.upd H dx (.own x)) x = none by rw [upd_ne ne.symm]; exact nx))
    refine ⟨x, dx, pb, b, rfl, upd_same, dp_ext (Same.ext s1) _ _ hd (noL_blk ok.1), ok.1, by omega, fun H' lp lb lg lm T' M' fr => ⟨rfl, ?_⟩⟩
    obtain ⟨dT, hself⟩ := T'.ob
    obtain ⟨pvs, hlp, pla⟩ := T'.pl
    have sH : Same H H' := fun c o e => M' c o (s1 c o e) (by simpa using ne_of_none e nx)
    have lpv := pla.len
    have hk : k0 < pvs.length := by
      rw [lpv]
      exact (List.getElem?_eq_some_iff.mp he).1
    obtain ⟨e', he', q, dq, sp, ev, hq, dsp, nsp⟩ := pl_at pla (List.getElem?_eq_getElem hk)
    rw [he] at he'
    cases he'
    exact ⟨x, CT, dT, _, _, rfl, hself, T.clT, T.nT_places, tF_places, _, rfl, lp, pvs, _, _, rfl, rfl, SqL.of hlp, atI_nat (List.getElem?_eq_getElem hk), q, CP, dq, _, _, ev, hq, T.clP, T.nP_body, pF_body, k H' sH⟩
end
end K06
set_option Elab.async false
set_option linter.all false
set_option maxRecDepth 100000
set_option maxHeartbeats 4000000
namespace K06
open PySem PySem.Spec PyProof.Rows L2 Fb VL
local macro_rules | `(tactic| walk_at "vs") => `(tactic| simp only [s_callIO, s_io, s_fill0, s_fillN, s_fillS, s_putIO, s_wio0, s_wioN, s_wioS, s_give0, s_giveN, s_giveS, s_giveM, Option.map_some, s_seq, s_next, s_break, s_cont, s_set, s_ret, s_retN, s_drop, s_ifS, s_for, s_asg, s_par, s_var, s_c, s_op2, s_op2L, s_op2T, s_ca, s_caL, s_caT, s_nil, s_cons, s_tup, s_lst, s_test, s_and, s_or, s_not, s_if, s_andV, s_orV, s_notV, s_no, s_part, s_sl, s_slL, s_slT, s_ls, s_ts, s_sgs, s_rng1, s_rng2, s_gName, s_gNil, s_gCons, s_gTup, s_lc, s_yes, s_append, s_call, s_dget, s_get2, s_pNil, s_pCons, s_disp, s_m1, s_split, s_indexD, s_w1, s_w2, s_isStr, s_gI, s_gI0, s_gAddS, s_gS, s_gSg, s_gEqI, s_gEqS, s_gEqB, s_gEqNI, s_gEqIS, s_gEqSI, s_gNeI, s_gNeS, s_gIsN, s_gNotN, s_isNon0, s_isNonI, s_isNonS, s_isNonT, s_isNonL, s_gIxL, s_gIxT, s_gIxS, s_gInL, s_gInT, s_gCat, s_gCatT, s_gSlL, s_gSlT, s_gSlS, s_gLenL, s_gLenT, s_gLenS, s_gSum, s_gI2, s_gInt1, s_gInt1b, s_gStrI, s_gAll, s_gSeqL, s_gSeqT, s_gDGet, s_gGet2, s_kDs, s_kDi, s_ioN, s_ioS, s_ioL, s_ioD, s_ioO, s_nones0, s_nones1, List.map_cons, List.map_nil, List.cons_append, List.nil_append, List.append_nil, List.append_assoc, List.getElem?_cons_zero, List.getElem?_cons_succ, List.set_cons_zero, List.set_cons_succ, Option.some.injEq, exists_eq_left', exists_eq_left, D.int.injEq, D.str.injEq, D.tup.injEq, D.lst.injEq, D.bl.injEq, D.dct.injEq, and_true, true_and, List.length_cons, List.length_nil, exists_and_left, exists_eq, Bool.not_true, Bool.not_false, exists_eq', Nat.zero_le, atI_0, atI_1, atI_2, atI_3, atI_4, atI_5, s_gInD, if_true, if_false, Bool.false_eq_true, Nat.reduceAdd])
section
variable {P : Program} {w : World} {K : PySem.W.Frag} {mg : Str → Option Value} {base : Heap} {CB CP CT : Addr}
def latV (j : Int) (d : D) : D :=
  match d with
  | .int n => .int (n + if j ≤ n then 1 else 0)
  | d => d
def okN (d : D) : Prop := d = .non ∨ ∃ n, d = .int n
def vpLater : VSp := fun ds Q _ => ∃ d j, ds = [d, .int j] ∧ okN d ∧ Q (latV j d) [none, none]
theorem scLater : FnScope ["_law_number", "_law_j"] ["_law_number", "_law_j"] (defScope s_l_later) := ⟨rfl, rfl, rfl, by decide +kernel, rfl, by decide +kernel, by decide +kernel⟩
theorem ok_later (T : Top K mg CB CP CT) : C8.Cal P w K mg base 1 "_law_later" (spOf K [.s, .s] .s vpLater) [] := by
  obtain ⟨f, fd, F, gm⟩ := T.h_l_later
  refine ⟨f, fd, ["_law_number", "_law_j"], [], ?_, gm, F.kp, F.binds (fun _ _ _ _ _ _ us hl => match us, hl with | [_, _], _ => rfl), .nil⟩
  refine F.ok scLater (fun vs H Q E h => h.len) (fun cdv A outer s H vs Q E hr h => ?_)
  refine ⟨_, (pss_cons (ps_if (pt_cmpR op_isN (pv 0) pe_non (nomark _))
    (pss_one (ps_ret pe_non))
    pss_nil)
  (pss_one (ps_ret (pe_op op_add (pv 0) (pe_callTy call_int1 (by rfl) T.n_int (by decide +kernel) (pa_cons (pe_cmpR op_ge (pv 0) (pv 1) (nomark _)) pa_nil)))))), fn_run0 (pM := [.s, .s]) (M2 := []) rfl (fun H0 io av rt hrt => (vs_seq (vs_if (vt_test (VQ.e (q_op (VQ.b (q_var (i := 0) rfl)) (VQ.b q_non) od_isN)))
    (vs_ret (VQ.e q_non))
    vs_next)
  (vs_ret (VQ.e (q_op (VQ.b (q_var (i := 0) rfl)) (VQ.b (q_ca (vba_cons (VQ.b (q_op (VQ.b (q_var (i := 0) rfl)) (VQ.b (q_var (i := 1) rfl)) od_b0)) vba_nil) cd_int1)) od_i0))))) (fun ds Qv Qx hl hs => ?_) h⟩
  obtain ⟨d, j, rfl, hd, q⟩ := hs
  rcases hd with rfl | ⟨n, rfl⟩
  · simpa [latV] using q
  · simpa [latV] using q
def latR (p : Nat) (j : Int) : D → D
  | .tup l => .tup (l.take p ++ [latV j (l.getD p .non)] ++ l.drop (p + 1))
  | d => d
def okRow (p : Nat) (d : D) : Prop := ∃ l x, d = .tup l ∧ l[p]? = some x ∧ okN x ∧ l.length ≤ 1000
def vpRowLater : VSp := fun ds Q _ => ∃ (rows : List D) (p : Nat) (j pi : Int), ds = [.lst rows, .int pi, .int j] ∧ pi = (p : Int) ∧ (∀ r ∈ rows, okRow p r) ∧ rows.length ≤ 1000 ∧ Q (.lst (rows.map (latR p j))) [none, none, none]
theorem scRowLater : FnScope ["_law_rows", "_law_place", "_law_j", "_law_row"] ["_law_rows", "_law_place", "_law_j"] (defScope s_l_row_later) := ⟨rfl, rfl, rfl, by decide +kernel, rfl, by decide +kernel, by decide +kernel⟩
theorem cuD_to {l : List D} {p : Nat} (h : p ≤ l.length) : cuD l none (some (p : Int)) = l.take p := by
  unfold cuD
  rw [HT.sIx_none, HT.sIx_nat, List.drop_zero, Nat.sub_zero, Nat.min_eq_left h]
theorem cuD_from {l : List D} {p : Nat} (h : p ≤ l.length) : cuD l (some (p : Int)) none = l.drop p := by
  unfold cuD
  rw [HT.sIx_none, HT.sIx_nat, Nat.min_eq_left h]
  exact List.take_of_length_le (by rw [List.length_drop]; omega)
theorem ok_rowlater (T : Top K mg CB CP CT) : C8.Cal P w K mg base 2 "_law_row_later" (spOf K [.s, .s, .s] .s vpRowLater) [] := by
  have C_law_later := ok_later (P := P) (w := w) (base := base) T
  obtain ⟨f, fd, F, gm⟩ := T.h_l_row_later
  refine ⟨f, fd, ["_law_rows", "_law_place", "_law_j"], [], ?_, gm, F.kp, F.binds (fun _ _ _ _ _ _ us hl => match us, hl with | [_, _, _], _ => rfl), .nil⟩
  refine F.ok scRowLater (fun vs H Q E h => h.len) (fun cdv A outer s H vs Q E hr h => ?_)
  refine ⟨_, (pss_one (ps_ret (pe_lc (own := [("_law_row", 3)]) rfl scRowLater.nd (VL.piLK K rfl (pv 0)) (blkOk_by (own := [("_law_row", 3)]) (N := ["_law_rows", "_law_place", "_law_j", "_law_row"]) (sc := defScope s_l_row_later) (by decide +kernel)) (fun _ _ _ _ _ => (pg_name (i := 3) scRowLater.nd rfl (Or.inl rfl))) (fun _ _ _ _ _ => pts_nil) (fun _ _ _ _ _ => (pe_op (VL.catU K rfl) (pe_op (VL.catU K rfl) (pe_slice (VL.slU K rfl) (pv 3) po_none (po_some (pv 1))) (pe_tup (pa_cons (C8.pe_c C_law_later hr (by omega) rfl (pa_cons (pe_ix (VL.ixT K rfl) (pv 3) (pv 1) (fun _ _ => rfl)) (pa_cons (pv 2) pa_nil))) pa_nil))) (pe_slice (VL.slU K rfl) (pv 3) (po_some (pe_op op_add (pv 1) pe_int)) po_none)))))), fn_run0 (pM := [.s, .s, .s]) (M2 := [.s]) rfl (fun H0 io av rt hrt => (vs_ret (VE.s (v_lc (vs := [3]) (vi_list (VQ.e (q_var (i := 0) rfl))) (vg_name (i := 3) rfl (hrt 3 (by decide))) vt_yes (v_opT (v_opT (v_slT (VQ.e (q_var (i := 3) rfl)) vo_none (vo_some (VQ.e (q_var (i := 1) rfl))) ot_sl) (v_tup (va_cons (v_call (va_cons (VQ.e (q_op (VQ.b (q_var (i := 3) rfl)) (VQ.b (q_var (i := 1) rfl)) od_ixT)) (va_cons (VQ.e (q_var (i := 2) rfl)) va_nil)) (by simp)) va_nil)) ot_cat) (v_slT (VQ.e (q_var (i := 3) rfl)) (vo_some (VQ.e (q_op (VQ.b (q_var (i := 1) rfl)) (VQ.b q_int) od_i0))) vo_none ot_sl) ot_cat) (by decide) (fun i hi => hrt i (by revert i; decide)))))) (fun ds Qv Qx hl hs => ?_) h⟩
  obtain ⟨rows, p, j, pi, rfl, rfl, hr1, hr2, q⟩ := hs
  simp
  refine lc_map (latR p j) rows [] (small (by simp; omega)) (fun d hd A B hA => ?_) (by simpa using q)
  obtain ⟨l, x, rfl, hx, ox, hl⟩ := hr1 d hd
  have hp : p < l.length := (List.getElem?_eq_some_iff.mp hx).1
  have hA := hA [some (.lst rows), some (.int p), some (.int j), some (.tup l)] rfl
  have e1 : ((p : Int) + 1) = ((p + 1 : Nat) : Int) := by omega
  simp [atI_n, hx]
  refine ⟨x, j, rfl, ox, small (by omega), ?_⟩
  rw [e1, cuD_to (by omega), cuD_from (by omega)]
  refine ⟨small (by rw [List.length_take]; omega), small (by rw [List.length_take, List.length_drop]; omega), ?_⟩
  have z : latR p j (.tup l) = .tup (l.take p ++ latV j x :: l.drop (p + 1)) := by
    simp [latR, hx]
  rw [z] at hA
  exact hA
/-! ### the blocks of a statement -/
def SD (s : Stm) : D := dD (dS s)
def BD (b : Blk) : D := dD (Fb.tB b)
theorem SD_parts (s : Stm) : SD s = .tup (dDs (hdS s) ++ (bks s).map BD) := by
  unfold SD
  rw [dS_parts, dD, dDs_map, List.map_append, ← dDs_map, List.map_map]
  rfl
theorem BD_stms (b : Blk) : BD b = .tup ((stms b).map SD) := by
  unfold BD Fb.tB
  rw [dD, dDs_map, dB_stms, List.map_map]
  rfl
theorem hd_word (s : Stm) : ∃ r, dDs (hdS s) = .str (wordS s) :: r := by
  cases s <;> (simp only [hdS, dDs, dD, wordS]; exact ⟨_, rfl⟩)
abbrev bkK : List Key := [.inr "fn", .inr "while", .inr "times", .inr "if"]
abbrev bkN : List D := [.int 1, .int 1, .int 1, .int 2]
theorem bk_get (s : Stm) : (getK bkK bkN (.inr (wordS s))).getD (.int 0) = .int ((bks s).length : Nat) := by
  have a1 : ¬ (kx "fn" = kx "while") := by decide +kernel
  have a2 : ¬ (kx "fn" = kx "times") := by decide +kernel
  have a3 : ¬ (kx "fn" = kx "if") := by decide +kernel
  have a4 : ¬ (kx "while" = kx "times") := by decide +kernel
  have a5 : ¬ (kx "while" = kx "if") := by decide +kernel
  have a6 : ¬ (kx "times" = kx "if") := by decide +kernel
  have no : ∀ {w : Str}, ¬ w = "fn" ∧ ¬ w = "if" ∧ ¬ w = "while" ∧ ¬ w = "times" → (getK bkK bkN (.inr w)).getD (.int 0) = .int 0 := fun {w} h => by
    have b1 : ¬ (kx "fn" = kx w) := fun z => h.1 (Sum.inr.inj z).symm
    have b2 : ¬ (kx "while" = kx w) := fun z => h.2.2.1 (Sum.inr.inj z).symm
    have b3 : ¬ (kx "times" = kx w) := fun z => h.2.2.2 (Sum.inr.inj z).symm
    have b4 : ¬ (kx "if" = kx w) := fun z => h.2.1 (Sum.inr.inj z).symm
    simp only [getK, if_neg b1, if_neg b2, if_neg b3, if_neg b4, Option.getD]
  cases s with
  | mk w x r h => exact no (mkW_ne h)
  | no w r h => exact no (noW_ne h)
  | fn x ps b => simp [getK, wordS, bks]
  | ite a b1 b2 =>
    have c1 : ¬ (kx "while" = kx "if") := a5
    simp only [getK, wordS, if_neg a3, if_neg a5, if_neg a6, if_true, Option.getD, bks]
    rfl
  | whl a b =>
    simp only [getK, wordS, if_neg a1, if_true, Option.getD, bks]
    rfl
  | tms one x a b =>
    simp only [getK, wordS, if_neg a2, if_neg a4, if_true, Option.getD, bks]
    rfl
theorem bks_len (s : Stm) : (bks s).length ≤ 2 := by cases s <;> simp [bks]
theorem sha_len {ds : List PyData} {n m : Nat} (h : ShA ds n m) : 2 * ds.length ≤ n := by
  have := h.ln
  omega
theorem hd_small {s : Stm} (g : goodS s) : (dDs (hdS s)).length ≤ 1000 := by
  rw [dDs_map, List.length_map]
  cases s with
  | mk w x r h =>
    rw [goodS] at g
    have := sha_len g.2.2
    simp only [hdS, List.length_cons]
    omega
  | no w r h =>
    rw [goodS] at g
    have := sha_len g.2
    simp only [hdS, List.length_cons]
    omega
  | fn x ps b => simp [hdS]
  | ite a b1 b2 => simp [hdS]
  | whl a b => simp [hdS]
  | tms one x a b => simp [hdS]
def vpBlocks : VSp := fun ds Q _ => ∃ s, ds = [SD s] ∧ Q (.lst ((bks s).map BD)) [none]
theorem scBks : FnScope ["_law_one"] ["_law_one"] (defScope s_l_blocks) := ⟨rfl, rfl, rfl, by decide +kernel, rfl, by decide +kernel, by decide +kernel⟩
theorem ok_bks (T : Top K mg CB CP CT) : C8.Cal P w K mg base 1 "_law_blocks" (spOf K [.s] .s vpBlocks) [] := by
  obtain ⟨f, fd, F, gm⟩ := T.h_l_blocks
  refine ⟨f, fd, ["_law_one"], [], ?_, gm, F.kp, F.binds (fun _ _ _ _ _ _ us hl => match us, hl with | [_], _ => rfl), .nil⟩
  refine F.ok scBks (fun vs H Q E h => h.len) (fun cdv A outer s H vs Q E hr h => ?_)
  have hu := hu_of hr
  refine ⟨_, (pss_one (ps_ret (pe_callTy (VL.listK K rfl) (by rfl) T.n_list (by decide +kernel) (pa_cons (pe_slice (VL.slU K rfl) (pv 0) (po_some (pe_op op_sub (pe_callB (VL.lenK K rfl) (by rfl) T.n_len (by decide +kernel) (pa_cons (pv 0) pa_nil)) (pe_dget2 hu (pe_disp (pps_cons pe_str pe_int (pps_cons pe_str pe_int (pps_cons pe_str pe_int (pps_cons pe_str pe_int pps_nil)))) (by rfl) (by rfl) (fun z => by cases z) (by decide)) (pe_ix (VL.ixT K rfl) (pv 0) pe_int (fun _ _ => rfl)) pe_int (by constructor <;> rfl)))) po_none) pa_nil)))), fn_run0 (pM := [.s]) (M2 := []) rfl (fun H0 io av rt hrt => (vs_ret (VE.s (v_caL (va_cons (v_slT (VQ.e (q_var (i := 0) rfl)) (vo_some (v_op (VQ.e (q_ca (vba_cons (VQ.b (q_var (i := 0) rfl)) vba_nil) cd_len)) (v_get2 (VE.s (v_disp (vp_cons (VQ.e q_str) (VQ.e q_int) (vp_cons (VQ.e q_str) (VQ.e q_int) (vp_cons (VQ.e q_str) (VQ.e q_int) (vp_cons (VQ.e q_str) (VQ.e q_int) vp_nil)))))) (VQ.e (q_op (VQ.b (q_var (i := 0) rfl)) (VQ.b q_int) od_ixT)) (VQ.e q_int)) od_i0)) vo_none ot_sl) va_nil) cl_list)))) (fun ds Qv Qx hl hs => ?_) h⟩
  obtain ⟨s, rfl, q⟩ := hs
  obtain ⟨r, er⟩ := hd_word s
  have hb := bk_get s
  have hc : cuD (dDs (hdS s) ++ (bks s).map BD) (some (((dDs (hdS s) ++ (bks s).map BD).length : Int) - ((bks s).length : Nat))) none = (bks s).map BD := by
    have e : (((dDs (hdS s) ++ (bks s).map BD).length : Int) - ((bks s).length : Nat)) = ((dDs (hdS s)).length : Nat) := by
      rw [List.length_append, List.length_map]
      omega
    rw [e, cuD_from (by rw [List.length_append]; omega), List.drop_left]
  rw [SD_parts, er] at *
  simp [hb]
  refine ⟨by decide +kernel, ?_⟩
  simp at hc
  rw [hc]
  exact q
/-! ### how many places -/
def vpPlaces (n : Nat) : VSp := fun ds Q _ => ∃ b, ds = [BD b] ∧ hB b < n ∧ nB b ≤ 1000 ∧ Q (.int (cpB b : Nat)) [none]
theorem scPlaces : FnScope ["_law_block", "_law_one", "_law_part"] ["_law_block"] (defScope s_l_places) := ⟨rfl, rfl, rfl, by decide +kernel, rfl, by decide +kernel, by decide +kernel⟩
theorem ok_places (T : Top K mg CB CP CT) : ∀ n : Nat, C8.Cal P w K mg base (2 + n) "_law_places" (spOf K [.s] .s (vpPlaces n)) []
  | 0 => by
    obtain ⟨f, fd, F, gm⟩ := T.h_l_places
    exact cal_vac F gm (F.binds (ps := ["_law_block"]) (fun _ _ _ _ _ _ us hl => match us, hl with | [_], _ => rfl)) fun ds Q Qx ⟨b, _, h, _⟩ => by omega
  | n + 1 => by
    have C_law_places := ok_places T n
    have C_law_blocks := ok_bks (P := P) (w := w) (base := base) T
    obtain ⟨f, fd, F, gm⟩ := T.h_l_places
    refine ⟨f, fd, ["_law_block"], [], ?_, gm, F.kp, F.binds (fun _ _ _ _ _ _ us hl => match us, hl with | [_], _ => rfl), .nil⟩
    rw [show 2 + (n + 1) = (2 + n) + 1 by omega]
    refine F.ok scPlaces (fun vs H Q E h => h.len) (fun cdv A outer s H vs Q E hr h => ?_)
    refine ⟨_, (pss_one (ps_ret (pe_op op_add pe_int (pe_callB (VL.sumK K rfl rfl) (by rfl) T.n_sum (by decide +kernel) (pa_cons (pe_lc (own := [("_law_one", 1)]) rfl scPlaces.nd (VL.piTK K rfl (pv 0)) (blkOk_by (own := [("_law_one", 1)]) (N := ["_law_block", "_law_one", "_law_part"]) (sc := defScope s_l_places) (by decide +kernel)) (fun _ _ _ _ _ => (pg_name (i := 1) scPlaces.nd rfl (Or.inl rfl))) (fun _ _ _ _ _ => pts_nil) (fun _ _ _ _ _ => (pe_op op_add pe_int (pe_callB (VL.sumK K rfl rfl) (by rfl) T.n_sum (by decide +kernel) (pa_cons (pe_lc (own := [("_law_part", 2)]) rfl scPlaces.nd (VL.piLK K rfl (C8.pe_c C_law_blocks hr (by omega) rfl (pa_cons (pv 1) pa_nil))) (blkOk_by (own := [("_law_part", 2)]) (N := ["_law_block", "_law_one", "_law_part"]) (by show blkC _ (relS _ (defScope s_l_places)) _ _ = true; decide +kernel)) (fun _ _ _ _ _ => (pg_name (i := 2) scPlaces.nd rfl (Or.inl rfl))) (fun _ _ _ _ _ => pts_nil) (fun _ _ _ _ _ => (C8.pe_c C_law_places hr (by omega) rfl (pa_cons (pv 2) pa_nil)))) pa_nil))))) pa_nil))))), fn_run0 (pM := [.s]) (M2 := [.s, .s]) rfl (fun H0 io av rt hrt => (vs_ret (v_op (VQ.e q_int) (v_ca (va_cons (VE.s (v_lc (vs := [1]) (vi_tup (VQ.e (q_var (i := 0) rfl))) (vg_name (i := 1) rfl (hrt 1 (by decide))) vt_yes (v_op (VQ.e q_int) (v_ca (va_cons (VE.s (v_lc (vs := [2]) (vi_list (v_call (va_cons (VQ.e (q_var (i := 1) rfl)) va_nil) (by simp))) (vg_name (i := 2) rfl (hrt 2 (by decide))) vt_yes (v_call (va_cons (VQ.e (q_var (i := 2) rfl)) va_nil) (by simp)) (by decide) (fun i hi => hrt i (by revert i; decide)))) va_nil) cd_sum) od_i0) (by decide) (fun i hi => hrt i (by revert i; decide)))) va_nil) cd_sum) od_i0))) (fun ds Qv Qx hl hs => ?_) h⟩
    obtain ⟨b, rfl, hb, hn, q⟩ := hs
    rw [BD_stms]
    simp
    have hlen := stms_len b
    refine lc_mapF SD (fun s => .int (1 + (cps s).sum)) (stms b) [] (small (by simp; omega)) (fun s hs A B hA => ?_) ?_
    · have hA := hA [some (.tup ((stms b).map SD)), some (SD s), none] rfl
      have h1 := hB_mem hs
      have h2 := nS_mem hs
      simp
      refine ⟨s, rfl, _, rfl, ?_⟩
      refine lc_mapF BD (fun b => .int (cpB b : Nat)) (bks s) [] (small (by have := bks_len s; simp; omega)) (fun b' hb' A' B' hA' => ?_) ?_
      · have hA' := hA' [some (.tup ((stms b).map SD)), some (SD s), some (BD b')] rfl
        have h3 := hS_bks hb'
        have h4 := nS_bks hb'
        simp
        exact ⟨b', rfl, by omega, by omega, hA'⟩
      · simp
        refine ⟨cps s, ?_, hA⟩
        unfold cps
        rw [List.map_map]
        rfl
    · simp
      refine ⟨(stms b).map fun s => 1 + (cps s).sum, by rw [List.map_map]; rfl, ?_⟩
      rw [cp_sum]
      exact q
/-! ### a statement put in -/
def vpPut (n : Nat) : VSp := fun ds Q _ => ∃ m b k, ds = [BD b, .int k, SD m] ∧ goodB b ∧ hB b < n ∧ nB b ≤ 1000 ∧ Q (.tup [BD (putB m b k).1, .int (putB m b k).2]) [none, none, none]
theorem scPut : FnScope ["_law_block", "_law_left", "_law_more", "_law_found", "_law_one", "_law_parts", "_law_part", "_law_inner"] ["_law_block", "_law_left", "_law_more"] (defScope s_l_put_in) := ⟨rfl, rfl, rfl, by decide +kernel, rfl, by decide +kernel, by decide +kernel⟩
theorem SD_put {m s : Stm} {k : Int} : SD (putS m s k).1 = .tup (dDs (hdS s) ++ (parts m (bks s) k).1.map BD) := by
  rw [SD_parts, (put_parts s k).1, (put_parts s k).2.1]
theorem ok_put (T : Top K mg CB CP CT) : ∀ n : Nat, C8.Cal P w K mg base (2 + n) "_law_put_in" (spOf K [.s, .s, .s] .s (vpPut n)) []
  | 0 => by
    obtain ⟨f, fd, F, gm⟩ := T.h_l_put_in
    exact cal_vac F gm (F.binds (ps := ["_law_block", "_law_left", "_law_more"]) (fun _ _ _ _ _ _ us hl => match us, hl with | [_, _, _], _ => rfl)) fun ds Q Qx ⟨_, b, _, _, _, h, _⟩ => by omega
  | n + 1 => by
    have C_law_put_in := ok_put T n
    have C_law_blocks := ok_bks (P := P) (w := w) (base := base) T
    obtain ⟨f, fd, F, gm⟩ := T.h_l_put_in
    refine ⟨f, fd, ["_law_block", "_law_left", "_law_more"], [], ?_, gm, F.kp, F.binds (fun _ _ _ _ _ _ us hl => match us, hl with | [_, _, _], _ => rfl), .nil⟩
    rw [show 2 + (n + 1) = (2 + n) + 1 by omega]
    refine F.ok scPut (fun vs H Q E h => h.len) (fun cdv A outer s H vs Q E hr h => ?_)
    refine ⟨_, (pss_cons (ps_set (i := 3) scPut.nd rfl (Or.inl rfl) (pe_lst pa_nil))
  (pss_cons (ps_for PassesOwn.never rfl (VL.piTK K rfl (pv 0)) (pg_name (i := 4) scPut.nd rfl (Or.inl rfl))
    (pss_cons (ps_if (pt_cmpR op_eq (pv 1) pe_int (nomark _))
    (pss_one (ps_expr (pe_bm PySem.F.plainAttrs_list PySem.F.slot_list_append PySem.F.type_list_append mt_append (pv 3) (pa_cons (pv 2) pa_nil))))
    pss_nil)
  (pss_cons (ps_set (i := 1) scPut.nd rfl (Or.inl rfl) (pe_op op_sub (pv 1) pe_int))
  (pss_cons (ps_set (i := 5) scPut.nd rfl (Or.inl rfl) (pe_lst pa_nil))
  (pss_cons (ps_for PassesOwn.never rfl (VL.piLK K rfl (C8.pe_c C_law_blocks hr (by omega) rfl (pa_cons (pv 4) pa_nil))) (pg_name (i := 6) scPut.nd rfl (Or.inl rfl))
    (pss_cons (ps_asg (C8.pe_c C_law_put_in hr (by omega) rfl (pa_cons (pv 6) (pa_cons (pv 1) (pa_cons (pv 2) pa_nil)))) (VL.tupTK K rfl (n := 2) rfl (pgs_cons (pg_name (i := 7) scPut.nd rfl (Or.inl rfl)) (pgs_cons (pg_name (i := 1) scPut.nd rfl (Or.inl rfl)) pgs_nil))))
  (pss_one (ps_expr (pe_bm PySem.F.plainAttrs_list PySem.F.slot_list_append PySem.F.type_list_append mt_append (pv 5) (pa_cons (pv 7) pa_nil))))))
  (pss_one (ps_expr (pe_bm PySem.F.plainAttrs_list PySem.F.slot_list_append PySem.F.type_list_append mt_append (pv 3) (pa_cons (pe_op (VL.catU K rfl) (pe_slice (VL.slU K rfl) (pv 4) po_none (po_some (pe_op op_sub (pe_callB (VL.lenK K rfl) (by rfl) T.n_len (by decide +kernel) (pa_cons (pv 4) pa_nil)) (pe_callB (VL.lenK K rfl) (by rfl) T.n_len (by decide +kernel) (pa_cons (pv 5) pa_nil))))) (pe_callTy (VL.tupleK K rfl) (by rfl) T.n_tuple (by decide +kernel) (pa_cons (pv 5) pa_nil))) pa_nil)))))))))
  (pss_cons (ps_if (pt_cmpR op_eq (pv 1) pe_int (nomark _))
    (pss_one (ps_expr (pe_bm PySem.F.plainAttrs_list PySem.F.slot_list_append PySem.F.type_list_append mt_append (pv 3) (pa_cons (pv 2) pa_nil))))
    pss_nil)
  (pss_one (ps_ret (pe_tup (pa_cons (pe_callTy (VL.tupleK K rfl) (by rfl) T.n_tuple (by decide +kernel) (pa_cons (pv 3) pa_nil)) (pa_cons (pe_op op_sub (pv 1) pe_int) pa_nil)))))))), fn_run0 (pM := [.s, .s, .s]) (M2 := [.l .s, .s, .l .s, .s, .s]) rfl (fun H0 io av rt hrt => (vs_seq (vs_set (i := 3) (v_lst va_nil) rfl (hrt 3 (by decide)))
  (vs_seq (vs_for (vi_tup (VQ.e (q_var (i := 0) rfl))) (vg_name (i := 4) rfl (hrt 4 (by decide)))
    (vs_seq (vs_if (vt_test (VQ.e (q_op (VQ.b (q_var (i := 1) rfl)) (VQ.b q_int) od_eq)))
    (vs_drop (v_append (i := 3) rfl (VQ.e (q_var (i := 2) rfl))))
    vs_next)
  (vs_seq (vs_set (i := 1) (VQ.e (q_op (VQ.b (q_var (i := 1) rfl)) (VQ.b q_int) od_i0)) rfl (hrt 1 (by decide)))
  (vs_seq (vs_set (i := 5) (v_lst va_nil) rfl (hrt 5 (by decide)))
  (vs_seq (vs_for (vi_list (v_call (va_cons (VQ.e (q_var (i := 4) rfl)) va_nil) (by simp))) (vg_name (i := 6) rfl (hrt 6 (by decide)))
    (vs_seq (vs_asg (v_call (va_cons (VQ.e (q_var (i := 6) rfl)) (va_cons (VQ.e (q_var (i := 1) rfl)) (va_cons (VQ.e (q_var (i := 2) rfl)) va_nil))) (by simp)) (vg_tup (vg_cons (vg_name (i := 7) rfl (hrt 7 (by decide))) (vg_cons (vg_name (i := 1) rfl (hrt 1 (by decide))) vg_nil))))
  (vs_drop (v_append (i := 5) rfl (VQ.e (q_var (i := 7) rfl))))))
  (vs_drop (v_append (i := 3) rfl (v_opT (v_slT (VQ.e (q_var (i := 4) rfl)) vo_none (vo_some (VQ.e (q_op (VQ.b (q_ca (vba_cons (VQ.b (q_var (i := 4) rfl)) vba_nil) cd_len)) (VQ.b (q_ca (vba_cons (b_varL (i := 5) rfl) vba_nil) cd_len)) od_i0))) ot_sl) (v_caTq (vba_cons (b_varL (i := 5) rfl) vba_nil) ct_tuple) ot_cat))))))))
  (vs_seq (vs_if (vt_test (VQ.e (q_op (VQ.b (q_var (i := 1) rfl)) (VQ.b q_int) od_eq)))
    (vs_drop (v_append (i := 3) rfl (VQ.e (q_var (i := 2) rfl))))
    vs_next)
  (vs_ret (v_tup (va_cons (v_caTq (vba_cons (b_varL (i := 3) rfl) vba_nil) ct_tuple) (va_cons (VQ.e (q_op (VQ.b (q_var (i := 1) rfl)) (VQ.b q_int) od_i0)) va_nil)))))))) (fun ds Qv Qx hl hs => ?_) h⟩
    obtain ⟨m, b, k, rfl, gb, hb, hn, q⟩ := hs
    have hlen := stms_len b
    rw [BD_stms]
    simp
    refine for_pre SD (stms b) (fun pre e => ∃ y4 y5 y6 y7, e = [some (.tup ((stms b).map SD)), some (.int (way m pre k).2), some (SD m), some (.lst ((way m pre k).1.map SD)), y4, y5, y6, y7]) ?_ ?_ ⟨none, none, none, none, rfl⟩
    · rintro pre s post ep e ⟨y4, y5, y6, y7, rfl⟩ Kt hK
      have hs : s ∈ stms b := by rw [ep]; simp
      have hlp : pre.length ≤ nB b := by
        have z : pre.length ≤ (stms b).length := by rw [ep, List.length_append]; omega
        omega
      have gs := good_stms gb s hs
      have h1 := hB_mem hs
      have h2 := nS_mem hs
      have hwl := way_len (m := m) pre k
      have hbl := bks_len s
      simp only [way_snoc] at hK
      walk_at "vs"
      have wf : (List.map SD (way m pre k).1).length < 100000 := by rw [List.length_map]; omega
      split
      · rename_i hc
        rw [if_pos (of_decide_eq_true hc)] at hK
        refine ⟨smallL wf, s, rfl, _, rfl, ?_⟩
        have wf2 : (List.map SD (way m pre k).1 ++ [SD m]).length < 100000 := by rw [List.length_append, List.length_map]; simp; omega
        refine for_pre BD (bks s) (fun pre2 e => ∃ z6 z7, e = [_, some (.int (parts m pre2 ((way m pre k).2 - 1)).2), _, _, _, some (.lst ((parts m pre2 ((way m pre k).2 - 1)).1.map BD)), z6, z7]) ?_ ?_ ⟨_, _, rfl⟩
        · rintro pre2 p post2 ep2 e ⟨z6, z7, rfl⟩ Kt2 hK2
          have hp : p ∈ bks s := by rw [ep2]; simp
          have hp1 := hS_bks hp
          have hp2 := nS_bks hp
          have lp : pre2.length ≤ 2 := by rw [ep2, List.length_append] at hbl; omega
          walk_at "vs"
          refine ⟨m, p, _, rfl, good_bks gs hp, by omega, by omega, ?_⟩
          walk_at "vs"
          refine ⟨smallL (by rw [List.length_map, parts_len]; omega), hK2 _ ?_⟩
          rw [parts_snoc, List.map_append]
          exact ⟨_, _, rfl⟩
        · rintro e ⟨z6, z7, rfl⟩
          have pl := parts_len (m := m) (bks s) ((way m pre k).2 - 1)
          have hw := hK _ ⟨some (SD s), some (.lst ((parts m (bks s) ((way m pre k).2 - 1)).1.map BD)), z6, z7, rfl⟩
          simp only [(put_parts s _).2.2, List.map_append, List.map_cons, List.map_nil, SD_put] at hw
          have hc2 : cuD (dDs (hdS s) ++ (bks s).map BD) none (some (((dDs (hdS s) ++ (bks s).map BD).length : Nat) - (((parts m (bks s) ((way m pre k).2 - 1)).1.map BD).length : Nat) : Int)) = dDs (hdS s) := by
            have e : ((((dDs (hdS s) ++ (bks s).map BD).length : Nat) : Int) - (((parts m (bks s) ((way m pre k).2 - 1)).1.map BD).length : Nat)) = ((dDs (hdS s)).length : Nat) := by
              rw [List.length_append, List.length_map, List.length_map, pl]
              omega
            rw [e, cuD_to (by rw [List.length_append]; omega), List.take_left]
          rw [SD_parts s] at hw ⊢
          walk_at "vs"
          rw [hc2]
          refine ⟨small ?_, smallL ?_, ?_⟩
          · have := hd_small gs
            rw [List.length_map, pl]
            omega
          · first | exact wf2 | exact wf
          · simpa using hw
      · rename_i hc
        rw [if_neg (fun z => hc (decide_eq_true z)), List.append_nil] at hK
        refine ⟨s, rfl, _, rfl, ?_⟩
        refine for_pre BD (bks s) (fun pre2 e => ∃ z6 z7, e = [_, some (.int (parts m pre2 ((way m pre k).2 - 1)).2), _, _, _, some (.lst ((parts m pre2 ((way m pre k).2 - 1)).1.map BD)), z6, z7]) ?_ ?_ ⟨_, _, rfl⟩
        · rintro pre2 p post2 ep2 e ⟨z6, z7, rfl⟩ Kt2 hK2
          have hp : p ∈ bks s := by rw [ep2]; simp
          have hp1 := hS_bks hp
          have hp2 := nS_bks hp
          have lp : pre2.length ≤ 2 := by rw [ep2, List.length_append] at hbl; omega
          walk_at "vs"
          refine ⟨m, p, _, rfl, good_bks gs hp, by omega, by omega, ?_⟩
          walk_at "vs"
          refine ⟨smallL (by rw [List.length_map, parts_len]; omega), hK2 _ ?_⟩
          rw [parts_snoc, List.map_append]
          exact ⟨_, _, rfl⟩
        · rintro e ⟨z6, z7, rfl⟩
          have pl := parts_len (m := m) (bks s) ((way m pre k).2 - 1)
          have hw := hK _ ⟨some (SD s), some (.lst ((parts m (bks s) ((way m pre k).2 - 1)).1.map BD)), z6, z7, rfl⟩
          simp only [(put_parts s _).2.2, List.map_append, List.map_cons, List.map_nil, SD_put] at hw
          have hc2 : cuD (dDs (hdS s) ++ (bks s).map BD) none (some (((dDs (hdS s) ++ (bks s).map BD).length : Nat) - (((parts m (bks s) ((way m pre k).2 - 1)).1.map BD).length : Nat) : Int)) = dDs (hdS s) := by
            have e : ((((dDs (hdS s) ++ (bks s).map BD).length : Nat) : Int) - (((parts m (bks s) ((way m pre k).2 - 1)).1.map BD).length : Nat)) = ((dDs (hdS s)).length : Nat) := by
              rw [List.length_append, List.length_map, List.length_map, pl]
              omega
            rw [e, cuD_to (by rw [List.length_append]; omega), List.take_left]
          rw [SD_parts s] at hw ⊢
          walk_at "vs"
          rw [hc2]
          refine ⟨small ?_, smallL ?_, ?_⟩
          · have := hd_small gs
            rw [List.length_map, pl]
            omega
          · first | exact wf2 | exact wf
          · simpa using hw
    · rintro e ⟨y4, y5, y6, y7, rfl⟩
      have wp := way_put (m := m) b k
      have hwl := way_len (m := m) (stms b) k
      have wf : (List.map SD (way m (stms b) k).1).length < 100000 := by rw [List.length_map]; omega
      have e1 : BD (putB m b k).1 = .tup (List.map SD (way m (stms b) k).1 ++ if (way m (stms b) k).2 = 0 then [SD m] else []) := by
        rw [BD_stms, wp.1, List.map_append]
        split <;> rfl
      rw [e1, wp.2] at q
      walk_at "vs"
      split
      · rename_i hc
        rw [if_pos (of_decide_eq_true hc)] at q
        exact ⟨smallL wf, small (by decide), q⟩
      · rename_i hc
        rw [if_neg (fun z => hc (decide_eq_true z)), List.append_nil] at q
        exact ⟨small (by decide), q⟩
end
end K06
set_option Elab.async false
set_option linter.all false
set_option maxRecDepth 100000
set_option maxHeartbeats 4000000
namespace K06
open PySem PySem.Spec PyProof.Rows L2 Fb VL
local macro_rules | `(tactic| walk_at "vs") => `(tactic| simp only [s_callIO, s_io, s_fill0, s_fillN, s_fillS, s_putIO, s_wio0, s_wioN, s_wioS, s_give0, s_giveN, s_giveS, s_giveM, Option.map_some, s_seq, s_next, s_break, s_cont, s_set, s_ret, s_retN, s_drop, s_ifS, s_for, s_asg, s_par, s_var, s_c, s_op2, s_op2L, s_op2T, s_ca, s_caL, s_caT, s_nil, s_cons, s_tup, s_lst, s_test, s_and, s_or, s_not, s_if, s_andV, s_orV, s_notV, s_no, s_part, s_sl, s_slL, s_slT, s_ls, s_ts, s_sgs, s_rng1, s_rng2, s_gName, s_gNil, s_gCons, s_gTup, s_lc, s_yes, s_append, s_call, s_dget, s_get2, s_pNil, s_pCons, s_disp, s_m1, s_split, s_indexD, s_w1, s_w2, s_isStr, s_gI, s_gI0, s_gAddS, s_gS, s_gSg, s_gEqI, s_gEqS, s_gEqB, s_gEqNI, s_gEqIS, s_gEqSI, s_gNeI, s_gNeS, s_gIsN, s_gNotN, s_isNon0, s_isNonI, s_isNonS, s_isNonT, s_isNonL, s_gIxL, s_gIxT, s_gIxS, s_gInL, s_gInT, s_gCat, s_gCatT, s_gSlL, s_gSlT, s_gSlS, s_gLenL, s_gLenT, s_gLenS, s_gSum, s_gI2, s_gInt1, s_gInt1b, s_gStrI, s_gAll, s_gSeqL, s_gSeqT, s_gDGet, s_gGet2, s_kDs, s_kDi, s_ioN, s_ioS, s_ioL, s_ioD, s_ioO, s_nones0, s_nones1, List.map_cons, List.map_nil, List.cons_append, List.nil_append, List.append_nil, List.append_assoc, List.getElem?_cons_zero, List.getElem?_cons_succ, List.set_cons_zero, List.set_cons_succ, Option.some.injEq, exists_eq_left', exists_eq_left, D.int.injEq, D.str.injEq, D.tup.injEq, D.lst.injEq, D.bl.injEq, D.dct.injEq, and_true, true_and, List.length_cons, List.length_nil, exists_and_left, exists_eq, Bool.not_true, Bool.not_false, exists_eq', Nat.zero_le, atI_0, atI_1, atI_2, atI_3, atI_4, atI_5, s_gInD, if_true, if_false, Bool.false_eq_true, Nat.reduceAdd])
section
variable {P : Program} {w : World} {K : PySem.W.Frag} {mg : Str → Option Value} {base : Heap} {CB CP CT : Addr}
def vpRows (g : Blk → List PyData) : VSp := fun ds Q _ => ∃ b, ds = [BD b] ∧ okP b ∧ (noLs (g b) = true → Q (.lst (dDs (g b))) [none])
def vpBodyAt : VSp := fun ds Q _ => ∃ (b : Blk) (k : Nat) (e : PyData × Nat × Nat) (ki : Int), ds = [BD b, .int ki] ∧ ki = (k : Int) ∧ okP b ∧ (final b).pl[k]? = some e ∧ Q (.int (e.2.2 : Nat)) [none, none]
theorem v_bodyat (T : Top K mg CB CP CT) : C8.Cal P w K mg base 6 "body_at" (spOf K [.s, .s] .s vpBodyAt) [] := cal_mono (ok_bodyat T) fun vs H Q E h => by
  obtain ⟨ow, ds, Qv, Qx, kk⟩ := spOf_S h
  obtain ⟨rs, hl, ⟨b, k, e, ki, rfl, rfl, ok, he, q⟩, k2⟩ := kk (by simp)
  simp only [RSs] at rs
  obtain ⟨v, r, rfl, rv, v2, r2, rfl, rv2, rfl⟩ := rs
  have e2 := rv2.b.int
  subst e2
  refine ⟨v, b, k, e, _, rfl, rfl, dp_rs rv (noL_blk ok.1), ok, he, fun H' sm => k2 _ _ [] H' sm (by simp) (fun a z => by cases z) (fun ow' _ => RO_s.mpr ⟨rfl, rs_int⟩) q⟩
theorem v_prog (T : Top K mg CB CP CT) : C8.Cal P w K mg base 21 "_law_any_program" (spOf K [dealSh] .s fun ds Q _ => ∃ s n ns, ds = [dealV s n ns] ∧ dealOk s n ns ∧ ∀ b s' n' ns', goodB b → nB b ≤ 58 → PyData.depthAll (dB b) ≤ 18 → dealOk s' n' ns' → Q (BD b) [some (dealV s' n' ns')]) [] := cal_mono (ok_prog T) fun vs H Q E h => by
  obtain ⟨ow, v0, ws, d0, ds, fp, Qv, Qx, rfl, ro, rs, nd, how, hl, ⟨s, n, ns, ed, ok, q⟩, kk⟩ := spOf_io1 h (by simp) rfl
  injection ed with e1 e2
  subst e1 e2
  simp only [RSs] at rs
  subst rs
  obtain ⟨d, l, rfl, hd, hll, rfl⟩ := RO_deal.mp ro
  refine ⟨d, l, rfl, ⟨s, n, ns, hd, hll, ok⟩, fun v b H' dv gb nb db D' K' => ?_⟩
  obtain ⟨s', n', ns', dx⟩ := D'
  exact kk v (BD b) (dealV s' n' ns') [d, l] [] H' (keep_frame K') (keep_ext ⟨hd, hll, ok⟩ K') (keep_al dx K') (by simpa using nd) (fun a z => .inl z) (fun ow' _ => RO_deal.mpr ⟨d, l, rfl, dx.1, dx.2.1, rfl⟩) (fun ow' _ => RO_s.mpr ⟨rfl, rs_dp _ _ dv (noL_blk gb)⟩) (q b s' n' ns' gb nb db dx.2.2)
/-! ### all that is told -/
def toldL (b : Blk) : List D := [.lst (dDs ((final b).pl.map (·.1))), .lst (dDs (final b).bd), .lst (dDs (final b).gr), .lst (dDs (final b).mm), .lst ((final b).pl.map fun e => .int (e.2.2 : Nat))]
structure noAll (b : Blk) : Prop where
  pl : noLs ((final b).pl.map (·.1)) = true
  bd : noLs (final b).bd = true
  gr : noLs (final b).gr = true
  mm : noLs (final b).mm = true
def vpTold : VSp := fun ds Q _ => ∃ b, ds = [BD b] ∧ okP b ∧ (noAll b → Q (.lst (toldL b)) [none])
theorem scTold : FnScope ["_law_program", "_law_found", "_law_k"] ["_law_program"] (defScope s_l_told) := ⟨rfl, rfl, rfl, by decide +kernel, rfl, by decide +kernel, by decide +kernel⟩
theorem ok_told (T : Top K mg CB CP CT) : C8.Cal P w K mg base 7 "_law_told" (spOf K [.s] .s vpTold) [] := by
  have C_statements : C8.Cal P w K mg base 6 "statements" (spOf K [.s] (.l .s) (vpRows fun b => (final b).pl.map (·.1))) [] := v_rows (fun b ok => ok.1) (ok_stms T)
  have C_bodies : C8.Cal P w K mg base 6 "bodies" (spOf K [.s] (.l .s) (vpRows fun b => (final b).bd)) [] := v_rows (fun b ok => ok.1) (ok_bodies T)
  have C_grounds : C8.Cal P w K mg base 6 "grounds" (spOf K [.s] (.l .s) (vpRows fun b => (final b).gr)) [] := v_rows (fun b ok => ok.1) (ok_grounds T)
  have C_makings : C8.Cal P w K mg base 6 "makings" (spOf K [.s] (.l .s) (vpRows fun b => (final b).mm)) [] := v_rows (fun b ok => ok.1) (ok_makings T)
  have C_body_at := v_bodyat (P := P) (w := w) (base := base) T
  obtain ⟨f, fd, F, gm⟩ := T.h_l_told
  refine ⟨f, fd, ["_law_program"], [], ?_, gm, F.kp, F.binds (fun _ _ _ _ _ _ us hl => match us, hl with | [_], _ => rfl), .nil⟩
  refine F.ok scTold (fun vs H Q E h => h.len) (fun cdv A outer s H vs Q E hr h => ?_)
  refine ⟨_, (pss_cons (ps_set (i := 1) scTold.nd rfl (Or.inl rfl) (pe_lst (pa_cons (C8.pe_c C_statements hr (by omega) rfl (pa_cons (pv 0) pa_nil)) (pa_cons (C8.pe_c C_bodies hr (by omega) rfl (pa_cons (pv 0) pa_nil)) (pa_cons (C8.pe_c C_grounds hr (by omega) rfl (pa_cons (pv 0) pa_nil)) (pa_cons (C8.pe_c C_makings hr (by omega) rfl (pa_cons (pv 0) pa_nil)) pa_nil))))))
  (pss_one (ps_ret (pe_op (VL.catR K rfl) (pv 1) (pe_lst (pa_cons (pe_lc (own := [("_law_k", 2)]) rfl scTold.nd (pi_range1 rfl T.n_range (pa_cons (pe_callB (VL.lenK K rfl) (by rfl) T.n_len (by decide +kernel) (pa_cons (pe_ix (VL.ixL K rfl) (pv 1) pe_int (fun _ _ => rfl)) pa_nil)) pa_nil)) (blkOk_by (own := [("_law_k", 2)]) (N := ["_law_program", "_law_found", "_law_k"]) (sc := defScope s_l_told) (by decide +kernel)) (fun _ _ _ _ _ => (pg_name (i := 2) scTold.nd rfl (Or.inl rfl))) (fun _ _ _ _ _ => pts_nil) (fun _ _ _ _ _ => (C8.pe_c C_body_at hr (by omega) rfl (pa_cons (pv 0) (pa_cons (pv 2) pa_nil))))) pa_nil)))))), fn_run0 (pM := [.s]) (M2 := [.s, .s]) rfl (fun H0 io av rt hrt => (vs_seq (vs_set (i := 1) (VE.s (v_lst (va_cons (VE.s (v_call (va_cons (VQ.e (q_var (i := 0) rfl)) va_nil) (by simp))) (va_cons (VE.s (v_call (va_cons (VQ.e (q_var (i := 0) rfl)) va_nil) (by simp))) (va_cons (VE.s (v_call (va_cons (VQ.e (q_var (i := 0) rfl)) va_nil) (by simp))) (va_cons (VE.s (v_call (va_cons (VQ.e (q_var (i := 0) rfl)) va_nil) (by simp))) va_nil)))))) rfl (hrt 1 (by decide)))
  (vs_ret (VE.s (v_opL (VQ.e (q_var (i := 1) rfl)) (VE.s (v_lst (va_cons (VE.s (v_lc (vs := [2]) (vi_rng1 (va_cons (VQ.e (q_ca (vba_cons (VQ.b (q_op (VQ.b (q_var (i := 1) rfl)) (VQ.b q_int) od_ixL)) vba_nil) cd_len)) va_nil)) (vg_name (i := 2) rfl (hrt 2 (by decide))) vt_yes (v_call (va_cons (VQ.e (q_var (i := 0) rfl)) (va_cons (VQ.e (q_var (i := 2) rfl)) va_nil)) (by simp)) (by decide) (fun i hi => hrt i (by revert i; decide)))) va_nil))) ol_cat))))) (fun ds Qv Qx hl hs => ?_) h⟩
  obtain ⟨b, rfl, ok, q⟩ := hs
  have w60 := ok.pln
  walk_at "vs"
  refine ⟨b, rfl, ok, fun n1 => ⟨b, rfl, ok, fun n2 => ⟨b, rfl, ok, fun n3 => ⟨b, rfl, ok, fun n4 => ⟨small (by decide), ?_⟩⟩⟩⟩⟩
  have q := q ⟨n1, n2, n3, n4⟩
  walk_at "vs"
  have el : (dDs (List.map (fun x => x.1) (final b).pl)).length = (final b).pl.length := by rw [dDs_map, List.length_map, List.length_map]
  refine ⟨_, rfl, by omega, by omega, ?_⟩
  unfold rngD
  rw [el, Int.toNat_natCast]
  refine lc_mapF (fun i : Nat => D.int (0 + (i : Nat))) (fun i => .int (((final b).pl.getD i (.none, 0, 0)).2.2 : Nat)) (List.range (final b).pl.length) [] (small (by simp; omega)) (fun i hi A B hA => ?_) ⟨small (by decide), small (by decide), ?_⟩
  · have hi := List.mem_range.mp hi
    walk_at "vs"
    refine ⟨b, i, _, _, rfl, by omega, ok, List.getElem?_eq_getElem hi, ?_⟩
    have hA := hA [_, _, some (.int (0 + (i : Nat)))] rfl
    rw [List.getD_eq_getElem?_getD, List.getElem?_eq_getElem hi] at hA
    exact hA
  · have er : (List.range (final b).pl.length).map (fun i => D.int (((final b).pl.getD i (.none, 0, 0)).2.2 : Nat)) = (final b).pl.map fun e => D.int (e.2.2 : Nat) := by
      apply List.ext_getElem?
      intro i
      rw [List.getElem?_map, List.getElem?_map]
      by_cases h : i < (final b).pl.length
      · rw [List.getElem?_range h, List.getElem?_eq_getElem h]
        simp [List.getD_eq_getElem?_getD, h]
      · rw [List.getElem?_eq_none (by simp; omega), List.getElem?_eq_none (by omega)]
        rfl
    rw [List.nil_append, er]
    exact q
end
end K06
set_option Elab.async false
set_option linter.all false
set_option maxRecDepth 100000
set_option maxHeartbeats 4000000
namespace K06
open PySem PySem.Spec PyProof.Rows L2 Fb VL
local macro_rules | `(tactic| walk_at "vs") => `(tactic| simp only [s_callIO, s_io, s_fill0, s_fillN, s_fillS, s_putIO, s_wio0, s_wioN, s_wioS, s_give0, s_giveN, s_giveS, s_giveM, Option.map_some, s_seq, s_next, s_break, s_cont, s_set, s_ret, s_retN, s_drop, s_ifS, s_for, s_asg, s_par, s_var, s_c, s_op2, s_op2L, s_op2T, s_ca, s_caL, s_caT, s_nil, s_cons, s_tup, s_lst, s_test, s_and, s_or, s_not, s_if, s_andV, s_orV, s_notV, s_no, s_part, s_sl, s_slL, s_slT, s_ls, s_ts, s_sgs, s_rng1, s_rng2, s_gName, s_gNil, s_gCons, s_gTup, s_lc, s_yes, s_append, s_call, s_dget, s_get2, s_pNil, s_pCons, s_disp, s_m1, s_split, s_indexD, s_w1, s_w2, s_isStr, s_gI, s_gI0, s_gAddS, s_gS, s_gSg, s_gEqI, s_gEqS, s_gEqB, s_gEqNI, s_gEqIS, s_gEqSI, s_gNeI, s_gNeS, s_gIsN, s_gNotN, s_isNon0, s_isNonI, s_isNonS, s_isNonT, s_isNonL, s_gIxL, s_gIxT, s_gIxS, s_gInL, s_gInT, s_gCat, s_gCatT, s_gSlL, s_gSlT, s_gSlS, s_gLenL, s_gLenT, s_gLenS, s_gSum, s_gI2, s_gInt1, s_gInt1b, s_gStrI, s_gAll, s_gSeqL, s_gSeqT, s_gDGet, s_gGet2, s_kDs, s_kDi, s_ioN, s_ioS, s_ioL, s_ioD, s_ioO, s_nones0, s_nones1, List.map_cons, List.map_nil, List.cons_append, List.nil_append, List.append_nil, List.append_assoc, List.getElem?_cons_zero, List.getElem?_cons_succ, List.set_cons_zero, List.set_cons_succ, Option.some.injEq, exists_eq_left', exists_eq_left, D.int.injEq, D.str.injEq, D.tup.injEq, D.lst.injEq, D.bl.injEq, D.dct.injEq, and_true, true_and, List.length_cons, List.length_nil, exists_and_left, exists_eq, Bool.not_true, Bool.not_false, exists_eq', Nat.zero_le, atI_0, atI_1, atI_2, atI_3, atI_4, atI_5, s_gInD, if_true, if_false, Bool.false_eq_true, Nat.reduceAdd])
abbrev sLaw : Stmt := top 26
def m0 : Stm := .no "tell" [.int 123456789] (.inr (.inl rfl))
def m1 : Stm := .mk "let" "xqxqxq" [.int 123456789] (.inl rfl)
structure okM (m : Stm) : Prop where
  fl : flatS m
  gd : goodS m
  n1 : nS m = 1
  dp : (dS m).depth ≤ 1
  wd : ¬ wordS m = "fn" ∧ ¬ wordS m = "if" ∧ ¬ wordS m = "while" ∧ ¬ wordS m = "times"
  c1 : cM m = if wordS m = "let" then 1 else 0
theorem ok_m0 : okM m0 := by
  refine ⟨trivial, ?_, rfl, by decide, by decide +kernel, ?_⟩
  · rw [m0, goodS]
    exact ⟨rfl, (sha_cons (sh_int (n := 13) (m := 1) (by decide) (by decide)) (sha_nil 0 1)).mono (by decide) (by decide)⟩
  · rw [if_neg (by decide +kernel)]
    rfl
theorem ok_m1 : okM m1 := by
  refine ⟨trivial, ?_, rfl, by decide, by decide +kernel, ?_⟩
  · rw [m1, goodS]
    exact ⟨⟨by decide +kernel, by decide +kernel⟩, rfl, (sha_cons (sh_int (n := 13) (m := 1) (by decide) (by decide)) (sha_nil 0 1)).mono (by decide) (by decide)⟩
  · rw [if_pos (by decide +kernel)]
    rfl
theorem SD_m0 : SD m0 = .tup [.str "tell", .int 123456789] := by simp [SD, m0, dS, dD, dDs]
theorem SD_m1 : SD m1 = .tup [.str "let", .str "xqxqxq", .int 123456789] := by simp [SD, m1, dS, dD, dDs]
theorem pick {r : Int} (h0 : 0 ≤ r) (h1 : r < 2) : ∃ m, okM m ∧ atI [D.tup [.str "tell", .int 123456789], D.tup [.str "let", .str "xqxqxq", .int 123456789]] r = some (SD m) := by
  have : r = 0 ∨ r = 1 := by omega
  rcases this with rfl | rfl
  · exact ⟨m0, ok_m0, by rw [SD_m0]; rfl⟩
  · exact ⟨m1, ok_m1, by rw [SD_m1]; rfl⟩
mutual
theorem cpS_le : ∀ s : Stm, cpS s + 2 ≤ 4 * nS s
  | .mk .. => by simp only [cpS, nS]; omega
  | .no .. => by simp only [cpS, nS]; omega
  | .fn _ _ b => by have := cpB_le b; simp only [cpS, nS]; omega
  | .ite _ b1 b2 => by have := cpB_le b1; have := cpB_le b2; simp only [cpS, nS]; omega
  | .whl _ b => by have := cpB_le b; simp only [cpS, nS]; omega
  | .tms _ _ _ b => by have := cpB_le b; simp only [cpS, nS]; omega
theorem cpB_le : ∀ b : Blk, cpB b ≤ 4 * nB b + 1
  | .nil => Nat.le_refl _
  | .cons s r => by
    have := cpS_le s
    have := cpB_le r
    have : 1 ≤ nS s := by cases s <;> simp only [nS] <;> omega
    simp only [cpB, nB]; omega
end
theorem cp_le : ∀ b : Blk, cpB b ≤ 4 * nB b + 1 := by
  exact fun b => cpB_le b
/-! ### what is compared -/
theorem ne_self {x : D} {Q : D → Prop} (h1 : VL.plain x = true) (h2 : SeqAt.shaped (py x) = true) (q : Q (.bl false)) : gNeD x x Q := by
  refine ⟨h1, h1, h2, h2, ?_⟩
  have c : (py x).canLay0 = true := by
    unfold SeqAt.shaped at h2
    rw [Bool.and_eq_true] at h2
    exact h2.1
  rw [eqv_refl _ c]
  exact q
theorem ne_lists {l l' : List D} {Q : D → Prop} (e : l = l') (h1 : plains l = true) (h2 : SeqAt.shaped (.list (pys l)) = true) (q : Q (.bl false)) : gNeD (.lst l) (.lst l') Q := by
  subst e
  exact ne_self (by simpa only [VL.plain] using h1) (by simpa only [py] using h2) q
theorem rows_pl {ds : List PyData} (h : noLs ds = true) (s : SeqAt.shaped (.list ds) = true) : plains (dDs ds) = true ∧ SeqAt.shaped (.list (pys (dDs ds))) = true := by
  have z := pys_dDs ds h
  rw [z.1]
  exact ⟨z.2, s⟩
theorem word_in (s : Stm) : wordS s ∈ (["let", "sum", "call", "set", "tell", "give", "fn", "if", "while", "times", "one", "own", "body", "other", "head"] : List Str) := by
  cases s with
  | mk w x r h => rcases h with e | e | e <;> (subst e; show _ ∈ _; simp [wordS])
  | no w r h => rcases h with e | e | e <;> (subst e; show _ ∈ _; simp [wordS])
  | fn x ps b => simp [wordS]
  | ite a b1 b2 => simp [wordS]
  | whl a b => simp [wordS]
  | tms one x a b => simp [wordS]
def fst1 : D → D
  | .tup (x :: _) => x
  | _ => .non
theorem SD_fst (s : Stm) : ∃ r, SD s = .tup (.str (wordS s) :: r) := by
  obtain ⟨r, e⟩ := hd_word s
  rw [SD_parts, e]
  exact ⟨_, rfl⟩
theorem sim_fst {d d' : PyData} (h : Sim d d') : fst1 (dD d) = fst1 (dD d') := by
  cases h with
  | same d => rfl
  | blk w r r' h => simp only [dD, dDs, fst1]
theorem a2_fst : ∀ {l l' : List PE3}, A2 l l' → l.map (fun e => fst1 (dD e.1)) = l'.map fun e => fst1 (dD e.1)
  | _, _, .nil => rfl
  | _, _, .cons s t => by rw [List.map_cons, List.map_cons, a2_fst t, sim_fst s]
theorem a2_num : ∀ {l l' : List PE3}, A2 l l' → l.map (fun e => D.int (e.2.2 : Nat)) = l'.map fun e => D.int (e.2.2 : Nat)
  | _, _, .nil => rfl
  | _, _, .cons s t => by rw [List.map_cons, List.map_cons, a2_num t]
theorem a2_at : ∀ {l l' : List PE3} {i : Nat} {e' : PE3}, A2 l l' → l'[i]? = some e' → ∃ e, l[i]? = some e ∧ Sim e.1 e'.1
  | _, _, i, _, .nil, h => by simp at h
  | _, _, 0, _, .cons s t, h => by
    simp only [List.getElem?_cons_zero, Option.some.injEq] at h
    subst h
    exact ⟨_, rfl, s⟩
  | _, _, i + 1, _, .cons s t, h => by
    simp only [List.getElem?_cons_succ] at h
    obtain ⟨e, h1, h2⟩ := a2_at t h
    exact ⟨e, by simpa using h1, h2⟩
theorem lat_rowB {j : Nat} {k : PyData} {ps : List Str} (h : okK k) : dD (latB j (rowB k ps)) = latR 0 (j : Int) (dD (rowB k ps)) := by
  rcases h with rfl | ⟨n, rfl⟩
  · simp [rowB, latB, shD, dD, dDs, latR, latV]
  · simp [rowB, latB, shD, dD, dDs, latR, latV]
theorem lat_rowG {j : Nat} {s : Str} {k a : PyData} (h : okK k) : dD (latG j (rowG s k a)) = latR 1 (j : Int) (dD (rowG s k a)) := by
  rcases h with rfl | ⟨n, rfl⟩
  · simp [rowG, latG, shD, dD, dDs, latR, latV]
  · simp [rowG, latG, shD, dD, dDs, latR, latV]
theorem lat_rowM {j n g : Nat} {x : Str} : dD (latG j (rowM x n g)) = latR 1 (j : Int) (dD (rowM x n g)) := by
  simp [rowM, latG, shD, dD, dDs, latR, latV]
theorem ok_rowB {k : PyData} {ps : List Str} (h : okK k) : okRow 0 (dD (rowB k ps)) := by
  rcases h with rfl | ⟨n, rfl⟩
  · exact ⟨[.non, .tup (dDs (ps.map .str))], .non, by simp only [rowB, dD, dDs], rfl, .inl rfl, by simp⟩
  · exact ⟨[.int n, .tup (dDs (ps.map .str))], .int n, by simp only [rowB, dD, dDs], rfl, .inr ⟨_, rfl⟩, by simp⟩
theorem ok_rowG {s : Str} {k a : PyData} (h : okK k) : okRow 1 (dD (rowG s k a)) := by
  rcases h with rfl | ⟨n, rfl⟩
  · exact ⟨[.str s, .non, dD a], .non, by simp only [rowG, dD, dDs], rfl, .inl rfl, by simp⟩
  · exact ⟨[.str s, .int n, dD a], .int n, by simp only [rowG, dD, dDs], rfl, .inr ⟨_, rfl⟩, by simp⟩
theorem ok_rowM {x : Str} {n g : Nat} : okRow 1 (dD (rowM x n g)) := ⟨[.str x, .int n, .int g], .int n, by simp only [rowM, dD, dDs], rfl, .inr ⟨_, rfl⟩, by simp⟩
theorem map_rows {p : Nat} {j : Int} {f : PyData → PyData} : ∀ {ds : List PyData}, (∀ d ∈ ds, dD (f d) = latR p j (dD d)) → dDs (ds.map f) = (dDs ds).map (latR p j)
  | [], _ => by simp [dDs]
  | d :: ds, h => by rw [List.map_cons, dDs, dDs, List.map_cons, h d List.mem_cons_self, map_rows fun e z => h e (List.mem_cons_of_mem _ z)]
theorem pys_nums : ∀ l : List PE3, pys (l.map fun e => D.int (e.2.2 : Nat)) = l.map (fun e => nD e.2.2) ∧ plains (l.map fun e => D.int (e.2.2 : Nat)) = true
  | [] => ⟨rfl, rfl⟩
  | e :: l => by
    have z := pys_nums l
    rw [List.map_cons, List.map_cons, pys, plains, z.1, z.2]
    exact ⟨rfl, rfl⟩
theorem py_told {b : Blk} (na : noAll b) : py (.lst (toldL b)) = .list [.list ((final b).pl.map (·.1)), .list (final b).bd, .list (final b).gr, .list (final b).mm, .list ((final b).pl.map fun e => nD e.2.2)] ∧ VL.plain (.lst (toldL b)) = true := by
  have a1 := pys_dDs _ na.pl
  have a2 := pys_dDs _ na.bd
  have a3 := pys_dDs _ na.gr
  have a4 := pys_dDs _ na.mm
  have a5 := pys_nums (final b).pl
  simp only [toldL, py, pys, VL.plain, plains, a1.1, a1.2, a2.1, a2.2, a3.1, a3.2, a4.1, a4.2, a5.1, a5.2, and_self, Bool.and_self, and_true]
theorem sh_told {b : Blk} (ok : okP b) : Sh (.list [.list ((final b).pl.map (·.1)), .list (final b).bd, .list (final b).gr, .list (final b).mm, .list ((final b).pl.map fun e => nD e.2.2)]) 9100000 42 := by
  have p1 := ok.pl
  have r1 := ok.rows
  have l1 := ok.pln
  have n1 := ok.n
  simp only [TS.n] at n1
  refine (sh_lst (sha_cons (sh_stms p1 l1) (sha_cons ((sh_rows r1.2.2 (by omega)).mono (Nat.le_refl _) (by decide)) (sha_cons ((sh_rows r1.1 (by omega)).mono (Nat.le_refl _) (by decide)) (sha_cons ((sh_rows r1.2.1 (by omega)).mono (Nat.le_refl _) (by decide)) (sha_cons ((sh_nums p1 l1).mono (Nat.le_refl _) (by decide)) (sha_nil 0 41))))))).mono (by decide) (by decide)
theorem told_repr {b : Blk} {Q : D → Prop} (ok : okP b) (na : noAll b) (q : Q (.str (py (.lst (toldL b))).shown)) : gRepr [.lst (toldL b)] Q := by
  obtain ⟨e, hp⟩ := py_told na
  have s := sh_told ok
  refine ⟨.inl ⟨_, rfl⟩, hp, ?_, ?_, ?_, ?_, q⟩
  · rw [e]; exact s.sw
  · rw [e]; exact s.nd
  · rw [e]; exact Nat.le_trans s.dp (by decide)
  · rw [e]; exact Nat.le_trans s.ln (by decide)
theorem eqv_word {w w2 : Str} {r r2 : List PyData} (h : ¬ w = w2) : PyData.eqv (.tuple (.str w :: r)) (.tuple (.str w2 :: r2)) = false := by
  simp [PyData.eqv, PyData.eqvAll, h]
theorem dS_word (m : Stm) : ∃ r, dS m = .tuple (.str (wordS m) :: r) := by
  cases m <;> simp only [dS, wordS] <;> exact ⟨_, rfl⟩
theorem sim_ne {d d' : PyData} {m : Stm} (s : Sim d d') (h : PyData.eqv d (dS m) = false) (om : okM m) : PyData.eqv d' (dS m) = false := by
  cases s with
  | same => exact h
  | blk w r r' hw =>
    obtain ⟨r0, e⟩ := dS_word m
    rw [e]
    refine eqv_word fun e2 => ?_
    have := om.wd
    rcases hw with z | z | z | z
    · exact this.1 (by rw [← e2, z])
    · exact this.2.1 (by rw [← e2, z])
    · exact this.2.2.1 (by rw [← e2, z])
    · exact this.2.2.2 (by rw [← e2, z])
theorem cut_out {A B : List D} {x : D} {n : Nat} (h : A.length = n) : cuD (A ++ x :: B) none (some (n : Int)) = A ∧ cuD (A ++ x :: B) (some ((n : Int) + 1)) none = B := by
  have e : ((n : Int) + 1) = ((n + 1 : Nat) : Int) := by omega
  rw [e, cuD_to (by rw [List.length_append]; omega), cuD_from (by rw [List.length_append, List.length_cons]; omega)]
  subst h
  refine ⟨List.take_left, ?_⟩
  rw [show A ++ x :: B = (A ++ [x]) ++ B from by simp, show A.length + 1 = (A ++ [x]).length from by simp, List.drop_left]
theorem fst_word {e : PE3} (h : ∃ s, e.1 = dS s) : ∃ s r, dD e.1 = .tup (.str (wordS s) :: r) := by
  obtain ⟨s, es⟩ := h
  obtain ⟨r, er⟩ := SD_fst s
  exact ⟨s, r, by rw [es]; exact er⟩
theorem words_ok : ∀ l : List PE3, (∀ e ∈ l, ∃ s, e.1 = dS s) → plains (l.map fun e => fst1 (dD e.1)) = true ∧ ∃ n, ShA (pys (l.map fun e => fst1 (dD e.1))) n 1
  | [], _ => ⟨rfl, 0, sha_nil 0 1⟩
  | e :: l, h => by
    obtain ⟨p, n, z⟩ := words_ok l fun e z => h e (List.mem_cons_of_mem _ z)
    obtain ⟨s, r, er⟩ := fst_word (h e List.mem_cons_self)
    have e1 : fst1 (dD e.1) = .str (wordS s) := by rw [er]; rfl
    rw [List.map_cons, e1, pys, plains]
    exact ⟨by rw [p]; rfl, _, sha_cons (sh_w (word_in s)) z⟩
theorem words_ne {l l' : List PE3} {Q : D → Prop} (h : ∀ e ∈ l, ∃ s, e.1 = dS s) (e : (l.map fun e => fst1 (dD e.1)) = l'.map fun e => fst1 (dD e.1)) (q : Q (.bl false)) : gNeD (.lst (l.map fun e => fst1 (dD e.1))) (.lst (l'.map fun e => fst1 (dD e.1))) Q := by
  obtain ⟨p, n, z⟩ := words_ok l h
  exact ne_lists e p ((sh_lst z).shaped (by decide)) q
theorem noLs_filter {p : PyData → Bool} : ∀ {l : List PyData}, noLs l = true → noLs (l.filter p) = true
  | [], _ => rfl
  | d :: l, h => by
    rw [noLs, Bool.and_eq_true] at h
    rw [List.filter_cons]
    split
    · rw [noLs, h.1, noLs_filter h.2]; rfl
    · exact noLs_filter h.2
theorem final_eq (b : Blk) : final b = layB b 0 0 t0 := rfl
section
variable {P : Program} {w : World} {K : PySem.W.Frag} {mg : Str → Option Value} {base : Heap} {CB CP CT : Addr}
theorem scLaw : FnScope ["_law_script", "_law_deal_here", "_law_program", "_law_more", "_law_other", "_law_left", "_law_first", "_law_second", "_law_j", "_law_kept", "_law_one"] ["_law_script"] (defScope sLaw) := ⟨rfl, rfl, rfl, by decide +kernel, rfl, by decide +kernel, by decide +kernel⟩
theorem ok_law {f : Addr} {fd : FuncData} (F : L2.Fun K "law" "law" sLaw f fd) (T : Top K mg CB CP CT) : FnG P w K mg base 22 f fd ["_law_script"] (spOf K [.s] .s vpLaw) := by
  have C_law_deal := v_deal (ok_deal (P := P) (w := w) (base := base) T)
  have C_law_draw := v_draw (ok_draw (P := P) (w := w) (base := base) T)
  have C_law_any_program := v_prog (P := P) (w := w) (base := base) T
  have C_law_places := ok_places (P := P) (w := w) (base := base) T 10
  have C_law_put_in := ok_put (P := P) (w := w) (base := base) T 10
  have C_law_told := ok_told (P := P) (w := w) (base := base) T
  have C_law_row_later := ok_rowlater (P := P) (w := w) (base := base) T
  refine ok_G F scLaw (fun vs H Q E h => h.len) (fun cdv A outer s H vs Q E gd hr h => ?_)
  have hu := hu_of hr
  have hu64 := hr.units
  have hu65 := u65 hr
  refine ⟨_, (pss_cons (ps_set (i := 1) scLaw.nd rfl (Or.inl rfl) (C8.pe_c C_law_deal hr (by omega) rfl (pa_cons (pv 0) pa_nil)))
  (pss_cons (ps_set (i := 2) scLaw.nd rfl (Or.inl rfl) (C8.pe_c C_law_any_program hr (by omega) rfl (pa_cons (pv 1) pa_nil)))
  (pss_cons (ps_set (i := 3) scLaw.nd rfl (Or.inl rfl) (pe_ix (VL.ixL K rfl) (pe_lst (pa_cons (pe_tup (pa_cons pe_str (pa_cons pe_int pa_nil))) (pa_cons (pe_tup (pa_cons pe_str (pa_cons pe_str (pa_cons pe_int pa_nil)))) pa_nil))) (C8.pe_c C_law_draw hr (by omega) rfl (pa_cons (pv 1) (pa_cons pe_int pa_nil))) (fun _ _ => rfl)))
  (pss_cons (ps_asg (C8.pe_c C_law_put_in hr (by omega) rfl (pa_cons (pv 2) (pa_cons (C8.pe_c C_law_draw hr (by omega) rfl (pa_cons (pv 1) (pa_cons (C8.pe_c C_law_places hr (by omega) rfl (pa_cons (pv 2) pa_nil)) pa_nil))) (pa_cons (pv 3) pa_nil)))) (VL.tupTK K rfl (n := 2) rfl (pgs_cons (pg_name (i := 4) scLaw.nd rfl (Or.inl rfl)) (pgs_cons (pg_name (i := 5) scLaw.nd rfl (Or.inl rfl)) pgs_nil))))
  (pss_cons (ps_par (by rfl) scLaw.nd (i := 6) (j := 7) rfl rfl (by decide) rfl rfl (pa_cons (C8.pe_c C_law_told hr (by omega) rfl (pa_cons (pv 2) pa_nil)) (pa_cons (C8.pe_c C_law_told hr (by omega) rfl (pa_cons (pv 4) pa_nil)) pa_nil)) (by rfl))
  (pss_cons (ps_if (PW.pt (pw_and (pt_cmpR (VL.inDK K rfl hu65) (pv 3) (pe_ix (VL.ixL K rfl) (pv 7) pe_int (fun _ _ => rfl)) (by rfl)) (pw_and1 (pt_cmpR (VL.notInDK K rfl hu65) (pv 3) (pe_ix (VL.ixL K rfl) (pv 6) pe_int (fun _ _ => rfl)) (by rfl)))))
    (pss_cons (ps_set (i := 8) scLaw.nd rfl (Or.inr rfl) (pe_bm PySem.F.plainAttrs_list PySem.F.slot_list_index PySem.F.type_list_index (VL.indexDK K rfl hu65) (pe_ix (VL.ixL K rfl) (pv 7) pe_int (fun _ _ => rfl)) (pa_cons (pv 3) pa_nil)))
  (pss_cons (ps_if (pt_cmpR (VL.neDK K rfl hu64) (pe_lc (own := [("_law_one", 10)]) rfl scLaw.nd (VL.piLK K rfl (pe_op (VL.catR K rfl) (pe_slice (VL.slL K rfl) (pe_ix (VL.ixL K rfl) (pv 7) pe_int (fun _ _ => rfl)) po_none (po_some (pv 8))) (pe_slice (VL.slL K rfl) (pe_ix (VL.ixL K rfl) (pv 7) pe_int (fun _ _ => rfl)) (po_some (pe_op op_add (pv 8) pe_int)) po_none))) (blkOk_by (own := [("_law_one", 10)]) (N := ["_law_script", "_law_deal_here", "_law_program", "_law_more", "_law_other", "_law_left", "_law_first", "_law_second", "_law_j", "_law_kept", "_law_one"]) (sc := defScope sLaw) (by decide +kernel)) (fun _ _ _ _ _ => (pg_name (i := 10) scLaw.nd rfl (Or.inl rfl))) (fun _ _ _ _ _ => pts_nil) (fun _ _ _ _ _ => (pe_ix (VL.ixT K rfl) (pv 10) pe_int (fun _ _ => rfl)))) (pe_lc (own := [("_law_one", 10)]) rfl scLaw.nd (VL.piLK K rfl (pe_ix (VL.ixL K rfl) (pv 6) pe_int (fun _ _ => rfl))) (blkOk_by (own := [("_law_one", 10)]) (N := ["_law_script", "_law_deal_here", "_law_program", "_law_more", "_law_other", "_law_left", "_law_first", "_law_second", "_law_j", "_law_kept", "_law_one"]) (sc := defScope sLaw) (by decide +kernel)) (fun _ _ _ _ _ => (pg_name (i := 10) scLaw.nd rfl (Or.inl rfl))) (fun _ _ _ _ _ => pts_nil) (fun _ _ _ _ _ => (pe_ix (VL.ixT K rfl) (pv 10) pe_int (fun _ _ => rfl)))) (nomark _))
    (pss_one (ps_ret pe_bl))
    pss_nil)
  (pss_cons (ps_if (PW.pt (pw_or (pt_cmpR (VL.neDK K rfl hu64) (pe_ix (VL.ixL K rfl) (pv 7) pe_int (fun _ _ => rfl)) (C8.pe_c C_law_row_later hr (by omega) rfl (pa_cons (pe_ix (VL.ixL K rfl) (pv 6) pe_int (fun _ _ => rfl)) (pa_cons pe_int (pa_cons (pv 8) pa_nil)))) (nomark _)) (pw_or1 (pt_cmpR (VL.neDK K rfl hu64) (pe_ix (VL.ixL K rfl) (pv 7) pe_int (fun _ _ => rfl)) (C8.pe_c C_law_row_later hr (by omega) rfl (pa_cons (pe_ix (VL.ixL K rfl) (pv 6) pe_int (fun _ _ => rfl)) (pa_cons pe_int (pa_cons (pv 8) pa_nil)))) (nomark _)))))
    (pss_one (ps_ret pe_bl))
    pss_nil)
  (pss_cons (ps_setLc (i := 9) (own := [("_law_one", 10)]) rfl scLaw.nd rfl rfl (sw_true rfl rfl rfl (by decide +kernel)) (VL.piLK K rfl (pe_ix (VL.ixL K rfl) (pv 7) pe_int (fun _ _ => rfl))) (blkOk_by (own := [("_law_one", 10)]) (N := ["_law_script", "_law_deal_here", "_law_program", "_law_more", "_law_other", "_law_left", "_law_first", "_law_second", "_law_j", "_law_kept", "_law_one"]) (sc := defScope sLaw) (by decide +kernel)) (fun _ _ _ _ _ => (pg_name (i := 10) scLaw.nd rfl (Or.inl rfl))) (fun _ _ _ _ _ => pts_one (pt_cmpR op_ne (pe_ix (VL.ixT K rfl) (pv 10) pe_int (fun _ _ => rfl)) (pv 8) (nomark _))) (fun _ _ _ _ _ => (pv 10)))
  (pss_cons (ps_if (PW.pt (pw_or (pt_cmpR (VL.neDK K rfl hu64) (pv 9) (C8.pe_c C_law_row_later hr (by omega) rfl (pa_cons (pe_ix (VL.ixL K rfl) (pv 6) pe_int (fun _ _ => rfl)) (pa_cons pe_int (pa_cons (pv 8) pa_nil)))) (nomark _)) (pw_or1 (pt_cmpR op_ne (pe_callB (VL.lenK K rfl) (by rfl) T.n_len (by decide +kernel) (pa_cons (pe_ix (VL.ixL K rfl) (pv 7) pe_int (fun _ _ => rfl)) pa_nil)) (pe_op op_add (pe_callB (VL.lenK K rfl) (by rfl) T.n_len (by decide +kernel) (pa_cons (pv 9) pa_nil)) (pe_callTy call_int1 (by rfl) T.n_int (by decide +kernel) (pa_cons (pe_cmpR op_eq (pe_ix (VL.ixT K rfl) (pv 3) pe_int (fun _ _ => rfl)) pe_str (nomark _)) pa_nil))) (nomark _)))))
    (pss_one (ps_ret pe_bl))
    pss_nil)
  (pss_one (ps_if (pt_cmpR (VL.neDK K rfl hu64) (pe_op (VL.catR K rfl) (pe_slice (VL.slL K rfl) (pe_ix (VL.ixL K rfl) (pv 7) pe_int (fun _ _ => rfl)) po_none (po_some (pv 8))) (pe_slice (VL.slL K rfl) (pe_ix (VL.ixL K rfl) (pv 7) pe_int (fun _ _ => rfl)) (po_some (pe_op op_add (pv 8) pe_int)) po_none)) (pe_ix (VL.ixL K rfl) (pv 6) pe_int (fun _ _ => rfl)) (nomark _))
    (pss_one (ps_ret pe_bl))
    pss_nil)))))))
    pss_nil)
  (pss_one (ps_ret (pe_cmpR op_eq (pe_callB (VL.reprK K rfl gd hu64) (by rfl) T.n_repr (by decide +kernel) (pa_cons (C8.pe_c C_law_told hr (by omega) rfl (pa_cons (pv 2) pa_nil)) pa_nil)) (pe_callB (VL.reprK K rfl gd hu64) (by rfl) T.n_repr (by decide +kernel) (pa_cons (pv 6) pa_nil)) (nomark _)))))))))), fn_run0 (pM := [.s]) (M2 := [dealSh, .s, .s, .s, .s, .s, .s, .s, .s, .s]) rfl (fun H0 io av rt hrt => (vs_seq (vs_set (i := 1) (v_call (va_cons (VQ.e (q_var (i := 0) rfl)) va_nil) (by simp)) rfl (hrt 1 (by decide)))
  (vs_seq (vs_set (i := 2) (v_callIO (vax_io (i := 1) rfl vax_nil) ⟨rfl, rfl, (by decide), trivial⟩) rfl (hrt 2 (by decide)))
  (vs_seq (vs_set (i := 3) (v_op (VE.s (v_lst (va_cons (v_tup (va_cons (VQ.e q_str) (va_cons (VQ.e q_int) va_nil))) (va_cons (v_tup (va_cons (VQ.e q_str) (va_cons (VQ.e q_str) (va_cons (VQ.e q_int) va_nil)))) va_nil)))) (v_callIO (vax_io (i := 1) rfl (vax_cons (VQ.e q_int) vax_nil)) ⟨rfl, rfl, (by decide), rfl, trivial⟩) od_ixL) rfl (hrt 3 (by decide)))
  (vs_seq (vs_asg (v_call (va_cons (VQ.e (q_var (i := 2) rfl)) (va_cons (v_callIO (vax_io (i := 1) rfl (vax_cons (v_call (va_cons (VQ.e (q_var (i := 2) rfl)) va_nil) (by simp)) vax_nil)) ⟨rfl, rfl, (by decide), rfl, trivial⟩) (va_cons (VQ.e (q_var (i := 3) rfl)) va_nil))) (by simp)) (vg_tup (vg_cons (vg_name (i := 4) rfl (hrt 4 (by decide))) (vg_cons (vg_name (i := 5) rfl (hrt 5 (by decide))) vg_nil))))
  (vs_seq (vs_par (i := 6) (j := 7) (va_cons (v_call (va_cons (VQ.e (q_var (i := 2) rfl)) va_nil) (by simp)) (va_cons (v_call (va_cons (VQ.e (q_var (i := 4) rfl)) va_nil) (by simp)) va_nil)) rfl rfl (hrt 6 (by decide)) (hrt 7 (by decide)))
  (vs_seq (vs_if (vt_and (vt_test (VQ.e (q_op (VQ.b (q_var (i := 3) rfl)) (VQ.b (q_op (VQ.b (q_var (i := 7) rfl)) (VQ.b q_int) od_ixL)) od_inD))) (vt_test (VQ.e (q_op (VQ.b (q_var (i := 3) rfl)) (VQ.b (q_op (VQ.b (q_var (i := 6) rfl)) (VQ.b q_int) od_ixL)) od_notInD))))
    (vs_seq (vs_set (i := 8) (v_indexD (VQ.e (q_op (VQ.b (q_var (i := 7) rfl)) (VQ.b q_int) od_ixL)) (VQ.e (q_var (i := 3) rfl))) rfl (hrt 8 (by decide)))
  (vs_seq (vs_if (vt_test (v_op (VE.s (v_lc (vs := [10]) (vi_list (VE.s (v_opL (VE.s (v_slL (VQ.e (q_op (VQ.b (q_var (i := 7) rfl)) (VQ.b q_int) od_ixL)) vo_none (vo_some (VQ.e (q_var (i := 8) rfl))) ol_sl)) (VE.s (v_slL (VQ.e (q_op (VQ.b (q_var (i := 7) rfl)) (VQ.b q_int) od_ixL)) (vo_some (VQ.e (q_op (VQ.b (q_var (i := 8) rfl)) (VQ.b q_int) od_i0))) vo_none ol_sl)) ol_cat))) (vg_name (i := 10) rfl (hrt 10 (by decide))) vt_yes (VQ.e (q_op (VQ.b (q_var (i := 10) rfl)) (VQ.b q_int) od_ixT)) (by decide) (fun i hi => hrt i (by revert i; decide)))) (VE.s (v_lc (vs := [10]) (vi_list (VQ.e (q_op (VQ.b (q_var (i := 6) rfl)) (VQ.b q_int) od_ixL))) (vg_name (i := 10) rfl (hrt 10 (by decide))) vt_yes (VQ.e (q_op (VQ.b (q_var (i := 10) rfl)) (VQ.b q_int) od_ixT)) (by decide) (fun i hi => hrt i (by revert i; decide)))) od_neD))
    (vs_ret (VQ.e q_bl))
    vs_next)
  (vs_seq (vs_if (vt_or (vt_test (v_op (VQ.e (q_op (VQ.b (q_var (i := 7) rfl)) (VQ.b q_int) od_ixL)) (v_call (va_cons (VQ.e (q_op (VQ.b (q_var (i := 6) rfl)) (VQ.b q_int) od_ixL)) (va_cons (VQ.e q_int) (va_cons (VQ.e (q_var (i := 8) rfl)) va_nil))) (by simp)) od_neD)) (vt_test (v_op (VQ.e (q_op (VQ.b (q_var (i := 7) rfl)) (VQ.b q_int) od_ixL)) (v_call (va_cons (VQ.e (q_op (VQ.b (q_var (i := 6) rfl)) (VQ.b q_int) od_ixL)) (va_cons (VQ.e q_int) (va_cons (VQ.e (q_var (i := 8) rfl)) va_nil))) (by simp)) od_neD)))
    (vs_ret (VQ.e q_bl))
    vs_next)
  (vs_seq (vs_set (i := 9) (VE.s (v_lc (vs := [10]) (vi_list (VQ.e (q_op (VQ.b (q_var (i := 7) rfl)) (VQ.b q_int) od_ixL))) (vg_name (i := 10) rfl (hrt 10 (by decide))) (vt_test (VQ.e (q_op (VQ.b (q_op (VQ.b (q_var (i := 10) rfl)) (VQ.b q_int) od_ixT)) (VQ.b (q_var (i := 8) rfl)) od_ne))) (VQ.e (q_var (i := 10) rfl)) (by decide) (fun i hi => hrt i (by revert i; decide)))) rfl (hrt 9 (by decide)))
  (vs_seq (vs_if (vt_or (vt_test (v_op (VQ.e (q_var (i := 9) rfl)) (v_call (va_cons (VQ.e (q_op (VQ.b (q_var (i := 6) rfl)) (VQ.b q_int) od_ixL)) (va_cons (VQ.e q_int) (va_cons (VQ.e (q_var (i := 8) rfl)) va_nil))) (by simp)) od_neD)) (vt_test (VQ.e (q_op (VQ.b (q_ca (vba_cons (VQ.b (q_op (VQ.b (q_var (i := 7) rfl)) (VQ.b q_int) od_ixL)) vba_nil) cd_len)) (VQ.b (q_op (VQ.b (q_ca (vba_cons (VQ.b (q_var (i := 9) rfl)) vba_nil) cd_len)) (VQ.b (q_ca (vba_cons (VQ.b (q_op (VQ.b (q_op (VQ.b (q_var (i := 3) rfl)) (VQ.b q_int) od_ixT)) (VQ.b q_str) od_eq)) vba_nil) cd_int1)) od_i0)) od_ne))))
    (vs_ret (VQ.e q_bl))
    vs_next)
  (vs_if (vt_test (v_op (VE.s (v_opL (VE.s (v_slL (VQ.e (q_op (VQ.b (q_var (i := 7) rfl)) (VQ.b q_int) od_ixL)) vo_none (vo_some (VQ.e (q_var (i := 8) rfl))) ol_sl)) (VE.s (v_slL (VQ.e (q_op (VQ.b (q_var (i := 7) rfl)) (VQ.b q_int) od_ixL)) (vo_some (VQ.e (q_op (VQ.b (q_var (i := 8) rfl)) (VQ.b q_int) od_i0))) vo_none ol_sl)) ol_cat)) (VQ.e (q_op (VQ.b (q_var (i := 6) rfl)) (VQ.b q_int) od_ixL)) od_neD))
    (vs_ret (VQ.e q_bl))
    vs_next))))))
    vs_next)
  (vs_ret (v_op (v_ca (va_cons (v_call (va_cons (VQ.e (q_var (i := 2) rfl)) va_nil) (by simp)) va_nil) cd_repr) (VQ.e (q_ca (vba_cons (VQ.b (q_var (i := 6) rfl)) vba_nil) cd_repr)) od_eq))))))))) (fun ds Qv Qx hl hs => ?_) h⟩
  obtain ⟨ns, rfl, h63, q⟩ := hs
  walk_at "vs"
  refine ⟨ns, rfl, h63, fun s0 n0 l0 ok0 => ⟨s0, n0, l0, rfl, ok0, fun b s1 n1 l1 gb nb db ok1 => ⟨small (by decide), small (by decide), small (by decide), s1, n1, l1, 2, rfl, ok1, by decide, by decide, fun r s2 n2 l2 r0 r1 ok2 => ?_⟩⟩⟩
  have okb : okP b := ⟨gb, by omega, by omega⟩
  have hb9 : hB b < 10 := by
    have := hB_dep b
    omega
  obtain ⟨m, om, hm⟩ := pick r0 r1
  walk_at "vs"
  refine ⟨SD m, hm, b, rfl, hb9, by omega, ?_⟩
  walk_at "vs"
  have cp1 : 0 < cpB b := by cases b <;> simp only [cpB] <;> omega
  have cpz := cp_le b
  refine ⟨s2, n2, l2, _, rfl, ok2, by omega, by omega, fun k s3 n3 l3 k0 k1 ok3 => ?_⟩
  walk_at "vs"
  refine ⟨m, b, k, rfl, gb, hb9, by omega, ?_⟩
  have okc : okP (putB m b k).1 := by
    have e1 := putB_n om.n1 b k k0 k1
    have e2 := putB_d om.dp b k
    exact ⟨putB_good om.gd b k gb, by omega, by omega⟩
  obtain ⟨j, _, r1⟩ := putB_rel om.fl b k 0 0 t0 t0 k0 k1 r00
  walk_at "vs"
  refine ⟨b, rfl, okb, fun nab => ⟨_, rfl, okc, fun nac => ?_⟩⟩
  walk_at "vs"
  obtain ⟨⟨SA, SB, SA', SB', qm, ep, ep', ej, a2a, a2b⟩, hbd, hgr, hmm, hmn⟩ := r1
  have f1 := formB b 0 0 t0 form0
  have f2 := formB (putB m b k).1 0 0 t0 form0
  generalize ec : (putB m b k).1 = c at *
  have f1 : Form (final b) := f1
  have f2 : Form (final c) := f2
  have ep : (final b).pl = SA ++ SB := ep
  have ep' : (final c).pl = SA' ++ (dS m, qm) :: SB' := ep'
  have hbd : (final c).bd = (final b).bd.map (latB j) := hbd
  have hgr : (final c).gr = (final b).gr.map (latG j) := hgr
  have hmm : (final c).mm.filter (kept j) = (final b).mm.map (latG j) := hmm
  have hmn : (final c).mm.length = (final b).mm.length + cM m := hmn
  have p1 := okb.pl
  have p2 := okc.pl
  have r1 := okb.rows
  have r2 := okc.rows
  have l1 := okb.pln
  have l2 := okc.pln
  have n1 := okb.n
  have n2 := okc.n
  have sh1 := (sh_stms p1 l1).shaped (by decide)
  have sh2 := (sh_stms p2 l2).shaped (by decide)
  obtain ⟨pa1, pb1⟩ := rows_pl nab.pl sh1
  obtain ⟨pa2, pb2⟩ := rows_pl nac.pl sh2
  have gm := noL_dS m om.gd
  have pm := py_dD (dS m) gm
  have sm : SeqAt.shaped (dS m) = true := by
    obtain ⟨x, hx⟩ := shS m om.gd
    have := om.dp
    exact hx.deep.shaped (by omega)
  have cm : (dS m).canLay0 = true := by
    obtain ⟨x, hx⟩ := shS m om.gd
    exact hx.cl
  have pys1 := (pys_dDs _ nab.pl).1
  have pys2 := (pys_dDs _ nac.pl).1
  have any2 : ((final c).pl.map (·.1)).any (fun z => PyData.eqv z (dS m)) = true := by
    rw [ep', List.map_append, List.any_append, List.map_cons, List.any_cons]
    show (_ || (PyData.eqv (dS m) (dS m) || _)) = true
    rw [eqv_refl _ cm]
    simp
  have pmS : py (SD m) = dS m := pm.1
  refine ⟨_, _, rfl, ?_⟩
  dsimp only [toldL]
  walk_at "vs"
  rw [pmS, pys2, any2]
  refine ⟨pm.2, pa2, sm, sh2, ?_⟩
  rw [if_pos rfl, pys1]
  refine ⟨pm.2, pa1, sm, sh1, ?_⟩
  cases hc : ((final b).pl.map (·.1)).any (fun z => PyData.eqv z (dS m)) with
  | true =>
    rw [if_neg (by simp)]
    refine ⟨b, rfl, okb, fun _ => told_repr okb nab (told_repr okb nab ?_)⟩
    exact ⟨rfl, by rw [eqD, decide_eq_true rfl]; exact q⟩
  | false =>
    rw [if_pos (by simp)]
    have cc := cut_out (A := SA'.map fun e => dD e.1) (B := SB'.map fun e => dD e.1) (x := SD m) (n := SA'.length) (by rw [List.length_map])
    have ce : dDs ((final c).pl.map (·.1)) = SA'.map (fun e => dD e.1) ++ SD m :: SB'.map fun e => dD e.1 := by
      rw [ep', dDs_map, List.map_append, List.map_cons, List.map_append, List.map_cons, List.map_map, List.map_map]
      rfl
    have c1 : cuD (dDs ((final c).pl.map (·.1))) none (some (SA'.length : Nat)) = SA'.map fun e => dD e.1 := by rw [ce]; exact cc.1
    have c2 : cuD (dDs ((final c).pl.map (·.1))) (some ((SA'.length : Nat) + 1)) none = SB'.map fun e => dD e.1 := by rw [ce]; exact cc.2
    refine ⟨pa2, pm.2, sh2, sm, SA'.length, dS m, ?_, eqv_refl _ cm, ?_, ?_, ?_⟩
    · rw [ep', List.map_append, List.map_cons]
      show (List.map _ SA' ++ dS m :: _)[SA'.length]? = _
      rw [List.getElem?_append_right (by rw [List.length_map]; exact Nat.le_refl _), List.length_map, Nat.sub_self]
      rfl
    · intro i z hi hz
      rw [ep', List.map_append, List.getElem?_append_left (by rw [List.length_map]; exact hi), List.getElem?_map] at hz
      obtain ⟨e', he', rfl⟩ := Option.map_eq_some_iff.mp hz
      obtain ⟨e, he, sm'⟩ := a2_at a2a he'
      have hin : e.1 ∈ (final b).pl.map (·.1) := by
        rw [ep]
        exact List.mem_map.mpr ⟨e, List.mem_append_left _ (List.mem_of_getElem? he), rfl⟩
      have h0 : PyData.eqv e.1 (dS m) = false := by
        have := (List.any_eq_false.mp hc) e.1 hin
        simpa using this
      exact sim_ne sm' h0 om
    · rw [c1, c2, List.length_map, List.length_map]
      rw [ep', List.length_append, List.length_cons] at l2
      exact Nat.le_trans (by omega) (show 60 ≤ sizeLine by decide)
    · have jl : SA'.length = j := by rw [← ej, a2a.len]
      rw [c1, c2]
      refine lc_map fst1 _ [] ?_ ?_ ?_
      · rw [List.length_append, List.length_map, List.length_map]
        rw [ep', List.length_append, List.length_cons] at l2
        exact Nat.le_trans (by simp only [List.length_nil]; omega) (show 60 ≤ sizeLine by decide)
      · intro d hd A B hA
        walk_at "vs"
        obtain ⟨e, he, rfl⟩ : ∃ e, e ∈ (final c).pl ∧ dD e.1 = d := by
          rw [ep']
          rcases List.mem_append.mp hd with z | z
          · obtain ⟨e, h1, h2⟩ := List.mem_map.mp z
            exact ⟨e, List.mem_append_left _ h1, h2⟩
          · obtain ⟨e, h1, h2⟩ := List.mem_map.mp z
            exact ⟨e, List.mem_append_right _ (List.mem_cons_of_mem _ h1), h2⟩
        obtain ⟨s, r, er⟩ := fst_word (f2.pl e he)
        rw [er] at hA ⊢
        exact ⟨_, atI_0, hA _ rfl⟩
      · walk_at "vs"
        refine lc_map fst1 _ [] ?_ ?_ ?_
        · rw [dDs_map, List.length_map, List.length_map]
          exact Nat.le_trans (by simp only [List.length_nil]; omega) (show 60 ≤ sizeLine by decide)
        · intro d hd A B hA
          walk_at "vs"
          obtain ⟨e, he, rfl⟩ : ∃ e, e ∈ (final b).pl ∧ dD e.1 = d := by
            rw [dDs_map, List.map_map] at hd
            obtain ⟨e, h1, h2⟩ := List.mem_map.mp hd
            exact ⟨e, h1, h2⟩
          obtain ⟨s, r, er⟩ := fst_word (f1.pl e he)
          rw [er] at hA ⊢
          exact ⟨_, atI_0, hA _ rfl⟩
        · walk_at "vs"
          have ew : List.map fst1 (SA'.map (fun e => dD e.1) ++ SB'.map fun e => dD e.1) = (SA' ++ SB').map fun e => fst1 (dD e.1) := by
            rw [← List.map_append, List.map_map]
            rfl
          have ew2 : List.map fst1 (dDs ((final b).pl.map (·.1))) = (final b).pl.map fun e => fst1 (dD e.1) := by
            rw [dDs_map, List.map_map, List.map_map]
            rfl
          rw [ew, ew2]
          refine words_ne (fun e he => f2.pl e (by
            rw [ep']
            rcases List.mem_append.mp he with z | z
            · exact List.mem_append_left _ z
            · exact List.mem_append_right _ (List.mem_cons_of_mem _ z))) (by rw [ep, List.map_append, List.map_append, a2_fst a2a, a2_fst a2b]) ⟨_, rfl, ?_⟩
          rw [if_neg (by simp)]
          have n1' := n1
          have n2' := n2
          simp only [TS.n] at n1' n2'
          refine ⟨_, 0, _, _, rfl, rfl, ?_, ?_, ?_⟩
          · intro d hd
            rw [dDs_map] at hd
            obtain ⟨x, hx, rfl⟩ := List.mem_map.mp hd
            obtain ⟨k, ps, rfl, hk⟩ := f1.bd x hx
            exact ok_rowB hk
          · rw [dDs_map, List.length_map]; omega
          obtain ⟨qa, qb⟩ := rows_pl nac.bd ((sh_rows r2.2.2 (by omega)).shaped (by decide))
          refine ne_lists (by
            rw [hbd, jl]
            refine map_rows fun d hd => ?_
            obtain ⟨k, ps, rfl, hk⟩ := f1.bd d hd
            exact lat_rowB hk) qa qb ⟨_, rfl, ?_⟩
          rw [if_neg (by simp)]
          refine ⟨_, 1, _, _, rfl, rfl, ?_, ?_, ?_⟩
          · intro d hd
            rw [dDs_map] at hd
            obtain ⟨x, hx, rfl⟩ := List.mem_map.mp hd
            obtain ⟨s, k, a, rfl, hk, ha⟩ := f1.gr x hx
            exact ok_rowG hk
          · rw [dDs_map, List.length_map]; omega
          obtain ⟨qa, qb⟩ := rows_pl nac.gr ((sh_rows r2.1 (by omega)).shaped (by decide))
          refine ne_lists (by
            rw [hgr, jl]
            refine map_rows fun d hd => ?_
            obtain ⟨s, k, a, rfl, hk, ha⟩ := f1.gr d hd
            exact lat_rowG hk) qa qb ⟨_, rfl, ?_⟩
          rw [if_neg (by simp), dDs_map (final c).mm]
          refine lc_filterF dD (kept j) dD (final c).mm [] ?_ ?_ ?_
          · exact Nat.le_trans (by simp only [List.length_nil]; omega) (show 542 ≤ sizeLine by decide)
          · intro d hd A B hA hB
            obtain ⟨x, k, g, rfl⟩ := f2.mm d hd
            have er : dD (rowM x k g) = .tup [.str x, .int (k : Nat), .int (g : Nat)] := by simp only [rowM, dD, dDs]
            have ek : kept j (rowM x k g) = !decide ((k : Int) = (j : Int)) := rfl
            walk_at "vs"
            rw [er] at hA ⊢
            rw [ek] at hA hB
            refine ⟨_, atI_1, rfl, _, rfl, ?_⟩
            show if (!decide ((k : Int) = (SA'.length : Int))) = true then _ else _
            rw [jl] at hA hB ⊢
            cases hd2 : (!decide ((k : Int) = (j : Int))) with
            | true => rw [if_pos rfl]; exact hA hd2 _ rfl
            | false => rw [if_neg (by decide)]; exact hB hd2 _ rfl
          · walk_at "vs"
            refine ⟨_, 1, _, _, rfl, rfl, ?_, ?_, ?_⟩
            · intro d hd
              rw [dDs_map] at hd
              obtain ⟨x, hx, rfl⟩ := List.mem_map.mp hd
              obtain ⟨x, k, g, rfl⟩ := f1.mm x hx
              exact ok_rowM
            · rw [dDs_map, List.length_map]; omega
            rw [← dDs_map]
            obtain ⟨qa, qb⟩ := rows_pl (noLs_filter (p := kept j) nac.mm) ((sh_rows (fun d z => r2.2.1 d (List.mem_filter.mp z).1) (Nat.le_trans (List.length_filter_le _ _) (by omega))).shaped (by decide))
            refine ne_lists (by
              rw [hmm, jl]
              refine map_rows fun d hd => ?_
              obtain ⟨x, k, g, rfl⟩ := f1.mm d hd
              exact lat_rowM) qa qb ⟨_, rfl, ?_⟩
            rw [if_neg (by simp)]
            obtain ⟨rm, erm⟩ := SD_fst m
            rw [erm]
            refine ⟨_, atI_0, rfl, ?_⟩
            have hcm := om.c1
            have lf : (dDs ((final c).mm.filter (kept j))).length = (final b).mm.length := by rw [dDs_map, List.length_map, hmm, List.length_map]
            walk_at "vs"
            rw [lf, List.length_map, hmn, hcm]
            have hl3 : (!decide ((((final b).mm.length + if wordS m = "let" then 1 else 0 : Nat) : Int) = ((final b).mm.length : Int) + if eqD (D.str (wordS m)) (D.str "let") = true then 1 else 0)) = false := by
              rw [eqD]
              by_cases hw : wordS m = "let"
              · rw [decide_eq_true hw, if_pos hw, if_pos rfl]
                simp
              · rw [decide_eq_false hw, if_neg hw, if_neg (by decide)]
                simp
            rw [hl3, if_neg (by decide)]
            have cn := cut_out (A := SA'.map fun e => D.int (e.2.2 : Nat)) (B := SB'.map fun e => D.int (e.2.2 : Nat)) (x := D.int (qm.2 : Nat)) (n := SA'.length) (by rw [List.length_map])
            have cne : ((final c).pl.map fun e => D.int (e.2.2 : Nat)) = SA'.map (fun e => D.int (e.2.2 : Nat)) ++ D.int (qm.2 : Nat) :: SB'.map fun e => D.int (e.2.2 : Nat) := by
              rw [ep', List.map_append, List.map_cons]
            rw [cne, cn.1, cn.2]
            refine ⟨?_, ?_⟩
            · rw [List.length_map, List.length_map]
              rw [ep', List.length_append, List.length_cons] at l2
              exact Nat.le_trans (by omega) (show 60 ≤ sizeLine by decide)
            rw [← List.map_append]
            obtain ⟨qa5, qb5⟩ := pys_nums (SA' ++ SB')
            have e5 : ((SA' ++ SB').map fun e => D.int (e.2.2 : Nat)) = (final b).pl.map fun e => D.int (e.2.2 : Nat) := by
              rw [ep, List.map_append, List.map_append, a2_num a2a, a2_num a2b]
            obtain ⟨qa6, qb6⟩ := pys_nums (final b).pl
            refine ne_lists e5 qb5 (by rw [e5, qa6]; exact (sh_nums p1 l1).shaped (by decide)) ⟨_, rfl, ?_⟩
            rw [if_neg (by simp)]
            refine ⟨b, rfl, okb, fun _ => told_repr okb nab (told_repr okb nab ?_)⟩
            exact ⟨rfl, by rw [eqD, decide_eq_true rfl]; exact q⟩
end
end K06
set_option Elab.async false
set_option linter.all false
set_option maxRecDepth 100000
namespace K06
open PySem PySem.W PyProof.Rows L2 Fb VL
theorem fin {l : OpenLaw} {w : World} {K : Frag} {h : Heap} {mg : Str → Option Value} {fa f2 CB CP CT : Addr} {od2 an2 : Option Addr} {sl2 : Array (Option Value)} {oc2 kV2 dc2 pm2 cd2 ct2 : Value} (X : K.In h) (G : h.Ns mainGlobals mg) (hfa : mg "law" = some (.ref fa)) (T : Top K mg CB CP CT)
    (a2 : nsIn K mainGlobals "law" = some (some (.ref f2))) (l2 : K.lookup f2 = some ⟨oc2, od2, .func (fnOf "law" "law" (defArgs sLaw) (defBody sLaw) (defScope sLaw) .none kV2 dc2 pm2 an2 cd2 ct2), sl2⟩) (c2 : codeIn K cd2 "law" = true) (k2 : keepIn K (.ref f2) = true) :
    ∃ fd : FuncData, (∀ (s : Shared) (v : Value), BindsTo s fd ⟨[v], []⟩ [("_law_script", v)]) ∧ ∀ base : Heap, K.In base → base.Ns mainGlobals mg → FnG l.prog w K mg base 22 fa fd ["_law_script"] (spOf K [.s] .s vpLaw) := by
  have e := hfa.symm.trans (mg_of X G a2)
  cases e
  exact ⟨_, fun s v => .of_eq rfl, fun base _ _ => ok_law (fun_mk (st := sLaw) l2 c2 k2) T⟩
end K06
open PySem PySem.W PyProof.Rows L2
set_option maxHeartbeats 0 in
theorem PySem.Challenge.cw_fourbind_k06_whole_a_statement_put_in_holds : PySem.Challenge.rw_fourbind_k06_whole_a_statement_put_in.Holds := by
  w_on; o_law; k_head; (case hw => w_witness2)
  k_fill
  refine VL.walk_V (l := PySem.Challenge.rw_fourbind_k06_whole_a_statement_put_in) (k := 22) (x := "_law_script") rfl rfl ⟨rfl, by decide, by decide⟩ (fun w h Y => PySem.W.kIn_of Y) ?F
  case F =>
    intro w mg fa h KX G XP hmg
    refine' K06.fin KX G hmg (K06.Top.mk (mg_none_of KX G ?n_len) (mg_none_of KX G ?n_isinstance) (mg_none_of KX G ?n_max) (mg_none_of KX G ?n_list) (mg_none_of KX G ?n_reversed) (mg_none_of KX G ?n_range) (mg_none_of KX G ?n_int) (mg_none_of KX G ?n_repr) (mg_none_of KX G ?n_tuple) (mg_none_of KX G ?n_sum) ⟨?pg_B, ?hd_B, ?po_B, ?sa_B⟩ (Fb.cn_in KX G ?mc_B ?me_B) (mg_of KX G ?mm_B) (Fb.noattr ?nn_B_kind) (Fb.noattr ?nn_B_k) (Fb.noattr ?nn_B_around) (Fb.noattr ?nn_B_body) (Fb.noattr ?nn_B_inside) ⟨_, _, fun_mk ?il_B ?ic_B ?ik_B, ⟨?im_B, ?ii_B, ?if_B, ?io_B⟩⟩ ⟨?pg_P, ?hd_P, ?po_P, ?sa_P⟩ (Fb.cn_in KX G ?mc_P ?me_P) (mg_of KX G ?mm_P) (Fb.noattr ?nn_P_statement) (Fb.noattr ?nn_P_ground) (Fb.noattr ?nn_P_body) ⟨_, _, fun_mk ?il_P ?ic_P ?ik_P, ⟨?im_P, ?ii_P, ?if_P, ?io_P⟩⟩ ⟨?pg_T, ?hd_T, ?po_T, ?sa_T⟩ (Fb.cn_in KX G ?mc_T ?me_T) (mg_of KX G ?mm_T) (Fb.noattr ?nn_T_places) (Fb.noattr ?nn_T_body_rows) (Fb.noattr ?nn_T_ground_rows) (Fb.noattr ?nn_T_making_rows) ⟨_, _, fun_mk ?il_T ?ic_T ?ik_T, ⟨?im_T, ?ii_T, ?if_T, ?io_T⟩⟩ ⟨_, _, fun_mk ?ml_enter ?mc2_enter ?mk2_enter, ⟨?ma_enter, ?mf_enter, ?mp_enter⟩⟩ ⟨_, _, fun_mk ?ml_meet ?mc2_meet ?mk2_meet, ⟨?ma_meet, ?mf_meet, ?mp_meet⟩⟩ ⟨⟨?qg_B, ?qd_B, ?qo_B, ?qa_B⟩, ?qh_B, ?qn_B, ?qt_B, ?qm_B, Fb.kit_self⟩ ⟨⟨?qg_P, ?qd_P, ?qo_P, ?qa_P⟩, ?qh_P, ?qn_P, ?qt_P, ?qm_P, Fb.kit_self⟩ (Fb.kit_no ?kn ?kc ?kt ?ks) (Fb.has_mk KX G ?da_blocks_of ?dl_blocks_of ?dc_blocks_of ?dk_blocks_of) (Fb.has_mk KX G ?da_made_by ?dl_made_by ?dc_made_by ?dk_made_by) (Fb.has_mk KX G ?da_statements ?dl_statements ?dc_statements ?dk_statements) (Fb.has_mk KX G ?da_body_at ?dl_body_at ?dc_body_at ?dk_body_at) (Fb.has_mk KX G ?da_bodies ?dl_bodies ?dc_bodies ?dk_bodies) (Fb.has_mk KX G ?da_grounds ?dl_grounds ?dc_grounds ?dk_grounds) (Fb.has_mk KX G ?da_makings ?dl_makings ?dc_makings ?dk_makings) (Fb.has_mk KX G ?da_l_deal ?dl_l_deal ?dc_l_deal ?dk_l_deal) (Fb.has_mk KX G ?da_l_draw ?dl_l_draw ?dc_l_draw ?dk_l_draw) (Fb.has_mk KX G ?da_l_words ?dl_l_words ?dc_l_words ?dk_l_words) (Fb.has_mk KX G ?da_l_any_atom ?dl_l_any_atom ?dc_l_any_atom ?dk_l_any_atom) (Fb.has_mk KX G ?da_l_any_flat ?dl_l_any_flat ?dc_l_any_flat ?dk_l_any_flat) (Fb.has_mk KX G ?da_l_any_statement ?dl_l_any_statement ?dc_l_any_statement ?dk_l_any_statement) (Fb.has_mk KX G ?da_l_any_block ?dl_l_any_block ?dc_l_any_block ?dk_l_any_block) (Fb.has_mk KX G ?da_l_any_program ?dl_l_any_program ?dc_l_any_program ?dk_l_any_program) (Fb.has_mk KX G ?da_l_places ?dl_l_places ?dc_l_places ?dk_l_places) (Fb.has_mk KX G ?da_l_blocks ?dl_l_blocks ?dc_l_blocks ?dk_l_blocks) (Fb.has_mk KX G ?da_l_put_in ?dl_l_put_in ?dc_l_put_in ?dk_l_put_in) (Fb.has_mk KX G ?da_l_later ?dl_l_later ?dc_l_later ?dk_l_later) (Fb.has_mk KX G ?da_l_row_later ?dl_l_row_later ?dc_l_row_later ?dk_l_row_later) (Fb.has_mk KX G ?da_l_told ?dl_l_told ?dc_l_told ?dk_l_told)) ?a2 ?l2 ?c2 ?k2
    (case mm_B => k_is)
    (case mm_P => k_is)
    (case mm_T => k_is)
    (case mc_B => k_is)
    (case mc_P => k_is)
    (case mc_T => k_is)
    (case me_B => rfl)
    (case me_P => rfl)
    (case me_T => rfl)
    (case ii_B => k_is)
    (case ii_P => k_is)
    (case ii_T => k_is)
    (case ma_enter => k_is)
    (case ma_meet => k_is)
    (case da_blocks_of => k_is)
    (case da_made_by => k_is)
    (case da_statements => k_is)
    (case da_body_at => k_is)
    (case da_bodies => k_is)
    (case da_grounds => k_is)
    (case da_makings => k_is)
    (case da_l_deal => k_is)
    (case da_l_draw => k_is)
    (case da_l_words => k_is)
    (case da_l_any_atom => k_is)
    (case da_l_any_flat => k_is)
    (case da_l_any_statement => k_is)
    (case da_l_any_block => k_is)
    (case da_l_any_program => k_is)
    (case da_l_places => k_is)
    (case da_l_blocks => k_is)
    (case da_l_put_in => k_is)
    (case da_l_later => k_is)
    (case da_l_row_later => k_is)
    (case da_l_told => k_is)
    (case il_B => k_is)
    (case il_P => k_is)
    (case il_T => k_is)
    (case ml_enter => k_is)
    (case ml_meet => k_is)
    (case dl_blocks_of => k_is)
    (case dl_made_by => k_is)
    (case dl_statements => k_is)
    (case dl_body_at => k_is)
    (case dl_bodies => k_is)
    (case dl_grounds => k_is)
    (case dl_makings => k_is)
    (case dl_l_deal => k_is)
    (case dl_l_draw => k_is)
    (case dl_l_words => k_is)
    (case dl_l_any_atom => k_is)
    (case dl_l_any_flat => k_is)
    (case dl_l_any_statement => k_is)
    (case dl_l_any_block => k_is)
    (case dl_l_any_program => k_is)
    (case dl_l_places => k_is)
    (case dl_l_blocks => k_is)
    (case dl_l_put_in => k_is)
    (case dl_l_later => k_is)
    (case dl_l_row_later => k_is)
    (case dl_l_told => k_is)
    (case n_len => k_is)
    (case n_isinstance => k_is)
    (case n_max => k_is)
    (case n_list => k_is)
    (case n_reversed => k_is)
    (case n_range => k_is)
    (case n_int => k_is)
    (case n_repr => k_is)
    (case n_tuple => k_is)
    (case n_sum => k_is)
    (case pg_B => k_is)
    (case hd_B => k_is)
    (case po_B => k_is)
    (case sa_B => k_is)
    (case nn_B_kind => k_is)
    (case nn_B_k => k_is)
    (case nn_B_around => k_is)
    (case nn_B_body => k_is)
    (case nn_B_inside => k_is)
    (case ic_B => k_is)
    (case ik_B => k_is)
    (case im_B => k_is)
    (case if_B => k_is)
    (case io_B => k_is)
    (case pg_P => k_is)
    (case hd_P => k_is)
    (case po_P => k_is)
    (case sa_P => k_is)
    (case nn_P_statement => k_is)
    (case nn_P_ground => k_is)
    (case nn_P_body => k_is)
    (case ic_P => k_is)
    (case ik_P => k_is)
    (case im_P => k_is)
    (case if_P => k_is)
    (case io_P => k_is)
    (case pg_T => k_is)
    (case hd_T => k_is)
    (case po_T => k_is)
    (case sa_T => k_is)
    (case nn_T_places => k_is)
    (case nn_T_body_rows => k_is)
    (case nn_T_ground_rows => k_is)
    (case nn_T_making_rows => k_is)
    (case ic_T => k_is)
    (case ik_T => k_is)
    (case im_T => k_is)
    (case if_T => k_is)
    (case io_T => k_is)
    (case mc2_enter => k_is)
    (case mk2_enter => k_is)
    (case mf_enter => k_is)
    (case mp_enter => k_is)
    (case mc2_meet => k_is)
    (case mk2_meet => k_is)
    (case mf_meet => k_is)
    (case mp_meet => k_is)
    (case qg_B => k_is)
    (case qd_B => k_is)
    (case qo_B => k_is)
    (case qa_B => k_is)
    (case qh_B => k_is)
    (case qn_B => k_is)
    (case qt_B => k_is)
    (case qm_B => k_is)
    (case qg_P => k_is)
    (case qd_P => k_is)
    (case qo_P => k_is)
    (case qa_P => k_is)
    (case qh_P => k_is)
    (case qn_P => k_is)
    (case qt_P => k_is)
    (case qm_P => k_is)
    (case kn => decide)
    (case kc => k_is)
    (case kt => k_is)
    (case ks => k_is)
    (case dc_blocks_of => k_is)
    (case dk_blocks_of => k_is)
    (case dc_made_by => k_is)
    (case dk_made_by => k_is)
    (case dc_statements => k_is)
    (case dk_statements => k_is)
    (case dc_body_at => k_is)
    (case dk_body_at => k_is)
    (case dc_bodies => k_is)
    (case dk_bodies => k_is)
    (case dc_grounds => k_is)
    (case dk_grounds => k_is)
    (case dc_makings => k_is)
    (case dk_makings => k_is)
    (case dc_l_deal => k_is)
    (case dk_l_deal => k_is)
    (case dc_l_draw => k_is)
    (case dk_l_draw => k_is)
    (case dc_l_words => k_is)
    (case dk_l_words => k_is)
    (case dc_l_any_atom => k_is)
    (case dk_l_any_atom => k_is)
    (case dc_l_any_flat => k_is)
    (case dk_l_any_flat => k_is)
    (case dc_l_any_statement => k_is)
    (case dk_l_any_statement => k_is)
    (case dc_l_any_block => k_is)
    (case dk_l_any_block => k_is)
    (case dc_l_any_program => k_is)
    (case dk_l_any_program => k_is)
    (case dc_l_places => k_is)
    (case dk_l_places => k_is)
    (case dc_l_blocks => k_is)
    (case dk_l_blocks => k_is)
    (case dc_l_put_in => k_is)
    (case dk_l_put_in => k_is)
    (case dc_l_later => k_is)
    (case dk_l_later => k_is)
    (case dc_l_row_later => k_is)
    (case dk_l_row_later => k_is)
    (case dc_l_told => k_is)
    (case dk_l_told => k_is)
    (case a2 => k_is)
    (case l2 => k_is)
    (case c2 => k_is)
    (case k2 => k_is)
