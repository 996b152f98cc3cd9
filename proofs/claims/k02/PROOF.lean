import PyProof.Rows.All
import Wide.All
import OpenK.AllK
import Wide.FinOn
import HandS.ForMost
import HandS.RaiseMore
import HandS.StrMore
import HandS.Rev
import HandS.Wide
import HandS.Walk
import HandS.Codes
import HandS.Ends
import HandS.Style
import HandS.IsInst
import KE.KExcIs
import HandS.Exc
import HandS.ExcCtx
import HandS.ExcInit
import HandS.ExcIs
import HandS.ExcField
import HandS.HotCalls
import PySem.Challenge.RW_fourbind_k02_refusals_made
set_option Elab.async false
set_option linter.all false
set_option maxRecDepth 100000
set_option maxHeartbeats 2000000
namespace Fb
open PySem PySem.Spec PyProof.Rows
/-! list(reversed(xs)), at the library's level -/
abbrev nilL : Obj := { cls := .type "list", data := .seq #[] }
section
variable {prog : Program} {w : World} {A : Around} {E : Value → Shared → Prop} {s : Shared}
abbrev FromEnd (items acc : Array Value) : Prop := ItemsOf (fun i v => items[items.size - 1 - i]? = some v) acc items.size
theorem ext_rev {it l S : Addr} {items : Array Value} {c0 : Nat} {R : Result → Shared → Prop} (hh : A.handled = none)
    (hit : s.heap.IsRevIter it l ((items.size : Int) - 1)) (hl : s.heap.IsList l items) (hne : l ≠ it) (hn : items.size ≤ sizeLine) (hSi : S ≠ it) (hSl : S ≠ l)
    (hS : s.heap.get? S = some { cls := .type "list", data := .seq #[] c0 })
    (hR : ∀ h' tk acc c, (∀ b o, b ≠ S → b ≠ it → s.heap.get? b = some o → h'.get? b = some o) →
      h'.get? S = some { cls := .type "list", dict := none, data := .seq acc c, slots := #[] } → FromEnd items acc → R (.ok (.ret .none)) { s with heap := h', toks := tk }) :
    wpAny (model prog w) A.in1 (Builtin.List.listExtendWith (.ref S) (.ref it) .none)
      (fun fin s' => match fin with | .done f => R (.ok f) s' | .again c' => c'.quiet = true ∧ codeAny (model prog w) A c' R s')
      (fun e s' => R (.error e) s') s := by
  have W := (Walks.listRev (prog := prog) (w := w) (A := A.in1) hh it l hne items).toS
  have nf : S ∉ [it, l] := by
    simp only [List.mem_cons, List.not_mem_nil, or_false, not_or]
    exact ⟨hSi, hSl⟩
  have hT : s.TypeIs (.ref it) "list_reverseiterator" := hit.typeIs
  have h1 : Builtin.List.listSameRef (.ref S) (.ref it) = false := by
    simp [Builtin.List.listSameRef, hSi]
  unfold Builtin.List.listExtendWith
  refine wpAny_bind <| wpAny_typeOf hT ?_
  rw [if_neg <| by rw [h1]; decide]
  refine wpAny_bind <| wpAny_pyIter_revIter hit ?_
  refine wpAny_bind <| wpAny_holding ?_
  unfold Builtin.List.listLengthHint
  refine wpAny_bind <| wpAny_specialOf hT RT.nolen_lri ?_
  show wpAny _ A.in1 (specialOf (Value.ref it) (Str.ofString "__length_hint__") >>= _) _ _ s
  refine wpAny_bind <| wpAny_specialOf hT RT.hint_lri ?_
  generalize e0 : ("list_reverseiterator.__length_hint__" : String) = i0
  wp_delta
  rw [show splitId i0 = some ("list_reverseiterator", "__length_hint__") by subst e0; decide +kernel]
  subst e0
  refine wpAny_bind <| wpAny_isInstance (b := true) hT (by rw [isSubtype_type]; kernel_rfl) ?_
  refine wpAny_pure ?_
  rw [if_neg <| by decide]
  have ez : ((items.size : Nat) : Int) - 1 - ((0 : Nat) : Int) = (items.size : Int) - 1 := by omega
  refine wpAny_pure ⟨plainId_quiet F.plain_extend_loop _, codeAny_extend_loopS W hn _ nf _ items.size 0 _ _ _ rfl (Nat.zero_le _)
    ⟨Nat.zero_le _, by rw [ez]; exact hit, hl⟩ hS (ItemsOf.nil _) fun s' acc' c' hm hS' hacc => ?_⟩
  rw [Moved.eq_with hm]
  refine hR s'.heap s'.toks acc' c' (fun b o b1 b2 e => hm.heap b o (fun z => ?_) e) hS' hacc
  rcases List.mem_cons.mp z with q | q
  · exact b1 q
  · exact b2 (List.mem_singleton.mp q)
theorem call_list_rev {it l : Addr} {items : Array Value} {Q : Value → Shared → Prop} (hh : A.handled = none)
    (hit : s.heap.IsRevIter it l ((items.size : Int) - 1)) (hl : s.heap.IsList l items) (hne : l ≠ it) (hn : items.size ≤ sizeLine)
    (hQ : ∀ h' tk acc c, (∀ b o, b ≠ it → s.heap.get? b = some o → h'.get? b = some o) →
      h'.get? s.heap.objs.size = some { cls := .type "list", dict := none, data := .seq acc c, slots := #[] } → FromEnd items acc → Q (.ref s.heap.objs.size) { s with heap := h', toks := tk }) :
    wpAny (model prog w) A (call (.type "list") [.ref it]) Q E s := by
  obtain ⟨oi, hoi, _⟩ := id hit
  obtain ⟨ol, hol, _⟩ := id hl
  refine callType_codes (Q₁ := fun obj s₁ => obj = .ref s.heap.objs.size ∧ s₁ = { s with heap := s.heap.push nilL }) PySem.F.called_list (PySem.F.typeCall_list_1 _) PySem.F.entry_list_init (code_list_new _ ⟨rfl, rfl⟩) fun obj s₁ h₁ => ?_
  obtain ⟨rfl, rfl⟩ := h₁
  have hS : (s.heap.push nilL).get? s.heap.objs.size = some nilL := Heap.get?_push_size _ rfl
  refine ⟨⟨_, hS, rfl⟩, PySem.F.args_list_init_2 _ _, ?_⟩
  show wpAny _ _ (do let old ← Builtin.List.listItems (.ref s.heap.objs.size); Builtin.List.listUpdate (.ref s.heap.objs.size) (fun _ => #[]); letGo old.toList.reverse; Builtin.List.listExtendWith (.ref s.heap.objs.size) (.ref it) .none) _ _ _
  refine wpAny_bind ?_
  unfold Builtin.List.listItems
  refine wpAny_bind <| wpAny_seqItems hS rfl <| wpAny_pure ?_
  show wpAny _ _ (updateSeq s.heap.objs.size (fun _ => #[]) >>= fun _ => letGo (#[] : Array Value).toList.reverse >>= fun _ => Builtin.List.listExtendWith (.ref s.heap.objs.size) (.ref it) .none) _ _ _
  refine wpAny_bind <| wpAny_updateSeq hS rfl ?_
  have hS2 := Heap.get?_update_self (Obj.mapSeq (fun _ => (#[] : Array Value))) hS rfl
  have ni : s.heap.objs.size ≠ it := Nat.ne_of_gt (Heap.lt_size hoi)
  have nl : s.heap.objs.size ≠ l := Nat.ne_of_gt (Heap.lt_size hol)
  have oth : ∀ b o, b ≠ s.heap.objs.size → s.heap.get? b = some o → ((s.heap.push nilL).update s.heap.objs.size (Obj.mapSeq (fun _ => (#[] : Array Value)))).get? b = some o :=
    fun b o hb e => (Heap.get?_update_other _ _ (Ne.symm hb)).trans (Heap.get?_push_of_some _ e)
  refine wpAny_bind <| wpAny_letGo ?_
  refine ext_rev (A := A.in1) (l := l) hh (hit.at fun o e => oth it o (Ne.symm ni) e) (hl.at fun o e => oth l o (Ne.symm nl) e) hne hn ni nl hS2 fun h' tk acc c hk hS' hacc => ⟨rfl, ?_⟩
  exact hQ h' tk acc c (fun b o hb e => hk b o (Nat.ne_of_lt (Heap.lt_size e)) hb (oth b o (Nat.ne_of_lt (Heap.lt_size e)) e)) hS' hacc
end
end Fb
namespace Fb
open PySem PySem.Spec PyProof.Rows L2
section
variable {X : Cx}
/-- list(reversed(e)), e a list -/
def tListRev (K : PySem.W.Frag) (te : TE) : TE := fun σ H Q => te σ H fun v H1 => ∃ (a : Addr) (xs : List V), v = .ref a ∧ SqL K H1 a xs ∧ ∀ q, H1 q = none → Q (.ref q) (upd H1 q (.lst xs.reverse))
theorem pe_listRev {e : Expr} {te : TE} {p p2 pos pos2 : Pos} (hc : X.calm = true) (hg : Gl X "list") (hm : X.mg "list" = none) (hg2 : Gl X "reversed") (hm2 : X.mg "reversed" = none) (he : PE X e te)
    (hs : starEach [e] X.env = (false, eval e X.env) :: starEach [] X.env := by rfl)
    (hs2 : starEach [.Call (.Name "reversed" p2) [e] [] pos2] X.env = (false, eval (.Call (.Name "reversed" p2) [e] [] pos2) X.env) :: starEach [] X.env := by rfl) :
    PE X (.Call (.Name "list" p) [.Call (.Name "reversed" p2) [e] [] pos2] [] pos) (tListRev X.K te) := by
  refine ⟨fun pins s σ H Q I h => ?_⟩
  refine Call_ (ld_blt I hg hm boot_list (callWith_type1 (args_cons (Call_ (ld_blt I hg2 hm2 boot_reversed (callWith_type1 (args_cons (thn (he.run pins s σ H _ I h) fun u s1 ⟨v, H1, I1, r1, q1⟩ => args_nil ?_) hs) hs rfl))) hs2) hs2 rfl))
  obtain ⟨a, xs, ev, hq, q⟩ := q1
  subst ev
  obtain rfl : u = Value.ref a := r1
  obtain ⟨its, rv, pl, hz⟩ := I1.list hq
  refine call_reversed_list pl.isList (args_nil ?_)
  have I2 : Inv X pins σ H1 { s1 with heap := s1.heap.push (revObj a ((its.toArray.size : Int) - 1)) } := I1.kept (t' := s1.toks) fun b o e => Heap.get?_push_of_some _ e
  obtain ⟨f0, f1, f2, f3, f4, f5⟩ := I1.fpOk (H' := H1) (b := s1.heap.objs.size) (Nat.le_refl _) (I1.hok.fresh (Nat.le_refl _))
  have hl := pl.isList
  obtain ⟨ol, hol, _⟩ := id hl
  have hne : a ≠ s1.heap.objs.size := Nat.ne_of_lt (Heap.lt_size hol)
  have hn : its.toArray.size ≤ sizeLine := by rw [List.size_toArray, ← rv.length]; exact hz
  refine call_list_rev (s := { s1 with heap := s1.heap.push (revObj a ((its.toArray.size : Int) - 1)) }) (I1.ok.hd hc) ⟨_, Heap.get?_push_size _ rfl, rfl, rfl⟩ (hl.push _) hne hn fun h' tk acc c hk hS' hacc => ?_
  have fr : H1 (s1.heap.objs.size + 1) = none := I1.hok.fresh (Nat.le_succ _)
  have sz : (s1.heap.push (revObj a ((its.toArray.size : Int) - 1))).objs.size = s1.heap.objs.size + 1 := by simp [Heap.push]
  have I3 := I2.laid (t' := tk) (a := s1.heap.objs.size + 1) (o := .lst xs.reverse)
    (h' := (s1.heap.push (revObj a ((its.toArray.size : Int) - 1))).push { cls := .type "list", dict := none, data := .seq acc c, slots := #[] })
    (fun b o e => Heap.get?_push_of_some _ e) (Nat.le_of_eq sz)
    (show ObjOk X.prog X.w _ _ _ (.lst xs.reverse) from ⟨by rw [List.length_reverse]; exact hz, acc.toList, c, RT.vals_rev rv hacc, by
      rw [← sz, Array.toArray_toList]
      exact Heap.get?_push_size _ rfl⟩)
  have nit : s1.heap.objs.size ≠ s1.heap.objs.size + 1 := Nat.ne_of_lt (Nat.lt_succ_self _)
  have I4 := I3.turned (t' := tk) (it := s1.heap.objs.size) (h' := h') (fun b o hb e => ?_) (by rw [upd_ne nit]; exact f0) f1 f3 f4 f5
  · refine ⟨.ref (s1.heap.objs.size + 1), _, I4, ?_, q _ fr⟩
    exact congrArg Value.ref sz
  · rcases Heap.get?_push_cases e with ⟨eb, eo⟩ | e2
    · subst eb
      subst eo
      exact hS'
    · exact hk b o hb e2
end
end Fb
set_option Elab.async false
set_option linter.all false
set_option maxRecDepth 100000
set_option maxHeartbeats 2000000
namespace Fb
open PySem PySem.Spec PyProof.Rows L2
/-! ### calls without arguments; repr of a plain value -/
section
variable {X : Cx} {k j : Nat} {x : Str} {sp : Sp} {dvs : List V} {p pos : Pos}
theorem pe_c0 (c : C8.Cal X.prog X.w X.K X.mg X.base k x sp dvs) (hr : Room j X.A) (hk : k ≤ j) (hg : Gl X x) (hdb : (x == ("__debug__" : Str)) = false := by decide) :
    PE X (.Call (.Name x p) [] [] pos) (tCall sp dvs E0 tNil) := by
  obtain ⟨f, fd, ps, ds, F, hm, kp, b, d⟩ := c.ex
  exact pe_call0 F (hr.mono hk) hg hm kp b d pass0 hdb
def tf (b : Bool) : Str := if b then "True" else "False"
def rRepr0 : List V → Hp → VK → Prop := fun xs H Q => (∃ b, xs = [.bl b] ∧ Q (.str (tf b)) H) ∨ ∃ i, xs = [.int i] ∧ i.natAbs.log2 < 1920 ∧ Q (.str (toString i)) H
theorem call_repr0 : CallR X (.builtin "repr") rRepr0 := by
  intro pins s σ H xs us Q I r h
  rcases h with ⟨b, rfl, q⟩ | h
  · obtain ⟨u, rfl, rx⟩ := vals1 r
    cases rx
    exact PySem.P.repr_of_bool ⟨.str _, H, I.tok _, ⟨_, rfl⟩, q⟩
  · obtain ⟨i, rfl, hz, q⟩ := h
    obtain ⟨u, rfl, t, rfl⟩ := vals1 r
    exact PySem.P.repr_of_int hz ⟨V.str _, H, I.tok _, ⟨_, rfl⟩, q⟩
end
/-! ### heaps -/
theorem same_new {H : Hp} {p : Addr} {o : HO} (h : H p = none) : Same H (upd H p o) := fun b x e => by
  rw [upd_ne (ne_of_none e h)]
  exact e
/-! ### the deal: a dict of three -/
def dealD (s n : Int) (l : Addr) : List (Key × V) := [(.inr "seed", .int s), (.inr "number", .int n), (.inr "left", .ref l)]
abbrev kx (x : Str) : Key := .inr x
theorem ne_sn : ¬ (kx "seed" = kx "number") := by decide +kernel
theorem ne_sl : ¬ (kx "seed" = kx "left") := by decide +kernel
theorem ne_nl : ¬ (kx "number" = kx "left") := by decide +kernel
section
variable {s n x : Int} {l d : Addr} {H : Hp}
theorem v_seed : valV (dealD s n l) (.inr "seed") = some (.int s) := valV_pos rfl
theorem v_number : valV (dealD s n l) (.inr "number") = some (.int n) := (valV_neg ne_sn).trans (valV_pos rfl)
theorem v_left : valV (dealD s n l) (.inr "left") = some (.ref l) := (valV_neg ne_sl).trans ((valV_neg ne_nl).trans (valV_pos rfl))
theorem p_seed : putK (dealD s n l) (.inr "seed") (.int x) = dealD x n l := by
  have a : ¬ (kx "number" = kx "seed") := fun e => ne_sn e.symm
  have b : ¬ (kx "left" = kx "seed") := fun e => ne_sl e.symm
  simp [putK, dealD, a, b]
theorem p_number : putK (dealD s n l) (.inr "number") (.int x) = dealD s x l := by
  have a := ne_sn
  have b : ¬ (kx "left" = kx "number") := fun e => ne_nl e.symm
  simp [putK, dealD, a, b]
theorem g_seed (h : H d = some (.dK (dealD s n l))) : DGet H d (.str "seed") (some (.int s)) := by
  have z := DGet.k (k := Sum.inr "seed") h
  rw [v_seed] at z
  exact z
theorem g_number (h : H d = some (.dK (dealD s n l))) : DGet H d (.str "number") (some (.int n)) := by
  have z := DGet.k (k := Sum.inr "number") h
  rw [v_number] at z
  exact z
theorem g_left (h : H d = some (.dK (dealD s n l))) : DGet H d (.str "left") (some (.ref l)) := by
  have z := DGet.k (k := Sum.inr "left") h
  rw [v_left] at z
  exact z
theorem u_seed (h : H d = some (.dK (dealD s n l))) : DPut H d (.str "seed") (.int x) (upd H d (.dK (dealD x n l))) := by
  refine .inl ⟨dealD s n l, .inr "seed", h, rfl, ?_, ?_⟩
  · show 3 < sizeLine
    exact small1000 (by decide)
  · rw [p_seed]
theorem u_number (h : H d = some (.dK (dealD s n l))) : DPut H d (.str "number") (.int x) (upd H d (.dK (dealD s x l))) := by
  refine .inl ⟨dealD s n l, .inr "number", h, rfl, ?_, ?_⟩
  · show 3 < sizeLine
    exact small1000 (by decide)
  · rw [p_number]
end
/-- a deal stands at d, its list at l -/
def DealX (H : Hp) (d l : Addr) (s n : Int) (ns : List Int) : Prop :=
  H d = some (.dK (dealD s n l)) ∧ H l = some (.lst (ns.map V.int)) ∧ 0 ≤ s ∧ s < 2147483648 ∧ 0 ≤ n ∧ ∀ x ∈ ns, 0 < x
def DealAt (H : Hp) (d l : Addr) : Prop := ∃ s n ns, DealX H d l s n ns
/-- all else stays -/
def Keep (d l : Addr) (H H' : Hp) : Prop := ∀ b o, H b = some o → b ≠ d → b ≠ l → H' b = some o
theorem Keep.refl (d l : Addr) (H : Hp) : Keep d l H H := fun _ _ e _ _ => e
theorem Keep.trans {d l : Addr} {H H1 H2 : Hp} (a : Keep d l H H1) (b : Keep d l H1 H2) : Keep d l H H2 := fun c o e h1 h2 => b c o (a c o e h1 h2) h1 h2
theorem Keep.of {d l : Addr} {H H' : Hp} (s : Same H H') : Keep d l H H' := fun b o e _ _ => s b o e
theorem Keep.upd {d l p : Addr} {H H' : Hp} {o : HO} (k : Keep d l H H') (hp : H p = none) : Keep d l H (upd H' p o) := fun b x e h1 h2 => by
  rw [upd_ne (ne_of_none e hp)]
  exact k b x e h1 h2
theorem Keep.at_d {d l : Addr} {H H' : Hp} {o : HO} (k : Keep d l H H') : Keep d l H (L2.upd H' d o) := fun b x e h1 h2 => by
  rw [upd_ne h1]
  exact k b x e h1 h2
theorem Keep.at_l {d l : Addr} {H H' : Hp} {o : HO} (k : Keep d l H H') : Keep d l H (L2.upd H' l o) := fun b x e h1 h2 => by
  rw [upd_ne h2]
  exact k b x e h1 h2
theorem DealX.ne {H : Hp} {d l : Addr} {s n : Int} {ns : List Int} (h : DealX H d l s n ns) : d ≠ l := ne_of h.1 h.2.1 (by intro z; cases z)
theorem DealX.same {H H' : Hp} {d l : Addr} {s n : Int} {ns : List Int} (h : DealX H d l s n ns) (e : Same H H') : DealX H' d l s n ns := ⟨e _ _ h.1, e _ _ h.2.1, h.2.2⟩
theorem DealAt.same {H H' : Hp} {d l : Addr} (h : DealAt H d l) (e : Same H H') : DealAt H' d l := let ⟨s, n, ns, z⟩ := h; ⟨s, n, ns, z.same e⟩
theorem DealAt.d_ne {H : Hp} {d l p : Addr} (h : DealAt H d l) (hp : H p = none) : p ≠ d := let ⟨_, _, _, z⟩ := h; (ne_of_none z.1 hp).symm
theorem DealAt.l_ne {H : Hp} {d l p : Addr} (h : DealAt H d l) (hp : H p = none) : p ≠ l := let ⟨_, _, _, z⟩ := h; (ne_of_none z.2.1 hp).symm
theorem DealAt.upd {H : Hp} {d l p : Addr} {o : HO} (h : DealAt H d l) (h1 : p ≠ d) (h2 : p ≠ l) : DealAt (L2.upd H p o) d l := let ⟨s, n, ns, z⟩ := h; ⟨s, n, ns, by rw [upd_ne h1.symm]; exact z.1, by rw [upd_ne h2.symm]; exact z.2.1, z.2.2⟩
/-- a draw below many -/
def spDraw : Sp := fun vs H Q _ => ∃ (d l : Addr) (many : Int), vs = [.ref d, .int many] ∧ DealAt H d l ∧ 0 < many ∧ many < 4611686018427387904 ∧
  ∀ (r : Int) (H' : Hp), 0 ≤ r → r < many → DealAt H' d l → Keep d l H H' → Q (.int r) H'
def spDeal (K : PySem.W.Frag) : Sp := fun vs H Q _ => ∃ (a : Addr) (ns : List Int), vs = [.ref a] ∧ SqL K H a (ns.map V.int) ∧ ns.length ≤ 63 ∧
  ∀ (d l : Addr) (H' : Hp), H d = none → H l = none → DealAt H' d l → Same H H' → Q (.ref d) H'
theorem merge_deal {s n : Int} {l : Addr} : mergeK [] (dealD s n l) = dealD s n l := by
  have a := ne_sn
  have b := ne_sl
  have c := ne_nl
  simp [mergeK, putK, dealD, a, b, c]
theorem cut_ints (ns : List Int) (lo hi : Option Int) : ∃ ms : List Int, cutV (ns.map V.int) lo hi = ms.map V.int ∧ ms.length ≤ ns.length := by
  refine ⟨(ns.drop (HT.sIx (ns.map V.int).length 0 lo)).take (HT.sIx (ns.map V.int).length (ns.map V.int).length hi - HT.sIx (ns.map V.int).length 0 lo), ?_, ?_⟩
  · rw [cutV, List.map_take, List.map_drop]
  · rw [List.length_take, List.length_drop]
    omega
theorem int_at {ns : List Int} {i : Nat} {x : V} (h : (ns.map V.int)[i]? = some x) : ∃ z, x = .int z ∧ z ∈ ns := by
  rw [List.getElem?_map] at h
  cases e : ns[i]? with
  | none =>
    rw [e] at h
    cases h
  | some z =>
    rw [e] at h
    exact ⟨z, (Option.some.inj h).symm, List.mem_of_getElem? e⟩
theorem snoc_ints (zs : List Int) (z : Int) : zs.map V.int ++ [V.int z] = (zs ++ [z]).map V.int := by
  rw [List.map_append]
  rfl
theorem divW {i j : Int} (h : 0 < j) (h2 : j < 4611686018427387904) : CDivW i j := wide_div (b := 64) h (by omega) (by decide) (by decide)
theorem mulS {i j : Int} (h : 0 ≤ i) (h2 : i < 4611686018427387904) : CMul i j := .inl ⟨by omega, by omega⟩
theorem mod_lo {a b : Int} (h : 0 < b) : 0 ≤ a % b := Int.emod_nonneg a (by omega)
theorem mod_hi {a b : Int} (h : 0 < b) : a % b < b := Int.emod_lt_of_pos a h
theorem nest (a b : Int) : (if b > a then b else a) = max a b := by
  by_cases h : b > a
  · rw [if_pos h]; omega
  · rw [if_neg h]; omega
end Fb
set_option Elab.async false
set_option linter.all false
set_option maxRecDepth 100000
set_option maxHeartbeats 2000000
namespace Fb
open PySem PySem.W PySem.Calls PyProof.Rows L2
/-- a def as the top has left it -/
def Has (K : PySem.W.Frag) (mg : Str → Option Value) (x : Str) (st : Stmt) : Prop := ∃ f fd, L2.Fun K x x st f fd ∧ mg x = some (.ref f)
def Cn (mg : Str → Option Value) (x : Str) (v : V) : Prop := ∃ u, mg x = some u ∧ RelV v u
theorem has_mk {K : PySem.W.Frag} {mg : Str → Option Value} {h : Heap} {x : Str} {st : Stmt} {f : Addr} {oc : Value} {od an : Option Addr} {sl : Array (Option Value)} {kV dc pm cd ct : Value} (X : K.In h) (G : h.Ns mainGlobals mg)
    (a : nsIn K mainGlobals x = some (some (.ref f))) (l : K.lookup f = some ⟨oc, od, .func (fnOf x x (defArgs st) (defBody st) (defScope st) .none kV dc pm an cd ct), sl⟩) (c : codeIn K cd x = true) (k : keepIn K (.ref f) = true) : Has K mg x st :=
  ⟨f, _, fun_mk l c k, mg_of X G a⟩
theorem rel_abs {u : Value} {v : V} (h : absV u = some v) : RelV v u := by
  cases u with
  | none => cases h; rfl
  | bool b => cases h; rfl
  | int i t => cases h; exact ⟨t, rfl⟩
  | str x t => cases h; exact ⟨t, rfl⟩
  | bytes b t => cases h; exact ⟨t, rfl⟩
  | float b t => cases h; exact ⟨t, rfl⟩
  | ref a => cases h; rfl
  | type n => cases h; rfl
  | _ => cases h
theorem vals_abs : ∀ {us : List Value} {vs : List V}, us.map absV = vs.map some → Vals vs us
  | [], [], _ => .nil
  | [], _ :: _, h => by cases h
  | _ :: _, [], h => by cases h
  | u :: us, v :: vs, h => by
    rw [List.map_cons, List.map_cons] at h
    injection h with h1 h2
    exact .cons (rel_abs h1) (vals_abs h2)
theorem tup_in {K : PySem.W.Frag} {a : Addr} {od : Option Addr} {its : Array Value} {n : Nat} {sl : Array (Option Value)} {xs : List V} (l : K.lookup a = some ⟨.type "tuple", od, .seq its n, sl⟩) (z : its.size ≤ 1000) (e : its.toList.map absV = xs.map some) (H : Hp) : SqT K H a xs :=
  .inr ⟨_, its, n, l, rfl, rfl, Nat.le_of_lt (small1000 z), vals_abs e⟩
theorem cn_in {K : PySem.W.Frag} {mg : Str → Option Value} {h : Heap} {x : Str} {u : Value} {v : V} (X : K.In h) (G : h.Ns mainGlobals mg) (a : nsIn K mainGlobals x = some (some u)) (e : absV u = some v) : Cn mg x v := ⟨u, mg_of X G a, rel_abs e⟩
theorem cn_loose {p : Program} {lv : List (Str × WData)} {mg : Str → Option Value} {h : Heap} {x : Str} {n : Int} (X : XL p lv mg h) (m : (x, WData.int n) ∈ lv) : Cn mg x (.int n) := by
  obtain ⟨v, a, r⟩ := X.2.val _ m
  cases r
  exact ⟨_, a, ⟨_, rfl⟩⟩
/-- the end of a law, with what the top has reckoned told -/
theorem walk_X {l : OpenLaw} {n k : Nat} {q : Program} {loose : List Str} {XP : (Str → Option Value) → Heap → Prop} {YP : World → Heap → Prop} {d : DefRec} {K : Params → Frag} {sp : World → Sp} {x : Str}
    (hn : l.most = some n) (hn2 : n ≤ sizeLine) (hdf : d.params.defaults = []) (hr : Room k callerA) (hY : ∀ (w : World) (h : Heap), YP w h → (K w.params).In h)
    (F : ∀ (w : World) (mg : Str → Option Value) (fa : Addr) (h : Heap), (K w.params).In h → h.Ns mainGlobals mg → XP mg h → mg d.name = some (.ref fa) →
      ∃ fd : FuncData, (∀ (s : Shared) (u : Value), BindsTo s fd ⟨[u], []⟩ [(x, u)]) ∧ ∀ base : Heap, (K w.params).In base → base.Ns mainGlobals mg → FnOk l.prog w (K w.params) mg base CX0 k fa fd [x] (sp w))
    (hsp : ∀ (w : World) (H : Hp) (a : Addr) (ns : List Int), ns.length ≤ n → SqL (K w.params) H a (ns.map V.int) → sp w [.ref a] H (fun v _ => v = .bl true) fun _ _ _ => False) :
    WalkO q loose XP YP l.row.toRowW d [] (fun f vs => PySem.call f vs) := by
  refine Att.attach_call hn hdf fun w s₀ s₁ mg mb fa o pm cd doc a vs ns G Y ho hd hcd hmg hobj hints hlen hg => ?_
  obtain ⟨fd, hb, hF⟩ := F w mg fa _ (hY w _ Y) G.T.g G.X hmg
  exact law_call (hY w _ Y) G.T.g G.T.b G.T.builtins G.T.nolimit hg hobj hints (Nat.le_trans hlen hn2) hr hF hb (fun H _ hS => hsp w H a ns hlen hS) fun H e s' z => z
end Fb
set_option Elab.async false
set_option linter.all false
set_option maxRecDepth 100000
set_option maxHeartbeats 2000000
namespace Fb
open PySem PySem.Spec PyProof.Rows L2
/-! ### a def that is called where nothing is being shown (no repr is under way) -/
structure FnG (P : Program) (w : World) (K : PySem.W.Frag) (mg : Str → Option Value) (base : Heap) (k : Nat) (f : Addr) (fd : FuncData) (ps : List Str) (sp : Sp) : Prop where
  len : ∀ vs H Q E, sp vs H Q E → vs.length = ps.length
  run : ∀ (A : Around) (outer : List Env) (s : Shared) (H : Hp) (args : Args) (us : List Value) (vs : List V) (Q : VK) (E : XK), A.guards = some [] → Room k A →
    Env0 P w K mg base A outer s H → BindsTo s fd args (ps.zip us) → Vals vs us → sp vs H Q E → codeAny (model P w) A (.call (.ref f) args) (CR CX0 outer P w H s Q E) s
section
variable {P : Program} {w : World} {K : PySem.W.Frag} {mg : Str → Option Value} {base : Heap}
theorem ok_G {x qual : Str} {st : Stmt} {f : Addr} {fd : FuncData} {N ps : List Str} {k : Nat} {sp : Sp} (F : L2.Fun K x qual st f fd) (S : FnScope N ps (defScope st)) (len : ∀ vs H Q E, sp vs H Q E → vs.length = ps.length)
    (walk : ∀ (cdv : Value) (A : Around) (outer : List Env) (s : Shared) (H : Hp) (vs : List V) (Q : VK) (E : XK), (A.deeper (envOfC qual (defScope st) s.heap.objs.size f cdv)).guards = some [] → Room k (A.deeper (envOfC qual (defScope st) s.heap.objs.size f cdv)) → sp vs H Q E →
      ∃ t, PSs (cxOf CX0 P w K mg base N qual (defScope st) f cdv A outer s H E).nox (defBody st) t ∧ t { nx := fun _ H' => Q .non H', rt := Q } (start N vs) H) : FnG P w K mg base (k + 1) f fd ps sp := by
  obtain ⟨oc, od, kV, dc, pm, an, cdv, ct, osl, rfl, lk, hcd⟩ := F.ex
  refine ⟨len, fun A outer s H args us vs Q E gd hr e0 hb r hs0 => ?_⟩
  have hl := len _ _ _ _ hs0
  have kIn : K.In s.heap := e0.mod.kin.keeps fun b o e => (e0.bs b o e).1
  have nolim : s.heap.NoLimit := e0.mod.nolimit.keeps fun b o e => (e0.bs b o e).1
  have kinds : ∀ y ∈ ps.zip us, (defScope st).names.lookup y.1 = some .local ∨ ((defScope st).names.lookup y.1 = some .cell ∧ ((cellsFrom (s.heap.objs.size + 1) (defScope st).names []).lookup y.1).isSome = true) := fun ⟨n, v⟩ hy => by
    rcases S.par n (List.of_mem_zip hy).1 with z | z
    · exact .inl z
    · exact .inr ⟨z, PySem.W.cellsFrom_some _ _ _ (.inl z)⟩
  refine codeAny_call_function hr.depth (kIn _ _ lk) rfl S.co S.gen rfl (PySem.W.codeRec_of kIn hcd) (hb _ _ _ _ ?_)
  refine wpAny_newFunctionEnv_cells S.kind kinds fun env he s1 y => ?_
  subst he
  refine ⟨nolim.keeps y.toInCall.keep, codeAny_func ?_⟩
  obtain ⟨t, ht, hq⟩ := walk cdv A outer s H vs Q E gd (hr.deeper _) hs0
  have I0 : Inv (cxOf CX0 P w K mg base N qual (defScope st) f cdv A outer s H E) [] (start N vs) H s1 := inv_start S hr.hd e0 hl r y
  refine wpAny_mono (ht.nox.run [] s1 (start N vs) H _ I0 hq) (fun fl s' z => ?_) fun e s' z => z
  have out : ∀ {σ' : L2.St} {H' : Hp} {v : V} {u : Value}, Inv (cxOf CX0 P w K mg base N qual (defScope st) f cdv A outer s H E) [] σ' H' s' → RelV v u → Q v H' → CE outer P w H s Q u s' := fun {σ' H' v u} J rv q => ⟨v, H', J.os, J.bare, J.base, J.hok, rv, q⟩
  cases fl with
  | ret u =>
    obtain ⟨v, σ', H', J, rv, q⟩ := z
    exact out J rv q
  | next =>
    obtain ⟨σ', H', J, q⟩ := z
    exact out (v := V.non) (u := Value.none) J rfl q
  | brk =>
    obtain ⟨_, _, _, q⟩ := z
    exact q.elim
  | cont =>
    obtain ⟨_, _, _, q⟩ := z
    exact q.elim
end
/-- a def under its name, where nothing is being shown -/
structure CalG (P : Program) (w : World) (K : PySem.W.Frag) (mg : Str → Option Value) (base : Heap) (k : Nat) (x : Str) (sp : Sp) : Prop where
  ex : ∃ (f : Addr) (fd : FuncData) (ps : List Str), FnG P w K mg base k f fd ps sp ∧ mg x = some (.ref f) ∧ PySem.W.keepIn K (.ref f) = true ∧ Binds K fd ps []
section
variable {X : Cx} {k j : Nat} {x : Str} {sp : Sp} {p pos : Pos} {e : Expr} {es : List Expr} {t : TA}
theorem pe_cG (c : CalG X.prog X.w X.K X.mg X.base k x sp) (gd : X.A.guards = some []) (hr : Room j X.A) (hk : k ≤ j) (hg : Gl X x) (ha : PA X (e :: es) t) (hdb : (x == ("__debug__" : Str)) = false := by decide)
    (he : starEach (e :: es) X.env = (false, eval e X.env) :: starEach es X.env := by rfl) (hpl : (backTo pos (starEach es X.env)).any (·.1) = false := by rfl) : PE X (.Call (.Name x p) (e :: es) [] pos) (tCall sp [] E0 t) := by
  obtain ⟨f, fd, ps, F, hm, kp, b⟩ := c.ex
  refine ⟨fun pins s σ H Q I h => ?_⟩
  refine wpAny_Call_Name_kw (ld_glob I hg hm ?_ hdb)
  refine PySem.W.callWith_K (h₀ := X.base) I.ok.mod.kin kp (thn (ha.run pos pins s σ H _ I h) fun us s1 ⟨vs, H1, I1, r, q⟩ => ⟨I1.kIn, ?_⟩) he hpl
  have q2 : sp vs H1 Q E0 := by have z : sp (vs ++ []) H1 Q E0 := q; rw [List.append_nil] at z; exact z
  have hl : us.length = ps.length := by rw [← r.length]; exact F.len _ _ _ _ q2
  refine wpAny_call (codeAny_mono (F.run X.A X.stack s1 H1 ⟨us, []⟩ us vs Q E0 gd (hr.mono hk) I1.env0 (by have z := b s1 us I1.kIn (by rw [List.append_nil]; exact hl); rw [List.append_nil] at z; exact z) r q2) fun r' s' hq => ?_)
  cases r' with
  | error e => exact hq.elim
  | ok fl =>
    cases fl with
    | ret u => exact I1.after hq
    | next => exact hq.elim
    | brk => exact hq.elim
    | cont => exact hq.elim
/-- repr of data at any depth -/
def rReprD (K : PySem.W.Frag) : List V → Hp → VK → Prop := fun xs H Q => ∃ (a : Addr) (d : PyData), xs = [.ref a] ∧ Dp K H (.ref a) d ∧ d.showable = true ∧ d.hasDict = false ∧ d.depth ≤ 60 ∧ d.shown.length ≤ sizeLine ∧ Q (.str d.shown) H
theorem call_reprD (gd : X.A.guards = some []) (hu : X.A.units + 64 < cLine) : CallR X (.builtin "repr") (rReprD X.K) := by
  intro pins s σ H xs us Q I r h
  obtain ⟨a, d, rfl, hd, h1, h2, h3, h4, q⟩ := h
  obtain ⟨u, rfl, rx⟩ := vals1 r
  obtain ⟨as, rd⟩ := Dp.reads I d _ _ hd rx
  obtain rfl : u = Value.ref a := rx
  refine repr_of_reads' (h₀ := s.heap) rd h1 (fun z => by rw [h2] at z; cases z) gd (by omega) (fun _ _ e => e) (fun h' u tk hk => ?_) h4
  exact ⟨V.str _, H, I.kept (t' := tk) hk, ⟨_, rfl⟩, q⟩
end
end Fb
namespace Fb
open PySem PySem.W PySem.Calls PyProof.Rows L2
/-- the law's own call, where nothing is being shown -/
theorem law_G {P : Program} {w : World} {K : Frag} {mg mb : Str → Option Value} {k : Nat} {fa a : Addr} {fd : FuncData} {x : Str} {sp : Sp} {s₁ : Shared} {vs : List Value} {ns : List Int}
    (KX : K.In s₁.heap) (hns : s₁.heap.Ns mainGlobals mg) (hb : s₁.heap.Ns builtinsNs mb) (hbb : ∀ x : Str, x ≠ "__name__" → mb x = bootBuiltins x) (hlim : s₁.heap.NoLimit) (hg : s₁.gens = #[])
    (ha : s₁.heap.get? a = some { cls := .type "list", data := .seq vs.toArray }) (hi : IntsAre vs ns) (hl : ns.length ≤ sizeLine) (hr : Room k callerA)
    (F : ∀ base : Heap, K.In base → base.Ns mainGlobals mg → FnG P w K mg base k fa fd [x] sp) (hbind : ∀ (s : Shared) (u : Value), BindsTo s fd ⟨[u], []⟩ [(x, u)])
    (hsp : ∀ H : Hp, SqL K H a (ns.map V.int) → sp [.ref a] H (fun v _ => v = .bl true) fun _ _ _ => False) :
    codeAny (model P w) callerA (.call (.ref fa) ⟨[.ref a], []⟩) (fun r s' => r = .ok (.ret (.bool true)) ∧ OldK s₁.heap s'.heap ∧ s'.os = s₁.os ∧ AllBare s'.gens) s₁ := by
  have rv := vals_ints hi
  have lv := hi.length
  have core : ∀ H : Hp, Only H → SqL K H a (ns.map V.int) → HOk P w H s₁.heap → (∀ b, H b ≠ none → b = a) → (H a ≠ none → K.lookup a = none) →
      codeAny (model P w) callerA (.call (.ref fa) ⟨[.ref a], []⟩) (fun r s' => r = .ok (.ret (.bool true)) ∧ OldK s₁.heap s'.heap ∧ s'.os = s₁.os ∧ AllBare s'.gens) s₁ := by
    intro H0 hO hS hok hA hK
    have tracked : ∀ {b : Addr} {u : HO}, H0 b = some u → b = a := fun {b u} q => hA b (by rw [q]; simp)
    have hid : ∀ {b : Addr} {o : Obj}, s₁.heap.get? b = some o → H0 b = none → (hidT s₁.heap H0).get? b = some o := fun e n => hidT_get e n
    have noD : ∀ {b : Addr} {o : Obj} {es : Array DictEntry} {ep : Nat}, s₁.heap.get? b = some o → o.data = .dict es ep → H0 b = none := fun {b o es ep} e dt => by
      cases q : H0 b with
      | none => rfl
      | some u =>
        obtain rfl := tracked q
        rw [ha] at e; cases e
        have z : Data.seq vs.toArray _ = Data.dict es ep := dt
        cases z
    have nsK : ∀ {b : Addr} {m : Str → Option Value}, s₁.heap.Ns b m → (hidT s₁.heap H0).Ns b m := fun {b m} ⟨o, es, ep, e, dt, r⟩ => ⟨o, es, ep, hid e (noD e dt), dt, r⟩
    have kIn : K.In (hidT s₁.heap H0) := fun b o e => hid (KX b o e) (by
      cases q : H0 b with
      | none => rfl
      | some u =>
        obtain rfl := tracked q
        rw [hK (by rw [q]; simp)] at e; cases e)
    have md : Mod K mg (hidT s₁.heap H0) := ⟨kIn, nsK hns, ⟨mb, nsK hb, hbb⟩, let ⟨mc, h1, h2⟩ := hlim; ⟨mc, nsK h1, h2⟩⟩
    have env : Env0 P w K mg (hidT s₁.heap H0) callerA [] s₁ H0 := ⟨rfl, md, fun b o e => of_hidT e, Nat.le_of_eq (hidT_size _ _), trivial, fun b z => absurd (show b ∈ ([] : List Addr) from z) (by simp), hok, .of_eq hg⟩
    refine codeAny_mono ((F _ kIn (nsK hns)).run callerA [] s₁ H0 ⟨[.ref a], []⟩ [.ref a] [.ref a] _ _ rfl hr env (hbind s₁ (.ref a)) (.cons rfl .nil) (hsp H0 hS)) fun r s' h => ?_
    cases r with
    | error e => exact h.elim
    | ok fl =>
      cases fl with
      | next => exact h.elim
      | brk => exact h.elim
      | cont => exact h.elim
      | ret u =>
        obtain ⟨v, H', os, bare, un, ok2, rl, q⟩ := h
        obtain rfl : v = .bl true := q
        obtain rfl : u = Value.bool true := rl
        refine ⟨rfl, OldK.of_keep fun b o e => ?_, os, bare⟩
        cases q : H0 b with
        | none => exact un.keep b o e q (fun z => absurd (show b ∈ ([] : List Addr) from z) (by simp)) (by simp)
        | some u =>
          rcases hO b with z | ⟨ob, xs, z⟩
          · rw [q] at z; cases z
          · obtain ⟨e1, _⟩ := hok b _ z
            obtain ⟨e2, _⟩ := ok2 b _ (un.frzs b ob _ z)
            rw [e] at e1; cases e1
            exact e2
  cases hk : K.lookup a with
  | some o =>
    have e := KX a o hk
    rw [ha] at e
    cases e
    exact core (fun _ => none) (fun _ => .inl rfl) (.inr ⟨_, vs.toArray, _, hk, rfl, rfl, rfl, by rw [List.size_toArray, lv]; exact hl, by simpa using rv⟩) (fun b u z => by have y : (none : Option HO) = some u := z; cases y) (fun b z => absurd rfl z) fun z => absurd rfl z
  | none =>
    refine core (fun b => if b = a then some (.frz { cls := .type "list", data := .seq vs.toArray } (.lst (ns.map V.int))) else none) (fun b => ?_) (.inl (.inr ⟨{ cls := .type "list", data := .seq vs.toArray }, if_pos rfl⟩)) (fun b u z => ?_) (fun b z => ?_) fun _ => hk
    · by_cases q : b = a
      · exact .inr ⟨_, _, if_pos q⟩
      · exact .inl (if_neg q)
    · by_cases q : b = a
      · have y := (if_pos q).symm.trans z
        cases y
        subst q
        exact ⟨ha, by rw [List.length_map]; exact hl, vs, _, rv, ha⟩
      · have y := (if_neg q).symm.trans z
        cases y
    · by_cases q : b = a
      · exact q
      · exact absurd (if_neg q) z
theorem walk_G {l : OpenLaw} {n k : Nat} {q : Program} {loose : List Str} {XP : (Str → Option Value) → Heap → Prop} {YP : World → Heap → Prop} {d : DefRec} {K : Params → Frag} {sp : World → Sp} {x : Str}
    (hn : l.most = some n) (hn2 : n ≤ sizeLine) (hdf : d.params.defaults = []) (hr : Room k callerA) (hY : ∀ (w : World) (h : Heap), YP w h → (K w.params).In h)
    (F : ∀ (w : World) (mg : Str → Option Value) (fa : Addr) (h : Heap), (K w.params).In h → h.Ns mainGlobals mg → XP mg h → mg d.name = some (.ref fa) →
      ∃ fd : FuncData, (∀ (s : Shared) (u : Value), BindsTo s fd ⟨[u], []⟩ [(x, u)]) ∧ ∀ base : Heap, (K w.params).In base → base.Ns mainGlobals mg → FnG l.prog w (K w.params) mg base k fa fd [x] (sp w))
    (hsp : ∀ (w : World) (H : Hp) (a : Addr) (ns : List Int), ns.length ≤ n → SqL (K w.params) H a (ns.map V.int) → sp w [.ref a] H (fun v _ => v = .bl true) fun _ _ _ => False) :
    WalkO q loose XP YP l.row.toRowW d [] (fun f vs => PySem.call f vs) := by
  refine Att.attach_call hn hdf fun w s₀ s₁ mg mb fa o pm cd doc a vs ns G Y ho hd hcd hmg hobj hints hlen hg => ?_
  obtain ⟨fd, hb, hF⟩ := F w mg fa _ (hY w _ Y) G.T.g G.X hmg
  exact law_G (hY w _ Y) G.T.g G.T.b G.T.builtins G.T.nolimit hg hobj hints (Nat.le_trans hlen hn2) hr hF hb (fun H hS => hsp w H a ns hlen hS)
end Fb
set_option Elab.async false
set_option linter.all false
set_option maxRecDepth 100000
set_option maxHeartbeats 2000000
namespace Fb
open PySem
/-! ### programs as trees; what is laid out of them -/
mutual
inductive Stm : Type
  | mk (w x : Str) (r : List PyData) (h : w = "let" ∨ w = "sum" ∨ w = "call")
  | no (w : Str) (r : List PyData) (h : w = "set" ∨ w = "tell" ∨ w = "give")
  | fn (x : Str) (ps : List Str) (b : Blk)
  | ite (a : PyData) (b1 b2 : Blk)
  | whl (a : PyData) (b : Blk)
  | tms (one : Bool) (x : Str) (a : PyData) (b : Blk)
inductive Blk : Type
  | nil
  | cons (s : Stm) (r : Blk)
end
def modeS (one : Bool) : Str := if one then "one" else "own"
mutual
def dS : Stm → PyData
  | .mk w x r _ => .tuple (.str w :: .str x :: r)
  | .no w r _ => .tuple (.str w :: r)
  | .fn x ps b => .tuple [.str "fn", .str x, .tuple (ps.map .str), .tuple (dB b)]
  | .ite a b1 b2 => .tuple [.str "if", a, .tuple (dB b1), .tuple (dB b2)]
  | .whl a b => .tuple [.str "while", a, .tuple (dB b)]
  | .tms one x a b => .tuple [.str "times", .str (modeS one), .str x, a, .tuple (dB b)]
def dB : Blk → List PyData
  | .nil => []
  | .cons s r => dS s :: dB r
end
/-! what its lists will have, at most -/
mutual
def wS : Stm → Nat
  | .mk .. => 2
  | .no .. => 1
  | .fn _ ps b => 4 + ps.length + wB b
  | .ite _ b1 b2 => 3 + wB b1 + wB b2
  | .whl _ b => 2 + wB b
  | .tms _ _ _ b => 4 + wB b
def wB : Blk → Nat
  | .nil => 0
  | .cons s r => wS s + wB r
end
theorem wS_pos (s : Stm) : 1 ≤ wS s := by
  cases s <;> simp only [wS] <;> omega
abbrev nD (n : Nat) : PyData := .int (n : Int)
def rowG (kind : Str) (k a : PyData) : PyData := .tuple [.str kind, k, a]
def rowM (x : Str) (k g : Nat) : PyData := .tuple [.str x, nD k, nD g]
def rowB (k : PyData) (ps : List Str) : PyData := .tuple [k, .tuple (ps.map .str)]
structure TS where
  pl : List (PyData × Nat × Nat)
  bd : List PyData
  gr : List PyData
  mm : List PyData
mutual
def layS : Stm → Nat → Nat → TS → TS
  | .mk w x r h, g, b, t => { t with pl := t.pl ++ [(dS (.mk w x r h), g, b)], mm := t.mm ++ [rowM x t.pl.length g] }
  | .no w r h, g, b, t => { t with pl := t.pl ++ [(dS (.no w r h), g, b)] }
  | .fn x ps blk, g, b, t => layB blk t.gr.length t.bd.length { pl := t.pl ++ [(dS (.fn x ps blk), g, b)], mm := t.mm ++ (rowM x t.pl.length g :: ps.map fun p => rowM p t.pl.length t.gr.length), bd := t.bd ++ [rowB (nD t.pl.length) ps], gr := t.gr ++ [rowG "body" (nD t.pl.length) (nD g)] }
  | .ite a b1 b2, g, b, t =>
    let t1 := layB b1 t.gr.length b { t with pl := t.pl ++ [(dS (.ite a b1 b2), g, b)], gr := t.gr ++ [rowG "one" (nD t.pl.length) (nD g)] }
    layB b2 t1.gr.length b { t1 with gr := t1.gr ++ [rowG "other" (nD t.pl.length) (nD g)] }
  | .whl a blk, g, b, t => layB blk t.gr.length b { t with pl := t.pl ++ [(dS (.whl a blk), g, b)], gr := t.gr ++ [rowG "while" (nD t.pl.length) (nD g)] }
  | .tms true x a blk, g, b, t => layB blk (t.gr.length + 1) b { t with pl := t.pl ++ [(dS (.tms true x a blk), g, b)], mm := t.mm ++ [rowM x t.pl.length t.gr.length], gr := t.gr ++ [rowG "head" (nD t.pl.length) (nD g)] ++ [rowG "times" (nD t.pl.length) (nD t.gr.length)] }
  | .tms false x a blk, g, b, t => layB blk t.gr.length b { t with pl := t.pl ++ [(dS (.tms false x a blk), g, b)], mm := t.mm ++ [rowM x t.pl.length t.gr.length], gr := t.gr ++ [rowG "times" (nD t.pl.length) (nD g)] }
def layB : Blk → Nat → Nat → TS → TS
  | .nil, _, _, t => t
  | .cons s r, g, b, t => layB r g b (layS s g b t)
end
/-! ### the pile -/
inductive Itm : Type
  | blk (kind : Str) (k a : PyData) (body : Nat) (b : Blk)
  | plc (s : Stm) (g b : Nat)
def runI : Itm → TS → TS
  | .blk kind k a body b, t => layB b t.gr.length body { t with gr := t.gr ++ [rowG kind k a] }
  | .plc s g b, t => layS s g b t
def runIs (l : List Itm) (t : TS) : TS := l.foldl (fun t i => runI i t) t
def plcs : Blk → Nat → Nat → List Itm
  | .nil, _, _ => []
  | .cons s r, g, b => .plc s g b :: plcs r g b
theorem run_plcs : ∀ (blk : Blk) (g b : Nat) (t : TS), runIs (plcs blk g b) t = layB blk g b t
  | .nil, _, _, _ => rfl
  | .cons s r, g, b, t => by
    show runIs (plcs r g b) (layS s g b t) = layB r g b (layS s g b t)
    exact run_plcs r g b _
theorem runIs_append (a b : List Itm) (t : TS) : runIs (a ++ b) t = runIs b (runIs a t) := List.foldl_append ..
/-- a statement met: what is laid at once, and the blocks that come -/
def metT : Stm → Nat → Nat → TS → TS
  | .mk w x r h, g, b, t => { t with pl := t.pl ++ [(dS (.mk w x r h), g, b)], mm := t.mm ++ [rowM x t.pl.length g] }
  | .no w r h, g, b, t => { t with pl := t.pl ++ [(dS (.no w r h), g, b)] }
  | .fn x ps blk, g, b, t => { t with pl := t.pl ++ [(dS (.fn x ps blk), g, b)], mm := t.mm ++ (rowM x t.pl.length g :: ps.map fun p => rowM p t.pl.length t.gr.length), bd := t.bd ++ [rowB (nD t.pl.length) ps] }
  | .ite a b1 b2, g, b, t => { t with pl := t.pl ++ [(dS (.ite a b1 b2), g, b)] }
  | .whl a blk, g, b, t => { t with pl := t.pl ++ [(dS (.whl a blk), g, b)] }
  | .tms true x a blk, g, b, t => { t with pl := t.pl ++ [(dS (.tms true x a blk), g, b)], mm := t.mm ++ [rowM x t.pl.length t.gr.length], gr := t.gr ++ [rowG "head" (nD t.pl.length) (nD g)] }
  | .tms false x a blk, g, b, t => { t with pl := t.pl ++ [(dS (.tms false x a blk), g, b)], mm := t.mm ++ [rowM x t.pl.length t.gr.length] }
def metI : Stm → Nat → Nat → TS → List Itm
  | .mk .., _, _, _ => []
  | .no .., _, _, _ => []
  | .fn x ps blk, g, b, t => [.blk "body" (nD t.pl.length) (nD g) t.bd.length blk]
  | .ite a b1 b2, g, b, t => [.blk "one" (nD t.pl.length) (nD g) b b1, .blk "other" (nD t.pl.length) (nD g) b b2]
  | .whl a blk, g, b, t => [.blk "while" (nD t.pl.length) (nD g) b blk]
  | .tms true x a blk, g, b, t => [.blk "times" (nD t.pl.length) (nD t.gr.length) b blk]
  | .tms false x a blk, g, b, t => [.blk "times" (nD t.pl.length) (nD g) b blk]
theorem run_met (s : Stm) (g b : Nat) (t : TS) : runIs (metI s g b t) (metT s g b t) = layS s g b t := by
  cases s with
  | mk w x r h => simp [metI, metT, layS, runIs]
  | no w r h => simp [metI, metT, layS, runIs]
  | fn x ps blk => simp [metI, metT, layS, runIs, runI]
  | ite a b1 b2 => simp [metI, metT, layS, runIs, runI]
  | whl a blk => simp [metI, metT, layS, runIs, runI]
  | tms one x a blk => cases one <;> simp [metI, metT, layS, runIs, runI]
def wI : Itm → Nat
  | .blk _ _ _ _ b => 1 + wB b
  | .plc s _ _ => wS s
theorem wI_pos (i : Itm) : 1 ≤ wI i := by
  cases i with
  | blk => simp only [wI]; omega
  | plc s => exact wS_pos s
def wIs (l : List Itm) : Nat := (l.map wI).sum
theorem wIs_cons (i : Itm) (l : List Itm) : wIs (i :: l) = wI i + wIs l := by simp [wIs]
theorem wIs_append (a b : List Itm) : wIs (a ++ b) = wIs a + wIs b := by simp [wIs]
theorem len_wIs : ∀ l : List Itm, l.length ≤ wIs l
  | [] => Nat.le_refl _
  | i :: r => by
    rw [wIs_cons, List.length_cons]
    have := len_wIs r
    have := wI_pos i
    omega
theorem w_plcs : ∀ (blk : Blk) (g b : Nat), wIs (plcs blk g b) = wB blk
  | .nil, _, _ => rfl
  | .cons s r, g, b => by
    show wIs (.plc s g b :: plcs r g b) = wS s + wB r
    rw [wIs_cons, w_plcs r]
    rfl
def TS.n (t : TS) : Nat := t.pl.length + t.bd.length + t.gr.length + t.mm.length
theorem w_met (s : Stm) (g b : Nat) (t : TS) : (metT s g b t).n + wIs (metI s g b t) ≤ t.n + wS s := by
  cases s with
  | mk w x r h => simp [metI, metT, TS.n, wIs, wI, wS]; omega
  | no w r h => simp [metI, metT, TS.n, wIs, wI, wS]; omega
  | fn x ps blk => simp [metI, metT, TS.n, wIs, wI, wS]; omega
  | ite a b1 b2 => simp [metI, metT, TS.n, wIs, wI, wS]; omega
  | whl a blk => simp [metI, metT, TS.n, wIs, wI, wS]; omega
  | tms one x a blk => cases one <;> simp [metI, metT, TS.n, wIs, wI, wS] <;> omega
/-! the measure falls -/
mutual
def zS : Stm → Nat
  | .mk .. => 1
  | .no .. => 1
  | .fn _ _ b => 2 + zB b
  | .ite _ b1 b2 => 3 + zB b1 + zB b2
  | .whl _ b => 2 + zB b
  | .tms _ _ _ b => 2 + zB b
def zB : Blk → Nat
  | .nil => 0
  | .cons s r => zS s + zB r
end
def zI : Itm → Nat
  | .blk _ _ _ _ b => 1 + zB b
  | .plc s _ _ => zS s
def zIs (l : List Itm) : Nat := (l.map zI).sum
theorem zIs_cons (i : Itm) (l : List Itm) : zIs (i :: l) = zI i + zIs l := by simp [zIs]
theorem zIs_append (a b : List Itm) : zIs (a ++ b) = zIs a + zIs b := by simp [zIs]
theorem z_plcs : ∀ (blk : Blk) (g b : Nat), zIs (plcs blk g b) = zB blk
  | .nil, _, _ => rfl
  | .cons s r, g, b => by
    show zIs (.plc s g b :: plcs r g b) = zS s + zB r
    rw [zIs_cons, z_plcs r]
    rfl
theorem z_met (s : Stm) (g b : Nat) (t : TS) : zIs (metI s g b t) + 1 = zS s := by
  cases s with
  | mk w x r h => simp [metI, zIs, zI, zS]
  | no w r h => simp [metI, zIs, zI, zS]
  | fn x ps blk => simp [metI, zIs, zI, zS]; omega
  | ite a b1 b2 => simp [metI, zIs, zI, zS]; omega
  | whl a blk => simp [metI, zIs, zI, zS]; omega
  | tms one x a blk => cases one <;> simp [metI, zIs, zI, zS] <;> omega
mutual
theorem w_layS : ∀ (s : Stm) (g b : Nat) (t : TS), (layS s g b t).n ≤ t.n + wS s
  | .mk w x r h, g, b, t => by simp [layS, TS.n, wS]; omega
  | .no w r h, g, b, t => by simp [layS, TS.n, wS]; omega
  | .fn x ps blk, g, b, t => by
    rw [layS]
    refine Nat.le_trans (w_layB blk _ _ _) ?_
    simp [TS.n, wS]; omega
  | .ite a b1 b2, g, b, t => by
    rw [layS]
    refine Nat.le_trans (w_layB b2 _ _ _) ?_
    have h := w_layB b1 t.gr.length b { t with pl := t.pl ++ [(dS (.ite a b1 b2), g, b)], gr := t.gr ++ [rowG "one" (nD t.pl.length) (nD g)] }
    simp [TS.n, wS] at h ⊢; omega
  | .whl a blk, g, b, t => by
    rw [layS]
    refine Nat.le_trans (w_layB blk _ _ _) ?_
    simp [TS.n, wS]; omega
  | .tms true x a blk, g, b, t => by
    rw [layS]
    refine Nat.le_trans (w_layB blk _ _ _) ?_
    simp [TS.n, wS]; omega
  | .tms false x a blk, g, b, t => by
    rw [layS]
    refine Nat.le_trans (w_layB blk _ _ _) ?_
    simp [TS.n, wS]; omega
theorem w_layB : ∀ (blk : Blk) (g b : Nat) (t : TS), (layB blk g b t).n ≤ t.n + wB blk
  | .nil, g, b, t => Nat.le_refl _
  | .cons s r, g, b, t => by
    rw [layB]
    have h1 := w_layB r g b (layS s g b t)
    have h2 := w_layS s g b t
    simp only [wB]
    omega
end
end Fb
set_option Elab.async false
set_option linter.all false
set_option maxRecDepth 100000
set_option maxHeartbeats 2000000
namespace Fb
open PySem PySem.Spec PyProof.Rows L2
/-! ### what may change -/
def Mod (S : List Addr) (H H' : Hp) : Prop := ∀ b o, H b = some o → b ∉ S → H' b = some o
theorem Mod.refl (S : List Addr) (H : Hp) : Mod S H H := fun _ _ e _ => e
theorem Mod.trans {S : List Addr} {H H1 H2 : Hp} (a : Mod S H H1) (b : Mod S H1 H2) : Mod S H H2 := fun c o e h => b c o (a c o e h) h
theorem Mod.of {S : List Addr} {H H' : Hp} (s : Same H H') : Mod S H H' := fun b o e _ => s b o e
theorem Mod.wide {S S' : List Addr} {H H' : Hp} (m : Mod S H H') (h : ∀ b ∈ S, b ∈ S') : Mod S' H H' := fun b o e z => m b o e fun q => z (h b q)
theorem Mod.put {S : List Addr} {H H' : Hp} {p : Addr} {o : HO} (m : Mod S H H') (h : p ∈ S ∨ H p = none) : Mod S H (L2.upd H' p o) := fun b x e z => by
  rcases h with h | h
  · rw [upd_ne (show b ≠ p from fun q => z (by rw [q]; exact h))]
    exact m b x e z
  · rw [upd_ne (ne_of_none e h)]
    exact m b x e z
theorem Mod.same {H H' : Hp} (m : Mod [] H H') : Same H H' := fun b o e => m b o e (by simp)
/-- what an object bears for ever -/
def Fix : HO → Prop
  | .tup _ => True
  | .frz _ _ => True
  | .ins _ _ _ => True
  | _ => False
def Ext (H H' : Hp) : Prop := ∀ b o, H b = some o → Fix o → H' b = some o
theorem Ext.refl (H : Hp) : Ext H H := fun _ _ e _ => e
theorem Ext.trans {H H1 H2 : Hp} (a : Ext H H1) (b : Ext H1 H2) : Ext H H2 := fun c o e f => b c o (a c o e f) f
theorem Same.ext {H H' : Hp} (s : Same H H') : Ext H H' := fun b o e _ => s b o e
theorem Mod.ext {S : List Addr} {H H' : Hp} (m : Mod S H H') (h : ∀ b ∈ S, ∀ o, H b = some o → ¬ Fix o) : Ext H H' := fun b o e f => m b o e fun q => h b q o e f
theorem no_lst {H : Hp} {a : Addr} {xs : List V} (h : H a = some (.lst xs)) : ∀ o, H a = some o → ¬ Fix o := fun o e => by
  rw [h] at e
  cases e
  exact id
theorem no_dk {H : Hp} {a : Addr} {xs : List (Key × V)} (h : H a = some (.dK xs)) : ∀ o, H a = some o → ¬ Fix o := fun o e => by
  rw [h] at e
  cases e
  exact id
theorem no_none {H : Hp} {a : Addr} (h : H a = none) : ∀ o, H a = some o → ¬ Fix o := fun o e => by
  rw [h] at e
  cases e
/-! ### data without lists stays -/
mutual
def noL : PyData → Bool
  | .none | .bool _ | .int _ | .str _ => true
  | .tuple xs => noLs xs
  | _ => false
def noLs : List PyData → Bool
  | [] => true
  | x :: xs => noL x && noLs xs
end
/-! tuples alone -/
def FixT : HO → Prop
  | .tup _ => True
  | .frz _ _ => True
  | _ => False
def ExtT (H H' : Hp) : Prop := ∀ b o, H b = some o → FixT o → H' b = some o
theorem Ext.t {H H' : Hp} (e : Ext H H') : ExtT H H' := fun b o h f => e b o h (by cases o <;> first | exact True.intro | exact f.elim)
theorem ExtT.trans {H H1 H2 : Hp} (a : ExtT H H1) (b : ExtT H1 H2) : ExtT H H2 := fun c o e f => b c o (a c o e f) f
theorem Mod.extT {S : List Addr} {H H' : Hp} (m : Mod S H H') (h : ∀ b ∈ S, ∀ o, H b = some o → ¬ FixT o) : ExtT H H' := fun b o e f => m b o e fun q => h b q o e f
theorem noT_ins {H : Hp} {a C dx : Addr} {fs : List (Str × V)} (h : H a = some (.ins C dx fs)) : ∀ o, H a = some o → ¬ FixT o := fun o e => by
  rw [h] at e
  cases e
  exact id
theorem noT_of {H : Hp} {a : Addr} (h : ∀ o, H a = some o → ¬ Fix o) : ∀ o, H a = some o → ¬ FixT o := fun o e f => h o e (by cases o <;> first | exact True.intro | exact f.elim)
theorem sqT_extT {K : PySem.W.Frag} {H H' : Hp} {a : Addr} {xs : List V} (e : ExtT H H') (h : SqT K H a xs) : SqT K H' a xs := by
  rcases h with (h | ⟨o, h⟩) | h
  · exact .inl (.inl (e _ _ h True.intro))
  · exact .inl (.inr ⟨o, e _ _ h True.intro⟩)
  · exact .inr h
mutual
theorem dp_extT {K : PySem.W.Frag} {H H' : Hp} (e : ExtT H H') : ∀ (d : PyData) (v : V), Dp K H v d → noL d = true → Dp K H' v d
  | .none, _, h, _ => by cases h; exact .non
  | .bool b, _, h, _ => by cases h; exact .bl b
  | .int i, _, h, _ => by cases h; exact .int i
  | .str x, _, h, _ => by cases h; exact .str x
  | .list _, _, _, n => by simp [noL] at n
  | .dict _, _, _, n => by simp [noL] at n
  | .tuple ds, _, h, n => by
    cases h with
    | tup a b => exact .tup (sqT_extT e a) (dps_extT e ds _ b (by simpa [noL] using n))
theorem dps_extT {K : PySem.W.Frag} {H H' : Hp} (e : ExtT H H') : ∀ (ds : List PyData) (vs : List V), DpAll K H vs ds → noLs ds = true → DpAll K H' vs ds
  | [], _, h, _ => by cases h; exact .nil
  | d :: ds, _, h, n => by
    cases h with
    | cons a b =>
      rw [noLs, Bool.and_eq_true] at n
      exact .cons (dp_extT e d _ a n.1) (dps_extT e ds _ b n.2)
end
theorem sqT_ext {K : PySem.W.Frag} {H H' : Hp} {a : Addr} {xs : List V} (e : Ext H H') (h : SqT K H a xs) : SqT K H' a xs := sqT_extT e.t h
theorem dp_ext {K : PySem.W.Frag} {H H' : Hp} (e : Ext H H') (d : PyData) (v : V) (h : Dp K H v d) (n : noL d = true) : Dp K H' v d := dp_extT e.t d v h n
theorem dps_ext {K : PySem.W.Frag} {H H' : Hp} (e : Ext H H') (ds : List PyData) (vs : List V) (h : DpAll K H vs ds) (n : noLs ds = true) : DpAll K H' vs ds := dps_extT e.t ds vs h n
theorem dps_len {K : PySem.W.Frag} {H : Hp} : ∀ {vs : List V} {ds : List PyData}, DpAll K H vs ds → vs.length = ds.length
  | _, _, .nil => rfl
  | _, _, .cons _ t => by rw [List.length_cons, List.length_cons, dps_len t]
theorem dps_snoc {K : PySem.W.Frag} {H : Hp} {v : V} {d : PyData} : ∀ {vs : List V} {ds : List PyData}, DpAll K H vs ds → Dp K H v d → DpAll K H (vs ++ [v]) (ds ++ [d])
  | _, _, .nil, h => .cons h .nil
  | _, _, .cons a t, h => .cons a (dps_snoc t h)
theorem dps_app {K : PySem.W.Frag} {H : Hp} {ws : List V} {es : List PyData} (h : DpAll K H ws es) : ∀ {vs : List V} {ds : List PyData}, DpAll K H vs ds → DpAll K H (vs ++ ws) (ds ++ es)
  | _, _, .nil => h
  | _, _, .cons a t => .cons a (dps_app h t)
theorem dps_at {K : PySem.W.Frag} {H : Hp} : ∀ {vs : List V} {ds : List PyData} {i : Nat} {v : V}, DpAll K H vs ds → vs[i]? = some v → ∃ d, ds[i]? = some d ∧ Dp K H v d
  | _, _, 0, _, .cons a _, h => ⟨_, rfl, by cases h; exact a⟩
  | _, _, i + 1, _, .cons _ t, h => dps_at (i := i) t h
  | _, _, _, _, .nil, h => by cases h
theorem dps_strs {K : PySem.W.Frag} {H : Hp} : ∀ ps : List Str, DpAll K H (ps.map V.str) (ps.map PyData.str)
  | [] => .nil
  | p :: r => .cons (.str p) (dps_strs r)
theorem strs_of {K : PySem.W.Frag} {H : Hp} : ∀ {ps : List Str} {vs : List V}, DpAll K H vs (ps.map PyData.str) → vs = ps.map V.str
  | [], _, .nil => rfl
  | p :: r, _, .cons a t => by
    cases a
    rw [strs_of t]
    rfl
/-! ### sizes of what is shown -/
structure Sh (d : PyData) (n m : Nat) : Prop where
  sw : d.showable = true
  nd : d.hasDict = false
  dp : d.depth ≤ m
  ln : d.shown.length ≤ n
theorem sh_none (n m : Nat) (h : 4 ≤ n) : Sh .none n m := ⟨rfl, rfl, Nat.zero_le _, Nat.le_trans (by decide +kernel : (PyData.shown .none).length ≤ 4) h⟩
theorem sh_int {i : Int} {n m : Nat} (h : i.natAbs < 1000000000000) (hn : 13 ≤ n) : Sh (.int i) n m := by
  refine ⟨?_, rfl, Nat.zero_le _, Nat.le_trans (PyData.shown_int_le h) hn⟩
  show decide (i.natAbs.log2 < 1920) = true
  exact decide_eq_true (Nat.lt_of_lt_of_le (PySem.Flt.log2_lt_of (k := 40) (by decide) (Nat.lt_of_lt_of_le h (by decide))) (by decide))
theorem sh_str {x : Str} {k n m : Nat} (h : x.length ≤ k) (hc : ∀ c ∈ x.cps.toList, c < 128) (hn : 10 * k + 2 ≤ n) : Sh (.str x) n m :=
  ⟨rfl, rfl, Nat.zero_le _, Nat.le_trans (StrLaws.reprText_len x fun c z => Nat.lt_trans (hc c z) (by decide)) (by omega)⟩
structure ShA (ds : List PyData) (n m : Nat) : Prop where
  sw : PyData.showableAll ds = true
  nd : PyData.hasDictAll ds = false
  dp : PyData.depthAll ds ≤ m
  ln : ((PyData.shownAll ds).map (·.length)).sum + 2 * ds.length ≤ n
theorem sha_nil (n m : Nat) : ShA [] n m := ⟨rfl, rfl, Nat.zero_le _, Nat.zero_le _⟩
theorem sha_cons {d : PyData} {ds : List PyData} {a b m : Nat} (h : Sh d a m) (t : ShA ds b m) : ShA (d :: ds) (a + 2 + b) m := by
  refine ⟨?_, ?_, ?_, ?_⟩
  · rw [PyData.showableAll, h.sw, t.sw]; rfl
  · rw [PyData.hasDictAll, h.nd, t.nd]; rfl
  · rw [PyData.depthAll]; exact Nat.max_le.mpr ⟨h.dp, t.dp⟩
  · rw [PyData.shownAll, List.map_cons, List.sum_cons, List.length_cons]
    have := h.ln
    have := t.ln
    omega
theorem ShA.mono {ds : List PyData} {a b m m' : Nat} (h : ShA ds a m) (h1 : a ≤ b) (h2 : m ≤ m') : ShA ds b m' := ⟨h.sw, h.nd, Nat.le_trans h.dp h2, Nat.le_trans h.ln h1⟩
theorem Sh.mono {d : PyData} {a b m m' : Nat} (h : Sh d a m) (h1 : a ≤ b) (h2 : m ≤ m') : Sh d b m' := ⟨h.sw, h.nd, Nat.le_trans h.dp h2, Nat.le_trans h.ln h1⟩
theorem sha_all {a m : Nat} : ∀ {ds : List PyData}, (∀ d ∈ ds, Sh d a m) → ShA ds (ds.length * (a + 2)) m
  | [], _ => sha_nil _ _
  | d :: ds, h => (sha_cons (h d List.mem_cons_self) (sha_all fun e z => h e (List.mem_cons_of_mem _ z))).mono (by rw [List.length_cons, Nat.succ_mul]; omega) (Nat.le_refl _)
theorem shown_len : ∀ ds : List PyData, (PyData.shownAll ds).length = ds.length
  | [] => rfl
  | _ :: r => by rw [PyData.shownAll, List.length_cons, List.length_cons, shown_len r]
theorem sh_tup {ds : List PyData} {n m : Nat} (h : ShA ds n m) : Sh (.tuple ds) (n + 3) (m + 1) := by
  refine ⟨h.sw, h.nd, Nat.succ_le_succ h.dp, ?_⟩
  have z := tupleText_len_le (PyData.shownAll ds)
  rw [shown_len] at z
  have := h.ln
  show (tupleText (PyData.shownAll ds)).length ≤ _
  omega
theorem sh_lst {ds : List PyData} {n m : Nat} (h : ShA ds n m) : Sh (.list ds) (n + 3) (m + 1) := by
  refine ⟨h.sw, h.nd, Nat.succ_le_succ h.dp, ?_⟩
  have z := listText_len_le (PyData.shownAll ds)
  rw [shown_len] at z
  have := h.ln
  show (listText (PyData.shownAll ds)).length ≤ _
  omega
/-! ### good statements -/
def nm (x : Str) : Prop := x.length ≤ 20 ∧ ∀ c ∈ x.cps.toList, c < 128
def Lf (d : PyData) : Prop := noL d = true ∧ Sh d 202 0
mutual
def goodS : Stm → Prop
  | .mk _ x r _ => nm x ∧ noLs r = true ∧ ShA r 1300 1
  | .no _ r _ => noLs r = true ∧ ShA r 1300 1
  | .fn x ps b => nm x ∧ ps.length ≤ 4 ∧ (∀ p ∈ ps, nm p) ∧ goodB b
  | .ite a b1 b2 => Lf a ∧ goodB b1 ∧ goodB b2
  | .whl a b => Lf a ∧ goodB b
  | .tms _ x a b => nm x ∧ Lf a ∧ goodB b
def goodB : Blk → Prop
  | .nil => True
  | .cons s r => goodS s ∧ goodB r
end
theorem noLs_all : ∀ {ds : List PyData}, (∀ d ∈ ds, noL d = true) → noLs ds = true
  | [], _ => rfl
  | d :: ds, h => by
    rw [noLs, h d List.mem_cons_self, noLs_all fun e z => h e (List.mem_cons_of_mem _ z)]
    rfl
theorem noLs_strs (ps : List Str) : noLs (ps.map PyData.str) = true := noLs_all fun d h => by
  obtain ⟨x, _, rfl⟩ := List.mem_map.mp h
  rfl
mutual
theorem noL_dS : ∀ s : Stm, goodS s → noL (dS s) = true
  | .mk w x r h, g => by
    rw [goodS] at g
    rw [dS, noL, noLs, noLs, g.2.1]
    rfl
  | .no w r h, g => by
    rw [goodS] at g
    rw [dS, noL, noLs, g.1]
    rfl
  | .fn x ps b, g => by
    rw [goodS] at g
    simp only [dS, noL, noLs, noLs_strs, noL_dB b g.2.2.2, Bool.and_true]
  | .ite a b1 b2, g => by
    rw [goodS] at g
    simp only [dS, noL, noLs, g.1.1, noL_dB b1 g.2.1, noL_dB b2 g.2.2, Bool.and_true]
  | .whl a b, g => by
    rw [goodS] at g
    simp only [dS, noL, noLs, g.1.1, noL_dB b g.2, Bool.and_true]
  | .tms one x a b, g => by
    rw [goodS] at g
    simp only [dS, noL, noLs, g.2.1.1, noL_dB b g.2.2, Bool.and_true]
theorem noL_dB : ∀ b : Blk, goodB b → noLs (dB b) = true
  | .nil, _ => rfl
  | .cons s r, g => by
    rw [goodB] at g
    rw [dB, noLs, noL_dS s g.1, noL_dB r g.2]
    rfl
end
theorem noL_blk {b : Blk} (g : goodB b) : noL (.tuple (dB b)) = true := by
  rw [noL]
  exact noL_dB b g
end Fb
set_option Elab.async false
set_option linter.all false
set_option maxRecDepth 100000
set_option maxHeartbeats 2000000
namespace Fb
open PySem PySem.Spec PyProof.Rows L2
section
variable {K : PySem.W.Frag} {H : Hp} {v : V}
theorem view_tup {ds : List PyData} (h : Dp K H v (.tuple ds)) : ∃ a vs, v = .ref a ∧ SqT K H a vs ∧ DpAll K H vs ds := by
  cases h with
  | tup a b => exact ⟨_, _, rfl, a, b⟩
theorem view_mk {w x : Str} {r : List PyData} {h0} (h : Dp K H v (dS (.mk w x r h0))) : ∃ a rs, v = .ref a ∧ SqT K H a (.str w :: .str x :: rs) ∧ DpAll K H rs r := by
  rw [dS] at h
  obtain ⟨a, vs, rfl, q, z⟩ := view_tup h
  cases z with
  | cons z1 z => cases z1; cases z with
    | cons z2 z => cases z2; exact ⟨a, _, rfl, q, z⟩
theorem view_no {w : Str} {r : List PyData} {h0} (h : Dp K H v (dS (.no w r h0))) : ∃ a rs, v = .ref a ∧ SqT K H a (.str w :: rs) ∧ DpAll K H rs r := by
  rw [dS] at h
  obtain ⟨a, vs, rfl, q, z⟩ := view_tup h
  cases z with
  | cons z1 z => cases z1; exact ⟨a, _, rfl, q, z⟩
theorem view_fn {x : Str} {ps : List Str} {b : Blk} (h : Dp K H v (dS (.fn x ps b))) : ∃ a pa ba, v = .ref a ∧ SqT K H a [.str "fn", .str x, .ref pa, .ref ba] ∧ SqT K H pa (ps.map V.str) ∧ Dp K H (.ref ba) (.tuple (dB b)) := by
  rw [dS] at h
  obtain ⟨a, vs, rfl, q, z⟩ := view_tup h
  cases z with
  | cons z1 z => cases z1; cases z with
    | cons z2 z => cases z2; cases z with
      | cons z3 z =>
        obtain ⟨pa, us, rfl, q3, y3⟩ := view_tup z3
        cases strs_of y3
        cases z with
        | cons z4 z =>
          obtain ⟨ba, ws, rfl, q4, y4⟩ := view_tup z4
          cases z
          exact ⟨a, pa, ba, rfl, q, q3, z4⟩
theorem view_ite {c : PyData} {b1 b2 : Blk} (h : Dp K H v (dS (.ite c b1 b2))) : ∃ a u p1 p2, v = .ref a ∧ SqT K H a [.str "if", u, .ref p1, .ref p2] ∧ Dp K H (.ref p1) (.tuple (dB b1)) ∧ Dp K H (.ref p2) (.tuple (dB b2)) := by
  rw [dS] at h
  obtain ⟨a, vs, rfl, q, z⟩ := view_tup h
  cases z with
  | cons z1 z => cases z1; cases z with
    | cons z2 z => cases z with
      | cons z3 z =>
        obtain ⟨p1, us, rfl, q3, y3⟩ := view_tup z3
        cases z with
        | cons z4 z =>
          obtain ⟨p2, ws, rfl, q4, y4⟩ := view_tup z4
          cases z
          exact ⟨a, _, p1, p2, rfl, q, z3, z4⟩
theorem view_whl {c : PyData} {b : Blk} (h : Dp K H v (dS (.whl c b))) : ∃ a u p, v = .ref a ∧ SqT K H a [.str "while", u, .ref p] ∧ Dp K H (.ref p) (.tuple (dB b)) := by
  rw [dS] at h
  obtain ⟨a, vs, rfl, q, z⟩ := view_tup h
  cases z with
  | cons z1 z => cases z1; cases z with
    | cons z2 z => cases z with
      | cons z3 z =>
        obtain ⟨p, us, rfl, q3, y3⟩ := view_tup z3
        cases z
        exact ⟨a, _, p, rfl, q, z3⟩
theorem view_tms {one : Bool} {x : Str} {c : PyData} {b : Blk} (h : Dp K H v (dS (.tms one x c b))) : ∃ a u p, v = .ref a ∧ SqT K H a [.str "times", .str (modeS one), .str x, u, .ref p] ∧ Dp K H (.ref p) (.tuple (dB b)) := by
  rw [dS] at h
  obtain ⟨a, vs, rfl, q, z⟩ := view_tup h
  cases z with
  | cons z1 z => cases z1; cases z with
    | cons z2 z => cases z2; cases z with
      | cons z3 z => cases z3; cases z with
        | cons z4 z => cases z with
          | cons z5 z =>
            obtain ⟨p, us, rfl, q5, y5⟩ := view_tup z5
            cases z
            exact ⟨a, _, p, rfl, q, z5⟩
end
/-! rules that name the written part (for blocks of comprehensions) -/
theorem pe_fldK {X : Cx} (K0 : PySem.W.Frag) (hK : X.K = K0) {e : Expr} {ta : TE} {f : Str} {pos : Pos} (he : PE X e ta) (hb : attributeBase e f X.env (eval e X.env) = eval e X.env) : PE X (.Attribute e f pos) (tFld K0 ta f) := by
  subst hK
  exact pe_fld he hb
theorem pg_tupK {X : Cx} (K0 : PySem.W.Frag) (hK : X.K = K0) {es : List Expr} {k : Nat} {pos : Pos} {n : Nat} {t : TGs} (hc : X.calm = true) (h : PGs X es t) (hn : (assignEach es X.env).length = n := by rfl) (hst : (assignEach es X.env).findIdx? (·.1) = none := by rfl) : PG X (.Tuple es k pos) (gTup K0 n t) := by
  subst hK
  exact pg_tup hc h hn hst
theorem ixL {X : Cx} (K0 : PySem.W.Frag) (hK : X.K = K0) : IxR X (rIxL K0) := by
  subst hK
  exact ix_list
theorem ixT {X : Cx} (K0 : PySem.W.Frag) (hK : X.K = K0) : IxR X (rIxT K0) := by
  subst hK
  exact ix_tup
/-- the word of a statement -/
def wordS : Stm → Str
  | .mk w .. => w
  | .no w .. => w
  | .fn .. => "fn"
  | .ite .. => "if"
  | .whl .. => "while"
  | .tms .. => "times"
theorem view_any {K : PySem.W.Frag} {H : Hp} {v : V} {s : Stm} (h : Dp K H v (dS s)) : ∃ a xs, v = .ref a ∧ SqT K H a xs ∧ xs[0]? = some (.str (wordS s)) := by
  cases s with
  | mk w x r h0 =>
    obtain ⟨a, rs, e, q, _⟩ := view_mk h
    exact ⟨a, _, e, q, rfl⟩
  | no w r h0 =>
    obtain ⟨a, rs, e, q, _⟩ := view_no h
    exact ⟨a, _, e, q, rfl⟩
  | fn x ps b =>
    obtain ⟨a, _, _, e, q, _⟩ := view_fn h
    exact ⟨a, _, e, q, rfl⟩
  | ite c b1 b2 =>
    obtain ⟨a, _, _, _, e, q, _⟩ := view_ite h
    exact ⟨a, _, e, q, rfl⟩
  | whl c b =>
    obtain ⟨a, _, _, e, q, _⟩ := view_whl h
    exact ⟨a, _, e, q, rfl⟩
  | tms one x c b =>
    obtain ⟨a, _, _, e, q, _⟩ := view_tms h
    exact ⟨a, _, e, q, rfl⟩
/-! which word it is -/
abbrev mkW : List Str := ["let", "sum", "call"]
theorem mkW_in {w : Str} (h : w = "let" ∨ w = "sum" ∨ w = "call") : inV (.str w) (mkW.map V.str) = true := by
  rcases h with e | e | e <;> (subst e; decide +kernel)
theorem mkW_ne {w : Str} (h : w = "let" ∨ w = "sum" ∨ w = "call") : ¬ w = "fn" ∧ ¬ w = "if" ∧ ¬ w = "while" ∧ ¬ w = "times" := by
  rcases h with e | e | e <;> (subst e; decide +kernel)
theorem noW_in {w : Str} (h : w = "set" ∨ w = "tell" ∨ w = "give") : inV (.str w) (mkW.map V.str) = false := by
  rcases h with e | e | e <;> (subst e; decide +kernel)
theorem noW_ne {w : Str} (h : w = "set" ∨ w = "tell" ∨ w = "give") : ¬ w = "fn" ∧ ¬ w = "if" ∧ ¬ w = "while" ∧ ¬ w = "times" := by
  rcases h with e | e | e <;> (subst e; decide +kernel)
/-! what a statement makes; its blocks -/
def madeD : Stm → Nat → Nat → Nat → List PyData
  | .mk _ x _ _, k, g, _ => [rowM x k g]
  | .fn x ps _, k, g, f => rowM x k g :: ps.map fun p => rowM p k f
  | .tms _ x _ _, k, _, f => [rowM x k f]
  | _, _, _, _ => []
def blks : Stm → List (Str × Blk)
  | .fn _ _ b => [("body", b)]
  | .ite _ b1 b2 => [("one", b1), ("other", b2)]
  | .whl _ b => [("while", b)]
  | .tms _ _ _ b => [("times", b)]
  | _ => []
def kbD (q : Str × Blk) : PyData := .tuple [.str q.1, .tuple (dB q.2)]
def isOne : Stm → Bool
  | .tms true .. => true
  | _ => false
def isFn : Stm → Bool
  | .fn .. => true
  | _ => false
def arnd (s : Stm) (g f : Nat) : Nat := if isOne s then f else g
def bodN (s : Stm) (b n : Nat) : Nat := if isFn s then n else b
theorem metI_eq (s : Stm) (g b : Nat) (t : TS) : metI s g b t = (blks s).map fun q => .blk q.1 (nD t.pl.length) (nD (arnd s g t.gr.length)) (bodN s b t.bd.length) q.2 := by
  cases s with
  | tms one x c b => cases one <;> rfl
  | _ => rfl
theorem metT_pl (s : Stm) (g b : Nat) (t : TS) : (metT s g b t).pl = t.pl ++ [(dS s, g, b)] := by
  cases s with
  | tms one x c b => cases one <;> rfl
  | _ => rfl
theorem metT_mm (s : Stm) (g b : Nat) (t : TS) : (metT s g b t).mm = t.mm ++ madeD s t.pl.length g t.gr.length := by
  cases s with
  | tms one x c b => cases one <;> rfl
  | mk w x r h => rfl
  | fn x ps b => rfl
  | no w r h => exact (List.append_nil _).symm
  | ite c b1 b2 => exact (List.append_nil _).symm
  | whl c b => exact (List.append_nil _).symm
def bdD : Stm → Nat → List PyData
  | .fn _ ps _, k => [rowB (nD k) ps]
  | _, _ => []
def grD : Stm → Nat → Nat → List PyData
  | .tms true .., k, g => [rowG "head" (nD k) (nD g)]
  | _, _, _ => []
theorem metT_bd (s : Stm) (g b : Nat) (t : TS) : (metT s g b t).bd = t.bd ++ bdD s t.pl.length := by
  cases s with
  | fn x ps b => rfl
  | tms one x c b => cases one <;> exact (List.append_nil _).symm
  | _ => exact (List.append_nil _).symm
theorem metT_gr (s : Stm) (g b : Nat) (t : TS) : (metT s g b t).gr = t.gr ++ grD s t.pl.length g := by
  cases s with
  | tms one x c b =>
    cases one
    · exact (List.append_nil _).symm
    · rfl
  | _ => exact (List.append_nil _).symm
theorem madeD_len (s : Stm) (k g f : Nat) : (madeD s k g f).length ≤ wS s := by
  cases s with
  | tms one x c b => simp [madeD, wS]; omega
  | mk w x r h => simp [madeD, wS]
  | fn x ps b => simp [madeD, wS]; omega
  | no w r h => simp [madeD]
  | ite c b1 b2 => simp [madeD]
  | whl c b => simp [madeD]
theorem goodB_blks {s : Stm} (g : goodS s) : ∀ q ∈ blks s, goodB q.2 := by
  cases s with
  | mk w x r h => intro q z; cases z
  | no w r h => intro q z; cases z
  | fn x ps b =>
    rw [goodS] at g
    intro q z
    rw [List.mem_singleton.mp z]
    exact g.2.2.2
  | ite c b1 b2 =>
    rw [goodS] at g
    intro q z
    simp only [blks, List.mem_cons, List.not_mem_nil, or_false] at z
    rcases z with e | e
    · rw [e]; exact g.2.1
    · rw [e]; exact g.2.2
  | whl c b =>
    rw [goodS] at g
    intro q z
    rw [List.mem_singleton.mp z]
    exact g.2
  | tms one x c b =>
    rw [goodS] at g
    intro q z
    rw [List.mem_singleton.mp z]
    exact g.2.2
end Fb
set_option Elab.async false
set_option linter.all false
set_option maxRecDepth 100000
set_option maxHeartbeats 2000000
namespace Fb
open PySem PySem.Spec PyProof.Rows L2 L2H HotX
/-! ### an exception that is handled: asked and read in the suite, and in defs that the suite calls -/
/-- p is the exception that X handles; its class, its dict -/
structure Held (X : Cx) (p : Addr × Obj) (cls : Value) (d : Option Addr) : Prop where
  mem : p ∈ X.pn
  hd : X.A.handled = some (.ref p.1)
  zn : L2N.Zn cls d p.2
  fl : ∃ vs, p.2.data = .fields vs
theorem Held.hot {X : Cx} {p : Addr × Obj} {cls : Value} {d : Option Addr} (h : Held X p cls d) : Hot1 X.A p := by
  obtain ⟨vs, e⟩ := h.fl
  exact ⟨h.hd, vs, e, h.zn.2.2 vs e⟩
theorem Held.hotC {X : Cx} {p : Addr × Obj} {cls : Value} {d : Option Addr} (h : Held X p cls d) : HotC X := ⟨p, h.hot, h.mem⟩
theorem held_suite {X : Cx} {a : Addr} {oe : Obj} {cls : Value} {d : Option Addr} {pn : List (Addr × Obj)} (z : L2N.Zn cls d oe) (f : ∃ vs, oe.data = .fields vs) : Held (X.suite a ((a, oe) :: pn)) (a, oe) cls d := ⟨List.mem_cons_self, rfl, z, f⟩
/-- its dict, if it has one, stands in H -/
def DictAt (d : Option Addr) (H : Hp) : Prop := d = none ∨ ∃ (dd : Addr) (fs : List (Str × V)), d = some dd ∧ H dd = some (.xd fs)
theorem Held.inst {X : Cx} {p : Addr × Obj} {C : Addr} {d : Option Addr} {pins : List (Addr × Obj)} {σ : L2.St} {H : Hp} {s : Shared} (h : Held X p (.ref C) d) (I : Inv X pins σ H s) (hd : DictAt d H) : ∃ od, PySem.W.InstAt s.heap p.1 p.2 C od := by
  have g := (I.pin p (List.mem_append_left _ h.mem)).1
  obtain ⟨vs, e⟩ := h.fl
  have nc : PySem.W.notCls p.2 = true := by unfold PySem.W.notCls; rw [e] <;> rfl
  rcases hd with rfl | ⟨dd, fs, rfl, ed⟩
  · exact ⟨none, g, h.zn.1, nc, by rw [h.zn.2.1]; trivial⟩
  · have x : ObjOk X.prog X.w H s.heap dd (.xd fs) := I.hok dd _ ed
    obtain ⟨mA, hns, _⟩ := x
    obtain ⟨od, ho, _⟩ := lookIn_ns hns
    exact ⟨some od, g, h.zn.1, nc, by rw [h.zn.2.1]; exact ho⟩
/-- isinstance(e, c) -/
def rIsX (K : PySem.W.Frag) (a : Addr) (cls : Value) (d : Option Addr) : List V → Hp → VK → Prop := fun xs H Q => ∃ (D : Addr) (c : V) (u : Value) (b : Bool), xs = [.ref a, c] ∧ cls = .ref D ∧ ExcC K D ∧ ClsV c u ∧ PySem.W.kitOne K (.ref D) u = some b ∧ DictAt d H ∧ Q (.bl b) H
theorem call_isX {X : Cx} {a : Addr} {oe : Obj} {cls : Value} {d : Option Addr} (K : PySem.W.Frag) (hK : X.K = K) (h : Held X (a, oe) cls d) : CallR X (.builtin "isinstance") (rIsX K a cls d) := by
  subst hK
  intro pins s σ H xs us Q I r hh
  obtain ⟨D, c, u, b, rfl, rfl, C, cv, e, hd, q⟩ := hh
  obtain ⟨u1, u2, rfl, r1, r2⟩ := vals2 r
  obtain rfl : u1 = Value.ref a := r1
  obtain rfl := cv.eq r2
  obtain ⟨od, J⟩ := h.inst I hd
  obtain ⟨cd, hc, _⟩ := PySem.W.any_some C.hd
  exact PySem.W.kia_one (PySem.W.kitx_exc (by rw [hc]; rfl) C.hg C.hk C.hs C.ha C.hn C.ht C.hm) I.kIn J e (fun z => nomatch z) fun tk => ⟨.bl b, H, I.kept (t' := tk) fun _ _ z => z, rfl, q⟩
/-- e.f -/
def tXfX (K : PySem.W.Frag) (a : Addr) (cls : Value) (d : Option Addr) (f : Str) (te : TE) : TE := fun σ H Q => te σ H fun x H1 => x = .ref a ∧ ∃ (C dd : Addr) (fs : List (Str × V)) (v : V), cls = .ref C ∧ XfC K C ∧ PySem.W.findIn K (.ref C) f = some none ∧ d = some dd ∧ H1 dd = some (.xd fs) ∧ fs.lookup f = some v ∧ Q v H1
theorem pe_xfX {X : Cx} {a : Addr} {oe : Obj} {cls : Value} {d : Option Addr} {e : Expr} {te : TE} {pos : Pos} {n : Str} (K : PySem.W.Frag) (hK : X.K = K) (h : Held X (a, oe) cls d) (he : PE X e te) (hb : attributeBase e n X.env (eval e X.env) = eval e X.env := by rfl) : PE X (.Attribute e n pos) (tXfX K a cls d n te) := by
  subst hK
  refine ⟨fun pins s σ H Q I hw => ?_⟩
  refine attr_of hb (thn (he.run pins s σ H _ I hw) fun u s1 hh => ?_)
  obtain ⟨x, H1, I1, rx, rfl, C, dd, fs, v, rfl, T, hno, rfl, ed, l, q⟩ := hh
  obtain rfl : u = Value.ref a := rx
  obtain ⟨vs, ev⟩ := h.fl
  have x : ObjOk X.prog X.w H1 s1.heap dd (.xd fs) := I1.hok dd _ ed
  obtain ⟨mA, hns, hr⟩ := x
  obtain ⟨od, ho, hl⟩ := lookIn_ns hns
  obtain ⟨u, hu, ru⟩ := RelO.some_of (v := v) (o := mA n) (by rw [← l]; exact hr n)
  have J : PySem.W.InstAt s1.heap a oe C (some od) := ⟨(I1.pin (a, oe) (List.mem_append_left _ h.mem)).1, h.zn.1, by unfold PySem.W.notCls; rw [show oe.data = _ from ev] <;> rfl, by rw [show oe.dict = _ from h.zn.2.1]; exact ho⟩
  exact HandSPX.exc_get I1.kIn J T.ga T.gg T.exC (PySem.W.findObj_own T.hdC hno rfl (by rw [hl, hu])) (handed_of ru) ⟨v, H1, I1.tok _, ru, q⟩

/-! ### a def that is called in the suite, and knows of the exception -/
structure FnE (P : Program) (w : World) (K : PySem.W.Frag) (mg : Str → Option Value) (base : Heap) (k : Nat) (f : Addr) (fd : FuncData) (ps : List Str) (sp : Addr → Value → Option Addr → Sp) : Prop where
  len : ∀ a c d vs H Q E, sp a c d vs H Q E → vs.length = ps.length
  run : ∀ (A : Around) (outer : List Env) (s : Shared) (H : Hp) (args : Args) (us : List Value) (vs : List V) (Q : VK) (E : XK) (p : Addr × Obj) (c : Value) (d : Option Addr), A.handled = some (.ref p.1) → L2N.Zn c d p.2 → (∃ fv, p.2.data = .fields fv) → RoomH k A → PinOk outer H s p →
    Env0 P w K mg base A outer s H → BindsTo s fd args (ps.zip us) → Vals vs us → sp p.1 c d vs H Q E → codeAny (model P w) A (.call (.ref f) args) (CR CX0 outer P w H s Q E) s
section
variable {P : Program} {w : World} {K : PySem.W.Frag} {mg : Str → Option Value} {base : Heap}
theorem ok_E {x qual : Str} {st : Stmt} {f : Addr} {fd : FuncData} {N ps : List Str} {k : Nat} {sp : Addr → Value → Option Addr → Sp} (F : L2.Fun K x qual st f fd) (S : FnScope N ps (defScope st)) (len : ∀ a c d vs H Q E, sp a c d vs H Q E → vs.length = ps.length)
    (walk : ∀ (cdv : Value) (A : Around) (outer : List Env) (s : Shared) (H : Hp) (vs : List V) (Q : VK) (E : XK) (p : Addr × Obj) (c : Value) (d : Option Addr), RoomH k (A.deeper (envOfC qual (defScope st) s.heap.objs.size f cdv)) →
      Held (cxH CX0 P w K mg base N qual (defScope st) f cdv A outer s H E p).nox p c d → sp p.1 c d vs H Q E →
      ∃ t, PSs (cxH CX0 P w K mg base N qual (defScope st) f cdv A outer s H E p).nox (defBody st) t ∧ t { nx := fun _ H' => Q .non H', rt := Q } (start N vs) H) : FnE P w K mg base (k + 1) f fd ps sp := by
  obtain ⟨oc, od, kV, dc, pm, an, cdv, ct, osl, rfl, lk, hcd⟩ := F.ex
  refine ⟨len, fun A outer s H args us vs Q E p c d hh zn fl hr pin e0 hb r hs0 => ?_⟩
  have hl := len _ _ _ _ _ _ _ hs0
  have kIn : K.In s.heap := e0.mod.kin.keeps fun b o e => (e0.bs b o e).1
  have nolim : s.heap.NoLimit := e0.mod.nolimit.keeps fun b o e => (e0.bs b o e).1
  have kinds : ∀ y ∈ ps.zip us, (defScope st).names.lookup y.1 = some .local ∨ ((defScope st).names.lookup y.1 = some .cell ∧ ((cellsFrom (s.heap.objs.size + 1) (defScope st).names []).lookup y.1).isSome = true) := fun ⟨n, v⟩ hy => by
    rcases S.par n (List.of_mem_zip hy).1 with z | z
    · exact .inl z
    · exact .inr ⟨z, PySem.W.cellsFrom_some _ _ _ (.inl z)⟩
  refine codeAny_call_function hr.depth (kIn _ _ lk) rfl S.co S.gen rfl (PySem.W.codeRec_of kIn hcd) (hb _ _ _ _ ?_)
  refine wpAny_newFunctionEnv_cells S.kind kinds fun env he s1 y => ?_
  subst he
  refine ⟨nolim.keeps y.toInCall.keep, codeAny_func ?_⟩
  obtain ⟨t, ht, hq⟩ := walk cdv A outer s H vs Q E p c d (hr.deeper _) ⟨List.mem_cons_self, hh, zn, fl⟩ hs0
  have I0 : Inv (cxH CX0 P w K mg base N qual (defScope st) f cdv A outer s H E p) [] (start N vs) H s1 := inv_startH S pin e0 hl r y
  refine wpAny_mono (ht.nox.run [] s1 (start N vs) H _ I0 hq) (fun fl s' z => ?_) fun e s' z => z
  have out : ∀ {σ' : L2.St} {H' : Hp} {v : V} {u : Value}, Inv (cxH CX0 P w K mg base N qual (defScope st) f cdv A outer s H E p) [] σ' H' s' → RelV v u → Q v H' → CE outer P w H s Q u s' := fun {σ' H' v u} J rv q => ⟨v, H', J.os, J.bare, J.base, J.hok, rv, q⟩
  cases fl with
  | ret u =>
    obtain ⟨v, σ', H', J, rv, q⟩ := z
    exact out J rv q
  | next =>
    obtain ⟨σ', H', J, q⟩ := z
    exact out (v := V.non) (u := Value.none) J rfl q
  | brk =>
    obtain ⟨_, _, _, q⟩ := z
    exact q.elim
  | cont =>
    obtain ⟨_, _, _, q⟩ := z
    exact q.elim
end
/-- such a def under its name -/
structure CalE (P : Program) (w : World) (K : PySem.W.Frag) (mg : Str → Option Value) (base : Heap) (k : Nat) (x : Str) (sp : Addr → Value → Option Addr → Sp) : Prop where
  ex : ∃ (f : Addr) (fd : FuncData) (ps : List Str), FnE P w K mg base k f fd ps sp ∧ mg x = some (.ref f) ∧ PySem.W.keepIn K (.ref f) = true ∧ Binds K fd ps []
section
variable {X : Cx} {k j : Nat} {x : Str} {sp : Addr → Value → Option Addr → Sp} {p pos : Pos} {e : Expr} {es : List Expr} {t : TA} {a : Addr} {oe : Obj} {cls : Value} {d : Option Addr}
theorem pe_cE (c : CalE X.prog X.w X.K X.mg X.base k x sp) (h : Held X (a, oe) cls d) (hr : RoomH j X.A) (hk : k ≤ j) (hg : Gl X x) (ha : PA X (e :: es) t) (hdb : (x == ("__debug__" : Str)) = false := by decide)
    (he : starEach (e :: es) X.env = (false, eval e X.env) :: starEach es X.env := by rfl) (hpl : (backTo pos (starEach es X.env)).any (·.1) = false := by rfl) : PE X (.Call (.Name x p) (e :: es) [] pos) (tCall (sp a cls d) [] E0 t) := by
  obtain ⟨f, fd, ps, F, hm, kp, b⟩ := c.ex
  refine ⟨fun pins s σ H Q I hw => ?_⟩
  refine wpAny_Call_Name_kw (ld_glob I hg hm ?_ hdb)
  refine PySem.W.callWith_K (h₀ := X.base) I.ok.mod.kin kp (thn (ha.run pos pins s σ H _ I hw) fun us s1 ⟨vs, H1, I1, r, q⟩ => ⟨I1.kIn, ?_⟩) he hpl
  have q2 : sp a cls d vs H1 Q E0 := by have z : sp a cls d (vs ++ []) H1 Q E0 := q; rw [List.append_nil] at z; exact z
  have hl : us.length = ps.length := by rw [← r.length]; exact F.len _ _ _ _ _ _ _ q2
  have P1 := I1.pin (a, oe) (List.mem_append_left _ h.mem)
  have pin : PinOk X.stack H1 s1 (a, oe) := ⟨P1.1, P1.2.1, fun z => (List.mem_cons.mp (I1.stkSub a z)).elim P1.2.2.1 P1.2.2.2.1, P1.2.2.2.2⟩
  refine wpAny_call (codeAny_mono (F.run X.A X.stack s1 H1 ⟨us, []⟩ us vs Q E0 (a, oe) cls d h.hd h.zn h.fl (hr.mono hk) pin I1.env0 (by have z := b s1 us I1.kIn (by rw [List.append_nil]; exact hl); rw [List.append_nil] at z; exact z) r q2) fun r' s' hq => ?_)
  cases r' with
  | error e => exact hq.elim
  | ok fl =>
    cases fl with
    | ret u => exact I1.after hq
    | next => exact hq.elim
    | brk => exact hq.elim
    | cont => exact hq.elim
end
end Fb
namespace Fb
open PySem L2
theorem kit_own {K : PySem.W.Frag} {C : Addr} : PySem.W.kitOne K (.ref C) (.ref C) = some true := by
  unfold PySem.W.kitOne
  exact if_pos (beq_self_eq_true _)
theorem kit_not {K : PySem.W.Frag} {a b : Addr} {r : Bool} (ne : (Value.ref a == Value.ref b) = false) (h1 : PySem.W.isClsIn K b = true) (h2 : PySem.W.typeIn K (.ref b) = some (.type "type")) (h3 : PySem.W.subIn K (.ref a) (.ref b) = some r) : PySem.W.kitOne K (.ref a) (.ref b) = some r := by
  have h1' : (PySem.W.clsIn K b).isSome = true := h1
  unfold PySem.W.kitOne PySem.W.kitCls
  rw [ne, if_neg Bool.false_ne_true]
  dsimp only
  rw [h1', h2, if_pos (by rfl)]
  exact h3
theorem kit_ty {K : PySem.W.Frag} {a : Addr} {T : String} {r : Bool} (hm : PySem.W.kitMeta T = true) (h : PySem.W.subIn K (.ref a) (.type T) = some r) : PySem.W.kitOne K (.ref a) (.type T) = some r := by
  unfold PySem.W.kitOne PySem.W.kitCls
  rw [if_neg (show ¬ (Value.ref a == Value.type T) = true from fun z => by cases beq_iff_eq.mp z)]
  dsimp only
  rw [if_pos hm]
  exact h
theorem eqDK {X : Cx} (K : PySem.W.Frag) (hK : X.K = K) (hu : X.A.units + 64 < cLine) : OpR X (compareOp .Eq) (rEqD K) := hK ▸ op_eqD hu
theorem neDK {X : Cx} (K : PySem.W.Frag) (hK : X.K = K) (hu : X.A.units + 64 < cLine) : OpR X (compareOp .NotEq) (rNeD K) := hK ▸ op_neD hu
theorem roomS {k : Nat} {A : Around} (r : Room k A) {v : Option Value} : L2H.RoomH k (A.mark v) := ⟨r.dp, r.un⟩
end Fb
namespace Fb
open PySem L2
/-- what is looked at of a class object, so that it is an exception class over ValueError with an __init__ of its own -/
def oexOk (C : Addr) (cd : ClassData) (sl : Array (Option Value)) : Bool :=
  match cd.mro, sl.toList with
  | .ref c :: bm, [_, _, _, _, some (.builtin n), _] => decide (c = C) && (decide (n = "ValueError.__new__") && (!cd.hasDel && (cd.hasDict && PySem.HandSPX.refsVE bm)))
  | _, _ => false
theorem oex_of {K : PySem.W.Frag} {C : Addr} {dd : Option Addr} {cd : ClassData} {sl : Array (Option Value)} (hl : K.lookup C = some ⟨.type "type", dd, .cls cd, sl⟩) (h : oexOk C cd sl = true)
    (sa : PySem.W.findIn K (.ref C) "__setattr__" = some (some (.builtin "object.__setattr__"))) (ex : PySem.W.subIn K (.ref C) (.type "BaseException") = some true) (ty : PySem.W.typeIn K (.ref C) = some (.type "type")) (kp : PySem.W.keepIn K (.ref C) = true) : OexC K C := by
  refine ⟨?_, sa, ex, ty, kp⟩
  obtain ⟨nm, bs, mro, ns, qn, hd, sn, sub, ab, col, del⟩ := cd
  obtain ⟨l⟩ := sl
  unfold oexOk at h
  dsimp only at h
  split at h
  · rename_i c bm s0 s1 s2 s3 n s5
    obtain ⟨h1, h⟩ := Bool.and_eq_true_iff.mp h
    obtain ⟨h2, h⟩ := Bool.and_eq_true_iff.mp h
    obtain ⟨h3, h⟩ := Bool.and_eq_true_iff.mp h
    obtain ⟨h4, h5⟩ := Bool.and_eq_true_iff.mp h
    have h1 := of_decide_eq_true h1
    have h2 := of_decide_eq_true h2
    have h3 : del = false := by simpa using h3
    subst h1 h2 h3 h4
    exact ⟨_, _, _, _, _, _, _, _, _, _, _, _, _, _, _, hl, h5⟩
  · cases h
end Fb
set_option Elab.async false
set_option linter.all false
set_option maxRecDepth 100000
set_option maxHeartbeats 2000000
namespace Fb
open PySem PySem.Spec PyProof.Rows L2 L2H HotX
/-! ### exceptions made where nothing is handled: their context is None -/
section
variable {X : Cx} {x : Str} {e : Expr} {es : List Expr} {ta : TA} {p pos : Pos} {C fI : Addr}
/-- C(e, ..), its own __init__ keeping sp -/
theorem pmk_oexN {k j : Nat} {fd : FuncData} {ps : List Str} {sp : Sp} (T : OexC X.K C) (iC : PySem.W.findIn X.K (.ref C) "__init__" = some (some (.ref fI))) (tI : PySem.W.typeIn X.K (.ref fI) = some (.type "function"))
    (F1 : FnOk X.prog X.w X.K X.mg X.base CX0 k fI fd ps sp) (hr : Room j X.A) (hk : k + 1 ≤ j) (hb : Binds X.K fd ps []) (hg : Gl X x) (hm : X.mg x = some (.ref C)) (ha : PA X (e :: es) ta) (hdb : (x == ("__debug__" : Str)) = false := by decide)
    (he : starEach (e :: es) X.env = (false, eval e X.env) :: starEach es X.env := by rfl) (hpl : (backTo pos (starEach es X.env)).any (·.1) = false := by rfl) : L2N.PMk X (.Call (.Name x p) (e :: es) [] pos) (tMkO C sp [] ta) := by
  intro pins s σ H Q I hw
  obtain ⟨nm, qn, N, bs, bm, sn, sub, ab, col, dd, k0, k1, k2, k3, k5, lkC, vb⟩ := T.cls
  refine wpAny_Call_Name_kw (ld_glob I hg hm ?_ hdb)
  refine PySem.W.callWith_K (h₀ := X.base) I.ok.mod.kin T.kC (thn (ha.run pos pins s σ H _ I hw) fun us s1 z => ?_) he hpl
  obtain ⟨vs, H1, I1, r1, few, q1⟩ := z
  refine ⟨I1.kIn, (show wpAny _ _ (call (.ref C) us) _ _ _ from ?_)⟩
  obtain ⟨hp, gn, dr, tk, os⟩ := s1
  have above : hp.objs.size ≤ hp.objs.size + 1 := Nat.le_succ _
  have q2 := q1 (hp.objs.size + 1) (I1.hok.fresh above)
  rw [List.append_nil] at q2
  have stays : ∀ b o, hp.get? b = some o → ((hp.push (PySem.W.kdv_tup us)).push (PySem.HandSPX.excO C hp.objs.size)).get? b = some o := fun b o z => Heap.get?_push_of_some _ (Heap.get?_push_of_some _ z)
  have there : ((hp.push (PySem.W.kdv_tup us)).push (PySem.HandSPX.excO C hp.objs.size)).get? (hp.objs.size + 1) = some (PySem.HandSPX.excO C hp.objs.size) := by heap_get
  have J : Inv X pins σ (upd H1 (hp.objs.size + 1) (exo (hp.objs.size + 1) C none)) ⟨(hp.push (PySem.W.kdv_tup us)).push (PySem.HandSPX.excO C hp.objs.size), gn, dr, tk, os⟩ := I1.laid (t' := tk) stays above (exo_ok there)
  have r2 : Vals (V.ref (hp.objs.size + 1) :: vs) (Value.ref (hp.objs.size + 1) :: us) := .cons rfl r1
  have hl : (Value.ref (hp.objs.size + 1) :: us).length = ps.length := by rw [← r2.length, F1.len _ _ _ _ q2]
  have hus : us.length ≤ sizeLine := by rw [← Paired.length r1, sizeLine_eq]; omega
  have bd := hb _ (Value.ref (hp.objs.size + 1) :: us) J.kIn (by rw [List.append_nil]; exact hl)
  rw [List.append_nil] at bd
  refine wpAny_call (PySem.HandSPX.call_own F.excBase_ValueError (fun Y => PySem.HandSPX.refsVE_contains Y bm vb) (I1.kIn _ _ lkC) (PySem.W.looks_findIn I1.kIn iC) (fun self => PySem.W.bind_fn I1.kIn self tI) hus
    (codeAny_mono (F1.run _ X.stack _ _ ⟨Value.ref (hp.objs.size + 1) :: us, []⟩ (Value.ref (hp.objs.size + 1) :: us) _ _ (fun _ _ _ => False) ((hr.mono hk).make C us []) (J.env0.make C us []) bd r2 q2) fun r s' z => ?_))
  cases r with
  | error er => exact z.elim
  | ok fl =>
    cases fl with
    | next => exact z.elim
    | brk => exact z.elim
    | cont => exact z.elim
    | ret u =>
      obtain ⟨v, H2, os2, bare2, un2, hok2, rv, ev, d, fs, ea, ed, hd1, q3⟩ := z
      subst ev
      obtain ⟨h2, g2, d2, t2, os'⟩ := s'
      obtain ⟨t0, G, JG, kG, ge, hoe, na⟩ := mk_end0 (d2 := d2) (t2 := t2) I1 above stays un2 hok2 os2 bare2 ea ed hd1
      exact ⟨rv, hp.objs.size + 1, _, _, ⟨G, g2, d2, t2, os'⟩, _, .ref C, some d, rfl, JG, kG, ge, hoe, ⟨rfl, rfl, fun vs hv => by cases hv; rfl⟩, rfl, rfl, na, rfl, bare2, raises_own T.exC T.tyC, q3⟩
/-- C(), no __init__ of its own -/
theorem pmk_own0 {bmB : List Value} {B newId initId : String} (F : ExcBaseFacts B newId initId bmB) (q : PySem.W.excIn X.K C bmB newId = true) (gC : X.mg x = some (.ref C)) (kC : PySem.W.keepIn X.K (.ref C) = true) (r : Raises X (.ref C)) (hg : Gl X x)
    (hdb : (x == ("__debug__" : Str)) = false := by decide) : L2N.PMk X (.Call (.Name x p) [] [] pos) (fun _ H Q => Q (.ref C) none H) := by
  intro pins s σ H Q I hw
  refine wpAny_Call_Name_kw (ld_glob I hg gC ?_ hdb)
  refine PySem.W.callWith_K0 I.kIn kC (show wpAny _ _ (call (.ref C) []) _ _ _ from ?_)
  obtain ⟨bm, N, nm, qn, bs, hdct, sn, sub, ab, col, dd, k0, k1, k2, k3, k5, mN, hC, hN, hni, T⟩ := exc_obj I.kIn q
  exact wpAny_call_exc_subT F T hC hN hni (fun h' e hm => L2N.mk_of I hm r hw (I.hok.gone hm.new)) (Nat.zero_le _)
end

/-! ### try: body, a first clause that takes none of the body's exceptions, a second one that takes all: except x as n -/
def wSkip (K : PySem.W.Frag) (c1 c : Value) (i : Nat) (ts : Addr → Value → Option Addr → L2.TS) (D : Ends) : WX := fun cls d σ H => PySem.W.exmOne K cls c1 = some false ∧ PySem.W.exmOne K cls c = some true ∧
  ∀ a, H a = none → ts a cls d { nx := fun σ' H' => D.nx (σ'.set i none) H', rt := D.rt, bk := fun σ' H' => D.bk (σ'.set i none) H', ct := fun σ' H' => D.ct (σ'.set i none) H' } (σ.set i (some (.ref a))) H
section
variable {X : Cx} {x1 x n : Str} {c1 c : Value} {i : Nat} {body st1 suite : List Stmt} {b₀ : Stmt} {np1 np pos pos1 pos' : Pos} {tb : WX → L2.TS} {ts : Addr → Value → Option Addr → L2.TS}
theorem ps_try_skip (hs : X.stack = X.env :: X.outer) (hf : X.env.frame = some X.env.locals) (hN : X.N.Nodup) (hi : X.N[i]? = some n) (hln : X.env.kindOf n = some .local) (hc1 : Names X x1 c1) (hc : Names X x c)
    (hb : ∀ (W : WX) (pn : List (Addr × Obj)) (xe : Value → Shared → Prop), L2N.Takes (X.tr pn xe) W → PSs (X.tr pn xe) body (tb W))
    (hsu : ∀ (a : Addr) (oe : Obj) (cls : Value) (d : Option Addr) (pn : List (Addr × Obj)), Held (X.suite a ((a, oe) :: pn)) (a, oe) cls d → PSs (X.suite a ((a, oe) :: pn)) (b₀ :: suite) (ts a cls d)) :
    PS X (.Try body [.ExceptHandler (some (.Name x1 np1)) none st1 pos1, .ExceptHandler (some (.Name x np)) (some n) (b₀ :: suite) pos'] [] [] pos) (fun D σ H => tb (wSkip X.K c1 c i ts D) D σ H) := by
  refine ⟨fun pins s σ H D I hw => ?_⟩
  have ok := I.ok
  have hfr : X.A.frames = some (X.env :: X.outer) := by rw [ok.frames, hs]
  refine wpAny_Try_except (wpAny_mono ((hb (wSkip X.K c1 c i ts D) (X.pn ++ pins) _ fun u s' xx => ?_).run [] s σ H D (I.toTry _) hw) (fun fl s1 z => ?_) fun e s1 z => z)
  · obtain ⟨a, B, sI, pins', σ', H', cls, d, rfl, J', nb, up, sky, na, os, ag, no1, yes, go⟩ := xx
    have J : Inv X pins σ' H' sI := J'.ofTry ok
    refine L2N.Sky.land L2N.Zn.steady hfr hf (show Sky B (X.env :: X.outer) a (L2N.Zn cls d) X.env.locals s'.heap by rw [← hs]; exact sky) fun h3 f3 up3 => ?_
    have J3 : Inv X pins σ' H' { s' with heap := h3 } := J.landed nb f3.1 (up.trans up3) os ag
    obtain ⟨o3, v3, e3, z3, d3⟩ := f3.there
    have nfr : a ∉ frs (X.env :: X.outer) := fun hm => by
      obtain ⟨_, o', e', hnf⟩ := f3.2.2.1.mem hm
      rw [e3] at e'; cases e'
      exact hnf _ d3
    have nL : a ≠ X.env.locals := fun z => nfr (List.mem_filterMap.mpr ⟨X.env, List.mem_cons_self, by rw [hf, z]⟩)
    have nF : a ∉ X.fs := fun hm => by
      obtain ⟨ev, he, q⟩ := List.mem_filterMap.mp hm
      exact nfr (List.mem_filterMap.mpr ⟨ev, List.mem_cons_of_mem _ he, q⟩)
    have S3 := J3.suite e3 d3 na nL nF
    have isC : PySem.W.Looks (model X.prog X.w) h3 (typeOf (.ref a)) cls := fun A Q E s k q => wpAny_typeOf_ref (k _ _ e3) (by rw [z3.1]; exact q)
    have named : ∀ {y : Str} {cv : Value} {q : Pos} {Q : Value → Shared → Prop} {E : Value → Shared → Prop}, Names X y cv → Q cv { s' with heap := h3 } → wpAny (model X.prog X.w) (X.A.mark (some (.ref a))) (eval (.Name y q) X.env) Q E { s' with heap := h3 } := fun {y cv q Q E} nm qq => by
      obtain ⟨g, db, m | ⟨m, v, nn⟩⟩ := nm
      · exact ld_glob (X := X.suite a ((a, o3) :: (X.pn ++ pins))) S3 g m qq db
      · exact ld_blt (X := X.suite a ((a, o3) :: (X.pn ++ pins))) S3 g m v qq nn db
    refine wpAny_handleBy_cons (codeAny_handlers_test (named hc1 ((PySem.W.exm_one (M := model X.prog X.w) J3.kIn isC no1).here ?_))) (by intro q; cases q)
    show wpAny _ X.A (handleBy (.ref a) X.env [_]) _ _ _
    refine wpAny_handleBy_cons (codeAny_handlers_test (named hc ((PySem.W.exm_one (M := model X.prog X.w) J3.kIn isC yes).here ?_))) (by intro q; cases q)
    refine codeAny_handlers_suite_as (HandSPX.lands_againZ f3 fun h4 f4 up4 => ?_)
    have J4 : Inv X pins σ' H' { s' with heap := h4 } := J.landed nb f4.1 ((up.trans up3).trans up4) os ag
    obtain ⟨o4, v4, e4, z4, d4⟩ := f4.there
    have S4 := J4.suite e4 d4 na nL nF
    refine store_ok (X := X.suite a ((a, o4) :: (X.pn ++ pins))) (v := .ref a) S4 hN hi (.inl hln) rfl (fun s5 S5 => ?_) (.inr hln)
    refine wpAny_mono ((hsu a o4 cls d (X.pn ++ pins) (held_suite z4 ⟨_, d4⟩)).run [] s5 _ H' _ S5 (go a na)) (fun fl s6 z => ?_) (fun _ _ z => z.elim)
    have back : ∀ {σ6 : L2.St} {H6 : Hp} {Q : Shared → Prop}, Inv (X.suite a ((a, o4) :: (X.pn ++ pins))) [] σ6 H6 s6 → (∀ s7, Inv X pins (σ6.set i none) H6 s7 → Q s7) →
        wpAny (model X.prog X.w) X.A (do bindName X.env n .none; unbindBehindTheSuite X.env n pos') (fun _ s7 => Q s7) X.xe s6 := fun {σ6 H6 Q} S6 hq => gone_ok (S6.unsuite ok) hN hi hln hq
    cases fl with
    | next => obtain ⟨σ6, H6, S6, q6⟩ := z; exact back S6 fun s7 J7 => ⟨_, _, J7, q6⟩
    | brk => obtain ⟨σ6, H6, S6, q6⟩ := z; exact back S6 fun s7 J7 => ⟨_, _, J7, q6⟩
    | cont => obtain ⟨σ6, H6, S6, q6⟩ := z; exact back S6 fun s7 J7 => ⟨_, _, J7, q6⟩
    | ret u => obtain ⟨v6, σ6, H6, S6, r6, q6⟩ := z; exact back S6 fun s7 J7 => ⟨_, _, _, J7, r6, q6⟩
  · cases fl with
    | next => obtain ⟨σ', H', J', q⟩ := z; exact wpAny_execs_nil ⟨σ', H', J'.ofTry ok, q⟩
    | brk => obtain ⟨σ', H', J', q⟩ := z; exact ⟨σ', H', J'.ofTry ok, q⟩
    | cont => obtain ⟨σ', H', J', q⟩ := z; exact ⟨σ', H', J'.ofTry ok, q⟩
    | ret u => obtain ⟨v, σ', H', J', r, q⟩ := z; exact ⟨v, σ', H', J'.ofTry ok, r, q⟩
/-- one clause that takes all: except x as n -/
theorem ps_try_all (hs : X.stack = X.env :: X.outer) (hf : X.env.frame = some X.env.locals) (hN : X.N.Nodup) (hi : X.N[i]? = some n) (hln : X.env.kindOf n = some .local) (hc : Names X x c)
    (hb : ∀ (W : WX) (pn : List (Addr × Obj)) (xe : Value → Shared → Prop), L2N.Takes (X.tr pn xe) W → PSs (X.tr pn xe) body (tb W))
    (hsu : ∀ (a : Addr) (oe : Obj) (cls : Value) (d : Option Addr) (pn : List (Addr × Obj)), Held (X.suite a ((a, oe) :: pn)) (a, oe) cls d → PSs (X.suite a ((a, oe) :: pn)) (b₀ :: suite) (ts a cls d)) :
    PS X (.Try body [.ExceptHandler (some (.Name x np)) (some n) (b₀ :: suite) pos'] [] [] pos) (fun D σ H => tb (wAs X.K c i ts (fun _ _ _ _ => False) D) D σ H) :=
  L2N.ps_try_as hs hf hN hi hln hc (fun _ _ ⟨_, _, _, _, _, _, _, _, _, _, _, _, _, _, _, _, w⟩ => w.elim) (fun W pn xe tk _ => hb W pn xe tk) fun a oe cls d pn z f => hsu a oe cls d pn (held_suite z f)
end
end Fb
namespace Fb
open PySem PySem.Spec PyProof.Rows L2 L2H HotX
/-- an own exception class under its name, its __init__ keeping sp -/
structure MkN (P : Program) (w : World) (K : PySem.W.Frag) (mg : Str → Option Value) (base : Heap) (k : Nat) (x : Str) (C : Addr) (sp : Sp) : Prop where
  ex : ∃ (f : Addr) (fd : FuncData) (ps : List Str), OexC K C ∧ PySem.W.findIn K (.ref C) "__init__" = some (some (.ref f)) ∧ PySem.W.typeIn K (.ref f) = some (.type "function") ∧ FnOk P w K mg base CX0 k f fd ps sp ∧ Binds K fd ps [] ∧ mg x = some (.ref C)
theorem pmk_N {X : Cx} {x : Str} {e : Expr} {es : List Expr} {ta : TA} {p pos : Pos} {C : Addr} {k j : Nat} {sp : Sp} (c : MkN X.prog X.w X.K X.mg X.base k x C sp) (hr : Room j X.A) (hk : k + 1 ≤ j) (hg : Gl X x) (ha : PA X (e :: es) ta)
    (hdb : (x == ("__debug__" : Str)) = false := by decide) (he : starEach (e :: es) X.env = (false, eval e X.env) :: starEach es X.env := by rfl) (hpl : (backTo pos (starEach es X.env)).any (·.1) = false := by rfl) :
    L2N.PMk X (.Call (.Name x p) (e :: es) [] pos) (tMkO C sp [] ta) := by
  obtain ⟨f, fd, ps, T, i, t, F, b, m⟩ := c.ex
  exact pmk_oexN T i t F hr hk b hg m ha hdb he hpl
/-- what such an __init__ leaves: the fields ns, in the order of the arguments -/
def spI (K : PySem.W.Frag) (ns : List Str) : Sp := fun vs H Q _ => ∃ (a C : Addr) (ys : List V), vs = .ref a :: ys ∧ ys.length = ns.length ∧ OexC K C ∧ (∀ f ∈ ns, PySem.W.findIn K (.ref C) f = some none) ∧ H a = some (exo a C none) ∧
  ∀ (dx : Addr) (H' : Hp), H dx = none → dx ≠ a → H' a = some (exo a C (some dx)) → H' dx = some (exd dx (ns.zip ys).reverse) → (∀ b, b ≠ a → b ≠ dx → H' b = H b) → Q .non H'
end Fb
set_option Elab.async false
set_option linter.all false
set_option maxRecDepth 100000
set_option maxHeartbeats 2000000
namespace Fb
open PySem PySem.Spec PyProof.Rows L2 L2H HotX
/-! ### [elt for tg in range(..)] while an exception is handled -/
/-- the block's context, the exception kept in sight -/
abbrev blkP (X : Cx) (s : Shared) (H : Hp) (scope : Scope) (ce : Env) (fp : List Addr) (p : Addr × Obj) : Cx := { X.blk s H scope ce fp with pn := [p] }
section
variable {X : Cx} {s0 s : Shared} {H0 H : Hp} {scope : Scope} {ce : Env} {fp : List Addr} {p : Addr × Obj} {pins : List (Addr × Obj)} {σ : L2.St}
/-- what is known of the exception at the block's start -/
structure Seen (X : Cx) (s0 : Shared) (H0 : Hp) (ce : Env) (fp : List Addr) (p : Addr × Obj) : Prop where
  get : s0.heap.get? p.1 = some p.2
  free : H0 p.1 = none
  nofs : p.1 ∉ frs X.stack
  nofp : p.1 ∉ fp
  nloc : p.1 ≠ ce.locals
  ncell : ∀ v, p.2.data ≠ .cell v
theorem blk_up (h : Seen X s0 H0 ce fp p) (I : Inv (X.blk s0 H0 scope ce fp) pins σ H s) : Inv (blkP X s0 H0 scope ce fp p) pins σ H s := by
  have o := I.ok
  refine ⟨⟨o.mod, o.kind, o.glob, o.blt, o.above, o.inj, o.has, o.cab, o.hd, o.frames, o.stk, o.exf, o.bs, o.bsz, o.noex, o.exfs, o.funs, o.frf⟩, I.os, I.bare, I.base, I.loc, I.cell, I.free, I.freeC, fun q hq => ?_, I.hok, I.len⟩
  rcases List.mem_append.mp hq with z | z
  · rw [List.mem_singleton.mp z]
    exact ⟨I.base.keep p.1 p.2 h.get h.free h.nofs h.nofp, I.base.free p.1 p.2 h.get h.free h.nofp, h.nloc, h.nofs, h.ncell⟩
  · exact I.pin q (List.mem_append_right _ z)
theorem blk_down (I : Inv (blkP X s0 H0 scope ce fp p) pins σ H s) : Inv (X.blk s0 H0 scope ce fp) pins σ H s := by
  have o := I.ok
  refine ⟨⟨o.mod, o.kind, o.glob, o.blt, o.above, o.inj, o.has, o.cab, o.hd, o.frames, o.stk, o.exf, o.bs, o.bsz, o.noex, o.exfs, o.funs, o.frf⟩, I.os, I.bare, I.base, I.loc, I.cell, I.free, I.freeC, fun q hq => ?_, I.hok, I.len⟩
  rcases List.mem_append.mp hq with z | z
  · exact absurd (show q ∈ ([] : List (Addr × Obj)) from z) (by simp)
  · exact I.pin q (List.mem_append_right _ z)
end
section
variable {X : Cx} {p : Addr × Obj} {cls : Value} {d : Option Addr} {elt tg iter : Expr} {scope : Scope} {own : List (Str × Nat)} {pos : Pos} {wi : TI} {g : TG} {te : TE}
theorem pe_lcH (h : Held X p cls d) (hN : X.N.Nodup) (hi : PIH X tg iter wi) (ok : BlkOk X.N X.env.scope scope own)
    (hg : ∀ (s : Shared) (H : Hp) (C : Addr) (cl : List (Str × Addr)) (fp : List Addr), PG (X.blk s H scope (compEnvC scope cl C X.env) fp) tg g)
    (he : ∀ (s : Shared) (H : Hp) (C : Addr) (cl : List (Str × Addr)) (fp : List Addr), PE (X.blk s H scope (compEnvC scope cl C X.env) fp) elt te) (hs : ∀ x, foldedSetIterable iter X.env x = pure x := by intro _; rfl) :
    PE X (.ListComp elt [⟨tg, iter, [], 0⟩] scope pos) (tLc wi g tYes te (own.map (·.2))) := by
  refine ⟨fun pins s σ H Q I hw => ?_⟩
  rw [eval_ListComp]
  refine wpAny_comprehension_free rfl hs (closure_ok fun y hy e => (ok.free y hy e).elim (fun k => I.ok.has _ (.inl k)) fun k => I.ok.has _ (.inr k)) ok.kind (fun y hy e => by rw [ok.uniq y hy, e])
    (thn (hi.run pins s σ H _ I hw) fun xv s1 z1 => thn z1 fun itv s2 z2 => ?_)
  obtain ⟨it, fp, tn, J, H2, rfl, I2, T, t2, f2, q⟩ := z2
  refine wpAny_newObj_type (newEnv_comp ?_) (show 0 ≤ sizeLine by decide)
  generalize eD : s2.heap.objs.size = D
  obtain ⟨W, ⟨m0, w0⟩, turn⟩ := q D (I2.hok.fresh (Nat.le_of_eq eD))
  generalize e3 : ({ s2 with heap := s2.heap.push { cls := .type "list", data := .seq ([] : List Value).toArray } } : Shared) = s3
  have h3 : s3.heap = s2.heap.push { cls := .type "list", data := .seq ([] : List Value).toArray } := by rw [← e3]
  have I3 : Inv X pins σ (upd H2 D (.lst [])) s3 := by
    rw [← e3]
    exact I2.laid (t' := s2.toks) (fun b o z => Heap.get?_push_of_some _ z) (Nat.le_of_eq eD) ⟨Nat.zero_le _, [], 0, .nil, by rw [← eD]; exact Heap.get?_push_size _ rfl⟩
  have f3 : ∀ b ∈ fp, FpOk X pins (upd H2 D (.lst [])) b ∧ b < s3.heap.objs.size := fun b hb => by
    obtain ⟨o, z, _⟩ := T.obj _ _ t2 b hb
    have lt := Heap.lt_size z
    exact ⟨⟨by rw [upd_ne (by rw [← eD]; exact Nat.ne_of_lt lt)]; exact (f2 b hb).1, (f2 b hb).2⟩, by rw [h3, Heap.size_push]; exact Nat.lt_succ_of_lt lt⟩
  have t3 : tn 0 s3.heap := T.keep _ _ _ t2 fun b _ o z => by rw [h3]; exact Heap.get?_push_of_some _ z
  have I4 := block_start I3 ok hN f3
  have pg := hg s3 (upd H2 D (.lst [])) s3.heap.objs.size (cellsFrom (s3.heap.objs.size + 1) scope.names (cloFrom X.env.cells scope.names [])) fp
  have pe := he s3 (upd H2 D (.lst [])) s3.heap.objs.size (cellsFrom (s3.heap.objs.size + 1) scope.names (cloFrom X.env.cells scope.names [])) fp
  show codeAny _ _ (.compStart (.ListComp elt [⟨tg, iter, [], 0⟩] scope pos) 0 (.ref it) (.ref D) (compEnvC scope (cellsFrom (s3.heap.objs.size + 1) scope.names (cloFrom X.env.cells scope.names [])) s3.heap.objs.size X.env)) (compPost (model X.prog X.w) X.A X.xe none _ (.ref D) s3.heap.objs.size) { s3 with heap := pushCells (s3.heap.push { cls := .type "dict", data := .dict #[] }) scope.names }
  generalize ec : compEnvC scope (cellsFrom (s3.heap.objs.size + 1) scope.names (cloFrom X.env.cells scope.names [])) s3.heap.objs.size X.env = ce at I4 pg pe ⊢
  have cL : ce.locals = s3.heap.objs.size := by subst ec; rfl
  have P3 := I3.pin p (List.mem_append_left _ h.mem)
  have nfs : p.1 ∉ frs X.stack := fun z => (List.mem_cons.mp (I3.stkSub p.1 z)).elim P3.2.2.1 P3.2.2.2.1
  have see : Seen X s3 (upd H2 D (.lst [])) ce fp p := ⟨P3.1, P3.2.1, nfs, fun z => (f3 p.1 z).1.2.2.2.2.2 p (List.mem_append_left _ h.mem) rfl, by rw [cL]; exact Nat.ne_of_lt (Heap.lt_size P3.1), P3.2.2.2.2⟩
  generalize eH : upd H2 D (.lst []) = H3 at I3 I4 pg pe w0 f3 see
  generalize e4 : ({ s3 with heap := pushCells (s3.heap.push { cls := .type "dict", data := .dict #[] }) scope.names } : Shared) = s4 at I4 ⊢
  have t4 : tn 0 s4.heap := T.keep _ _ _ t3 fun b _ o z => by rw [← e4]; exact pushCells_keeps _ _ _ _ (Heap.get?_push_of_some _ z)
  have hotB : HotC (blkP X s3 H3 scope ce fp p) := ⟨p, h.hot, List.mem_cons_self⟩
  have calmly : ∀ {σ' : L2.St} {H' : Hp} {s' : Shared}, Inv (X.blk s3 H3 scope ce fp) [] σ' H' s' → (∀ b ∈ fp, H' b = none) → ∀ b ∈ fp, FpOk (blkP X s3 H3 scope ce fp p) [] H' b := fun {σ' H' s'} I' hn b hb =>
    ⟨hn b hb, (I'.ok.exf b hb).1, I'.ok.exfs b hb, .inl hb, fun x c e => (I'.ok.exf b hb).2 x c e, fun q hq z => by
      have e : q = p := by simpa using (show q ∈ [p] ++ ([] : List (Addr × Obj)) from hq)
      rw [e] at z
      exact see.nofp (z ▸ hb)⟩
  have nopin : ∀ {σ' : L2.St} {H' : Hp} {s' : Shared}, Inv (X.blk s3 H3 scope ce fp) [] σ' H' s' → (∀ b ∈ fp, H' b = none) → ∀ b ∈ fp, FpOk (X.blk s3 H3 scope ce fp) [] H' b := fun {σ' H' s'} I' hn b hb =>
    ⟨hn b hb, (I'.ok.exf b hb).1, I'.ok.exfs b hb, .inl hb, fun x c e => (I'.ok.exf b hb).2 x c e, fun q hq => absurd (show q ∈ ([] : List (Addr × Obj)) ++ [] from hq) (by simp)⟩
  have loop : codeAny (model X.prog X.w) X.A (.compLoop (.ListComp elt [⟨tg, iter, [], 0⟩] scope pos) 0 (.ref it) (.ref D) ce) (compPost (model X.prog X.w) X.A X.xe none (EP X pins σ Q) (.ref D) s3.heap.objs.size) s4 := by
    refine compLoop_any (fun n s' => ∃ i H', Inv (X.blk s3 H3 scope ce fp) [] (wipe σ (own.map (·.2))) H' s' ∧ tn i s'.heap ∧ (∀ b ∈ fp, H' b = none) ∧ W i n H') ?_ m0 ⟨0, H3, I4, t4, fun b hb => (f3 b hb).1.1, w0⟩
    rintro n s5 ⟨i, H5, I5, t5, n5, w5⟩
    rcases turn i n H5 w5 with ⟨stop, qq⟩ | ⟨go, Nx, hNx, step⟩
    · refine thnF (T.done (blkP X s3 H3 scope ce fp p) rfl rfl rfl hotB i [] s5 _ H5 (fun _ _ => False) (blk_up see I5) (calmly I5 n5) t5 stop) fun r s6 ⟨hr, I6'⟩ => ?_
      subst hr
      have I6 := blk_down I6'
      have I7 : Inv X pins σ H5 s6 := I3.call' (ch := fp) I6.os I6.base I6.hok I6.bare fun b hb => ⟨(f3 b hb).1.2.2.2.1, (f3 b hb).1.2.1, (f3 b hb).1.2.2.2.2.1, (f3 b hb).1.2.2.2.2.2⟩
      have nC : H5 s3.heap.objs.size = none := cL ▸ I6.free
      obtain ⟨m, hn, _⟩ := I6.loc
      have hn' : s6.heap.Ns s3.heap.objs.size m := cL ▸ hn
      obtain ⟨g0, g1, g2, g3, g4, g5⟩ := I3.fpOk (Nat.le_refl _) nC
      exact ⟨m, hn', fun h'' sb => ⟨.ref D, H5, I7.turned (t' := s6.toks) (fun b o hb e => (sb.2 b hb).trans e) g0 g1 g3 g4 g5, rfl, qq⟩⟩
    · refine thnF (T.item (blkP X s3 H3 scope ce fp p) rfl rfl rfl hotB i [] s5 _ H5 (fun _ _ => False) (blk_up see I5) (calmly I5 n5) t5 go) fun r s6 ⟨u, hr, h6⟩ => ?_
      subst hr
      refine thnF h6 fun _ s7 ⟨x, H7, I7', r7, y7, t7, n7⟩ => ?_
      have I7 := blk_down I7'
      refine thnF (pg.run _ s7 _ H7 x u _ (I7.pinned (nopin I7 n7) (T.obj _ _ t7)) r7 (step x H7 y7)) fun _ s8 ⟨σ8, H8, I8, hw8, q8⟩ => ?_
      refine wpAny_tests_nil ?_
      simp only [if_true]
      have q8' : te σ8 H8 fun y H4 => ∃ acc, H4 D = some (.lst acc) ∧ acc.length < sizeLine ∧ Nx (upd H4 D (.lst (acc ++ [y]))) := q8
      refine thnF (pe.run _ s8 σ8 H8 _ I8 q8') fun z s10 ⟨yv, H10, I10, r10, acc, hD10, hz10, nx⟩ => ?_
      refine app_ok (X := X.blk s3 H3 scope ce fp) I10 hD10 hz10 r10 fun s11 I11 => ?_
      obtain ⟨m', hm, w'⟩ := hNx _ nx
      have held : ∀ b ∈ fp, ∀ o, s7.heap.get? b = some o → s11.heap.get? b = some o ∧ upd H10 D (.lst (acc ++ [yv])) b = none := fun b hb o e => by
        have z := I11.pin (b, o) (List.mem_append_right _ (List.mem_append_right _ (mem_pinsAt hb e)))
        exact ⟨z.1, z.2.1⟩
      refine ⟨m', hm, i + 1, _, (I11.unpinned (pins := [])).weak (by rw [← hw8, wipe_length]) (fun j v e => (wipe_some (hw8 ▸ e)).1), T.keep _ _ _ t7 fun b hb o e => (held b hb o e).1, fun b hb => ?_, w'⟩
      obtain ⟨o, e, _⟩ := T.obj _ _ t7 b hb
      exact (held b hb o e).2
  exact codeAny_compStart_list loop (T.self X.A 0 _ _ _ t4 loop)
end
end Fb
set_option Elab.async false
set_option linter.all false
set_option maxRecDepth 100000
set_option maxHeartbeats 4000000
namespace K02
open PySem PySem.Spec PyProof.Rows L2 L2H Fb
def top (i : Nat) : Stmt := PySem.Challenge.pw_fourbind_k02_refusals_made.main.body.getD i (.Pass ⟨0, 0, 0, 0⟩)
abbrev sI0 : Stmt := inClass (top 2) 0
abbrev sI1 : Stmt := inClass (top 3) 0
abbrev sI2 : Stmt := inClass (top 4) 0
abbrev sI4 : Stmt := inClass (top 6) 0
abbrev s_l_deal : Stmt := top 9
abbrev s_l_draw : Stmt := top 10
abbrev s_l_thing : Stmt := top 11
abbrev s_l_sorts : Stmt := top 12
abbrev s_l_raised : Stmt := top 13
abbrev s_l_fields : Stmt := top 14
abbrev s_l_taken : Stmt := top 15
abbrev sLaw : Stmt := top 16
def ci (a0 a1 a2 a3 a4 a5 : Addr) : Nat → Addr
  | 0 => a0
  | 1 => a1
  | 2 => a2
  | 3 => a3
  | 4 => a4
  | _ => a5
structure Top (K : PySem.W.Frag) (mg : Str → Option Value) (a0 a1 a2 a3 a4 a5 CB : Addr) : Prop where
  n_len : mg "len" = none
  n_max : mg "max" = none
  n_list : mg "list" = none
  n_reversed : mg "reversed" = none
  n_range : mg "range" = none
  n_isinstance : mg "isinstance" = none
  n_repr : mg "repr" = none
  n_ValueError : mg "ValueError" = none
  m_BindError : mg "BindError" = some (.ref CB)
  c_NoText : Cn mg "NoText" (.ref a0)
  m_NoText : mg "NoText" = some (.ref a0)
  x_0 : ExcC K a0
  v_0 : PySem.W.kitOne K (.ref a0) (.type "ValueError") = some true
  b_0 : PySem.W.exmOne K (.ref a0) (.ref CB) = some true
  k_0_1 : PySem.W.kitOne K (.ref a0) (.ref a1) = some false
  k_0_2 : PySem.W.kitOne K (.ref a0) (.ref a2) = some false
  k_0_3 : PySem.W.kitOne K (.ref a0) (.ref a3) = some false
  k_0_4 : PySem.W.kitOne K (.ref a0) (.ref a4) = some false
  k_0_5 : PySem.W.kitOne K (.ref a0) (.ref a5) = some false
  o_0 : OexC K a0
  f_0 : XfC K a0
  n_0_row : PySem.W.findIn K (.ref a0) "row" = some none
  i_0 : ∃ f fd, L2.Fun K "__init__" "NoText.__init__" sI0 f fd ∧ PySem.W.findIn K (.ref a0) "__init__" = some (some (.ref f)) ∧ PySem.W.typeIn K (.ref f) = some (.type "function")
  c_NoProgram : Cn mg "NoProgram" (.ref a1)
  m_NoProgram : mg "NoProgram" = some (.ref a1)
  x_1 : ExcC K a1
  v_1 : PySem.W.kitOne K (.ref a1) (.type "ValueError") = some true
  b_1 : PySem.W.exmOne K (.ref a1) (.ref CB) = some true
  k_1_0 : PySem.W.kitOne K (.ref a1) (.ref a0) = some false
  k_1_2 : PySem.W.kitOne K (.ref a1) (.ref a2) = some false
  k_1_3 : PySem.W.kitOne K (.ref a1) (.ref a3) = some false
  k_1_4 : PySem.W.kitOne K (.ref a1) (.ref a4) = some false
  k_1_5 : PySem.W.kitOne K (.ref a1) (.ref a5) = some false
  o_1 : OexC K a1
  f_1 : XfC K a1
  n_1_word : PySem.W.findIn K (.ref a1) "word" = some none
  n_1_at : PySem.W.findIn K (.ref a1) "at" = some none
  n_1_name : PySem.W.findIn K (.ref a1) "name" = some none
  i_1 : ∃ f fd, L2.Fun K "__init__" "NoProgram.__init__" sI1 f fd ∧ PySem.W.findIn K (.ref a1) "__init__" = some (some (.ref f)) ∧ PySem.W.typeIn K (.ref f) = some (.type "function")
  c_NoPlan : Cn mg "NoPlan" (.ref a2)
  m_NoPlan : mg "NoPlan" = some (.ref a2)
  x_2 : ExcC K a2
  v_2 : PySem.W.kitOne K (.ref a2) (.type "ValueError") = some true
  b_2 : PySem.W.exmOne K (.ref a2) (.ref CB) = some true
  k_2_0 : PySem.W.kitOne K (.ref a2) (.ref a0) = some false
  k_2_1 : PySem.W.kitOne K (.ref a2) (.ref a1) = some false
  k_2_3 : PySem.W.kitOne K (.ref a2) (.ref a3) = some false
  k_2_4 : PySem.W.kitOne K (.ref a2) (.ref a4) = some false
  k_2_5 : PySem.W.kitOne K (.ref a2) (.ref a5) = some false
  o_2 : OexC K a2
  f_2 : XfC K a2
  n_2_word : PySem.W.findIn K (.ref a2) "word" = some none
  n_2_at : PySem.W.findIn K (.ref a2) "at" = some none
  i_2 : ∃ f fd, L2.Fun K "__init__" "NoPlan.__init__" sI2 f fd ∧ PySem.W.findIn K (.ref a2) "__init__" = some (some (.ref f)) ∧ PySem.W.typeIn K (.ref f) = some (.type "function")
  c_NoRow : Cn mg "NoRow" (.ref a3)
  m_NoRow : mg "NoRow" = some (.ref a3)
  x_3 : ExcC K a3
  v_3 : PySem.W.kitOne K (.ref a3) (.type "ValueError") = some true
  b_3 : PySem.W.exmOne K (.ref a3) (.ref CB) = some true
  k_3_0 : PySem.W.kitOne K (.ref a3) (.ref a0) = some false
  k_3_1 : PySem.W.kitOne K (.ref a3) (.ref a1) = some false
  k_3_2 : PySem.W.kitOne K (.ref a3) (.ref a2) = some false
  k_3_4 : PySem.W.kitOne K (.ref a3) (.ref a4) = some false
  k_3_5 : PySem.W.kitOne K (.ref a3) (.ref a5) = some false
  e_3 : PySem.W.excIn K a3 [.type "ValueError", .type "Exception", .type "BaseException", .type "object"] "ValueError.__new__" = true
  p_3 : PySem.W.keepIn K (.ref a3) = true
  s_3 : PySem.W.subIn K (.ref a3) (.type "BaseException") = some true
  t_3 : PySem.W.typeIn K (.ref a3) = some (.type "type")
  c_NoKept : Cn mg "NoKept" (.ref a4)
  m_NoKept : mg "NoKept" = some (.ref a4)
  x_4 : ExcC K a4
  v_4 : PySem.W.kitOne K (.ref a4) (.type "ValueError") = some true
  b_4 : PySem.W.exmOne K (.ref a4) (.ref CB) = some true
  k_4_0 : PySem.W.kitOne K (.ref a4) (.ref a0) = some false
  k_4_1 : PySem.W.kitOne K (.ref a4) (.ref a1) = some false
  k_4_2 : PySem.W.kitOne K (.ref a4) (.ref a2) = some false
  k_4_3 : PySem.W.kitOne K (.ref a4) (.ref a3) = some false
  k_4_5 : PySem.W.kitOne K (.ref a4) (.ref a5) = some false
  o_4 : OexC K a4
  f_4 : XfC K a4
  n_4_name : PySem.W.findIn K (.ref a4) "name" = some none
  i_4 : ∃ f fd, L2.Fun K "__init__" "NoKept.__init__" sI4 f fd ∧ PySem.W.findIn K (.ref a4) "__init__" = some (some (.ref f)) ∧ PySem.W.typeIn K (.ref f) = some (.type "function")
  c_NoBegun : Cn mg "NoBegun" (.ref a5)
  m_NoBegun : mg "NoBegun" = some (.ref a5)
  x_5 : ExcC K a5
  v_5 : PySem.W.kitOne K (.ref a5) (.type "ValueError") = some true
  b_5 : PySem.W.exmOne K (.ref a5) (.ref CB) = some true
  k_5_0 : PySem.W.kitOne K (.ref a5) (.ref a0) = some false
  k_5_1 : PySem.W.kitOne K (.ref a5) (.ref a1) = some false
  k_5_2 : PySem.W.kitOne K (.ref a5) (.ref a2) = some false
  k_5_3 : PySem.W.kitOne K (.ref a5) (.ref a3) = some false
  k_5_4 : PySem.W.kitOne K (.ref a5) (.ref a4) = some false
  e_5 : PySem.W.excIn K a5 [.type "ValueError", .type "Exception", .type "BaseException", .type "object"] "ValueError.__new__" = true
  p_5 : PySem.W.keepIn K (.ref a5) = true
  s_5 : PySem.W.subIn K (.ref a5) (.type "BaseException") = some true
  t_5 : PySem.W.typeIn K (.ref a5) = some (.type "type")
  z_1 : PySem.W.exmOne K (.ref a2) (.ref a3) = some false
  z_2 : PySem.W.exmOne K (.ref a2) (.ref a2) = some true
  h_l_deal : Has K mg "_law_deal" s_l_deal
  h_l_draw : Has K mg "_law_draw" s_l_draw
  h_l_thing : Has K mg "_law_thing" s_l_thing
  h_l_sorts : Has K mg "_law_sorts" s_l_sorts
  h_l_raised : Has K mg "_law_raised" s_l_raised
  h_l_fields : Has K mg "_law_fields" s_l_fields
  h_l_taken : Has K mg "_law_taken" s_l_taken
section
variable {K : PySem.W.Frag} {mg : Str → Option Value} {a0 a1 a2 a3 a4 a5 CB : Addr}
theorem Top.exc (T : Top K mg a0 a1 a2 a3 a4 a5 CB) : ∀ i, i < 6 → ExcC K (ci a0 a1 a2 a3 a4 a5 i)
  | 0, _ => T.x_0
  | 1, _ => T.x_1
  | 2, _ => T.x_2
  | 3, _ => T.x_3
  | 4, _ => T.x_4
  | 5, _ => T.x_5
  | _ + 6, h => absurd h (by omega)
theorem Top.val (T : Top K mg a0 a1 a2 a3 a4 a5 CB) : ∀ i, i < 6 → PySem.W.kitOne K (.ref (ci a0 a1 a2 a3 a4 a5 i)) (.type "ValueError") = some true
  | 0, _ => T.v_0
  | 1, _ => T.v_1
  | 2, _ => T.v_2
  | 3, _ => T.v_3
  | 4, _ => T.v_4
  | 5, _ => T.v_5
  | _ + 6, h => absurd h (by omega)
theorem Top.bnd (T : Top K mg a0 a1 a2 a3 a4 a5 CB) : ∀ i, i < 6 → PySem.W.exmOne K (.ref (ci a0 a1 a2 a3 a4 a5 i)) (.ref CB) = some true
  | 0, _ => T.b_0
  | 1, _ => T.b_1
  | 2, _ => T.b_2
  | 3, _ => T.b_3
  | 4, _ => T.b_4
  | 5, _ => T.b_5
  | _ + 6, h => absurd h (by omega)
theorem Top.kit0 (T : Top K mg a0 a1 a2 a3 a4 a5 CB) : ∀ i, i < 6 → PySem.W.kitOne K (.ref (ci a0 a1 a2 a3 a4 a5 i)) (.ref a0) = some (decide (i = 0))
  | 0, _ => Fb.kit_own
  | 1, _ => T.k_1_0
  | 2, _ => T.k_2_0
  | 3, _ => T.k_3_0
  | 4, _ => T.k_4_0
  | 5, _ => T.k_5_0
  | _ + 6, h => absurd h (by omega)
theorem Top.kit1 (T : Top K mg a0 a1 a2 a3 a4 a5 CB) : ∀ i, i < 6 → PySem.W.kitOne K (.ref (ci a0 a1 a2 a3 a4 a5 i)) (.ref a1) = some (decide (i = 1))
  | 0, _ => T.k_0_1
  | 1, _ => Fb.kit_own
  | 2, _ => T.k_2_1
  | 3, _ => T.k_3_1
  | 4, _ => T.k_4_1
  | 5, _ => T.k_5_1
  | _ + 6, h => absurd h (by omega)
theorem Top.kit2 (T : Top K mg a0 a1 a2 a3 a4 a5 CB) : ∀ i, i < 6 → PySem.W.kitOne K (.ref (ci a0 a1 a2 a3 a4 a5 i)) (.ref a2) = some (decide (i = 2))
  | 0, _ => T.k_0_2
  | 1, _ => T.k_1_2
  | 2, _ => Fb.kit_own
  | 3, _ => T.k_3_2
  | 4, _ => T.k_4_2
  | 5, _ => T.k_5_2
  | _ + 6, h => absurd h (by omega)
theorem Top.kit3 (T : Top K mg a0 a1 a2 a3 a4 a5 CB) : ∀ i, i < 6 → PySem.W.kitOne K (.ref (ci a0 a1 a2 a3 a4 a5 i)) (.ref a3) = some (decide (i = 3))
  | 0, _ => T.k_0_3
  | 1, _ => T.k_1_3
  | 2, _ => T.k_2_3
  | 3, _ => Fb.kit_own
  | 4, _ => T.k_4_3
  | 5, _ => T.k_5_3
  | _ + 6, h => absurd h (by omega)
theorem Top.kit4 (T : Top K mg a0 a1 a2 a3 a4 a5 CB) : ∀ i, i < 6 → PySem.W.kitOne K (.ref (ci a0 a1 a2 a3 a4 a5 i)) (.ref a4) = some (decide (i = 4))
  | 0, _ => T.k_0_4
  | 1, _ => T.k_1_4
  | 2, _ => T.k_2_4
  | 3, _ => T.k_3_4
  | 4, _ => Fb.kit_own
  | 5, _ => T.k_5_4
  | _ + 6, h => absurd h (by omega)
theorem Top.kit5 (T : Top K mg a0 a1 a2 a3 a4 a5 CB) : ∀ i, i < 6 → PySem.W.kitOne K (.ref (ci a0 a1 a2 a3 a4 a5 i)) (.ref a5) = some (decide (i = 5))
  | 0, _ => T.k_0_5
  | 1, _ => T.k_1_5
  | 2, _ => T.k_2_5
  | 3, _ => T.k_3_5
  | 4, _ => T.k_4_5
  | 5, _ => Fb.kit_own
  | _ + 6, h => absurd h (by omega)
end

section
variable {P : Program} {w : World} {K : PySem.W.Frag} {mg : Str → Option Value} {base : Heap} {a0 a1 a2 a3 a4 a5 CB : Addr}
theorem scI0 : FnScope ["self", "row"] ["self", "row"] (defScope sI0) := ⟨rfl, rfl, rfl, by decide +kernel, rfl, by decide +kernel, by decide +kernel⟩
theorem mk_NoText (T : Top K mg a0 a1 a2 a3 a4 a5 CB) : MkN P w K mg base 1 "NoText" a0 (spI K ["row"]) := by
  obtain ⟨f, fd, F, fi, ft⟩ := T.i_0
  refine ⟨f, fd, ["self", "row"], T.o_0, fi, ft, ?_, F.binds (fun _ _ _ _ _ _ us hl => match us, hl with | [_, _], _ => rfl), T.m_NoText⟩
  refine F.ok scI0 (fun vs H Q E h => ?_) (fun cdv A outer s H vs Q E hr h => ?_)
  · obtain ⟨a, C, ys, rfl, l, _⟩ := h
    show ys.length + 1 = 2
    rw [l]; rfl
  · obtain ⟨a, C, ys, rfl, l, T1, no, hA, k⟩ := h
    obtain ⟨y0, rfl⟩ : ∃ y0, ys = [y0] := by
      match ys, l with
      | [y0], _ => exact ⟨y0, rfl⟩
    refine ⟨_, (pss_one (ps_ost (pv 0) (pv 1))), ?_⟩
    refine ⟨_, rfl, _, rfl, a, C, rfl, T1, no _ (by simp), .inl ⟨hA, fun dx nd ne => ?_⟩⟩
    refine k dx _ nd ne ?_ ?_ (fun b b1 b2 => ?_)
    · exact upd_same
    · rw [upd_ne ne]; exact upd_same
    · rw [upd_ne b1, upd_ne b2]
theorem scI1 : FnScope ["self", "word", "at", "name"] ["self", "word", "at", "name"] (defScope sI1) := ⟨rfl, rfl, rfl, by decide +kernel, rfl, by decide +kernel, by decide +kernel⟩
theorem mk_NoProgram (T : Top K mg a0 a1 a2 a3 a4 a5 CB) : MkN P w K mg base 1 "NoProgram" a1 (spI K ["word", "at", "name"]) := by
  obtain ⟨f, fd, F, fi, ft⟩ := T.i_1
  refine ⟨f, fd, ["self", "word", "at", "name"], T.o_1, fi, ft, ?_, F.binds (fun _ _ _ _ _ _ us hl => match us, hl with | [_, _, _, _], _ => rfl), T.m_NoProgram⟩
  refine F.ok scI1 (fun vs H Q E h => ?_) (fun cdv A outer s H vs Q E hr h => ?_)
  · obtain ⟨a, C, ys, rfl, l, _⟩ := h
    show ys.length + 1 = 4
    rw [l]; rfl
  · obtain ⟨a, C, ys, rfl, l, T1, no, hA, k⟩ := h
    obtain ⟨y0, y1, y2, rfl⟩ : ∃ y0 y1 y2, ys = [y0, y1, y2] := by
      match ys, l with
      | [y0, y1, y2], _ => exact ⟨y0, y1, y2, rfl⟩
    refine ⟨_, (pss_cons (ps_ost (pv 0) (pv 1))
  (pss_cons (ps_ost (pv 0) (pv 2))
  (pss_one (ps_ost (pv 0) (pv 3))))), ?_⟩
    refine ⟨_, rfl, _, rfl, a, C, rfl, T1, no _ (by simp), .inl ⟨hA, fun dx nd ne => ?_⟩⟩
    refine ⟨_, rfl, _, rfl, a, C, rfl, T1, no _ (by simp), .inr ⟨dx, [("word", y0)], upd_same, ?_, ?_, ?_⟩⟩
    · rw [upd_ne ne]; exact upd_same
    · show 1 ≤ 900; decide
    refine ⟨_, rfl, _, rfl, a, C, rfl, T1, no _ (by simp), .inr ⟨dx, [("at", y1), ("word", y0)], by rw [upd_ne ne.symm]; exact upd_same, ?_, ?_, ?_⟩⟩
    · exact upd_same
    · show 2 ≤ 900; decide
    refine k dx _ nd ne ?_ ?_ (fun b b1 b2 => ?_)
    · rw [upd_ne ne.symm, upd_ne ne.symm]; exact upd_same
    · exact upd_same
    · rw [upd_ne b2, upd_ne b2, upd_ne b1, upd_ne b2]
theorem scI2 : FnScope ["self", "word", "at"] ["self", "word", "at"] (defScope sI2) := ⟨rfl, rfl, rfl, by decide +kernel, rfl, by decide +kernel, by decide +kernel⟩
theorem mk_NoPlan (T : Top K mg a0 a1 a2 a3 a4 a5 CB) : MkN P w K mg base 1 "NoPlan" a2 (spI K ["word", "at"]) := by
  obtain ⟨f, fd, F, fi, ft⟩ := T.i_2
  refine ⟨f, fd, ["self", "word", "at"], T.o_2, fi, ft, ?_, F.binds (fun _ _ _ _ _ _ us hl => match us, hl with | [_, _, _], _ => rfl), T.m_NoPlan⟩
  refine F.ok scI2 (fun vs H Q E h => ?_) (fun cdv A outer s H vs Q E hr h => ?_)
  · obtain ⟨a, C, ys, rfl, l, _⟩ := h
    show ys.length + 1 = 3
    rw [l]; rfl
  · obtain ⟨a, C, ys, rfl, l, T1, no, hA, k⟩ := h
    obtain ⟨y0, y1, rfl⟩ : ∃ y0 y1, ys = [y0, y1] := by
      match ys, l with
      | [y0, y1], _ => exact ⟨y0, y1, rfl⟩
    refine ⟨_, (pss_cons (ps_ost (pv 0) (pv 1))
  (pss_one (ps_ost (pv 0) (pv 2)))), ?_⟩
    refine ⟨_, rfl, _, rfl, a, C, rfl, T1, no _ (by simp), .inl ⟨hA, fun dx nd ne => ?_⟩⟩
    refine ⟨_, rfl, _, rfl, a, C, rfl, T1, no _ (by simp), .inr ⟨dx, [("word", y0)], upd_same, ?_, ?_, ?_⟩⟩
    · rw [upd_ne ne]; exact upd_same
    · show 1 ≤ 900; decide
    refine k dx _ nd ne ?_ ?_ (fun b b1 b2 => ?_)
    · rw [upd_ne ne.symm]; exact upd_same
    · exact upd_same
    · rw [upd_ne b2, upd_ne b1, upd_ne b2]
theorem scI4 : FnScope ["self", "name"] ["self", "name"] (defScope sI4) := ⟨rfl, rfl, rfl, by decide +kernel, rfl, by decide +kernel, by decide +kernel⟩
theorem mk_NoKept (T : Top K mg a0 a1 a2 a3 a4 a5 CB) : MkN P w K mg base 1 "NoKept" a4 (spI K ["name"]) := by
  obtain ⟨f, fd, F, fi, ft⟩ := T.i_4
  refine ⟨f, fd, ["self", "name"], T.o_4, fi, ft, ?_, F.binds (fun _ _ _ _ _ _ us hl => match us, hl with | [_, _], _ => rfl), T.m_NoKept⟩
  refine F.ok scI4 (fun vs H Q E h => ?_) (fun cdv A outer s H vs Q E hr h => ?_)
  · obtain ⟨a, C, ys, rfl, l, _⟩ := h
    show ys.length + 1 = 2
    rw [l]; rfl
  · obtain ⟨a, C, ys, rfl, l, T1, no, hA, k⟩ := h
    obtain ⟨y0, rfl⟩ : ∃ y0, ys = [y0] := by
      match ys, l with
      | [y0], _ => exact ⟨y0, rfl⟩
    refine ⟨_, (pss_one (ps_ost (pv 0) (pv 1))), ?_⟩
    refine ⟨_, rfl, _, rfl, a, C, rfl, T1, no _ (by simp), .inl ⟨hA, fun dx nd ne => ?_⟩⟩
    refine k dx _ nd ne ?_ ?_ (fun b b1 b2 => ?_)
    · exact upd_same
    · rw [upd_ne ne]; exact upd_same
    · rw [upd_ne b1, upd_ne b2]

theorem scDraw : FnScope ["_law_deal_here", "_law_many", "_law_number", "_law_one", "_law_other"] ["_law_deal_here", "_law_many"] (defScope s_l_draw) := ⟨rfl, rfl, rfl, by decide +kernel, rfl, by decide +kernel, by decide +kernel⟩
theorem ok_draw (T : Top K mg a0 a1 a2 a3 a4 a5 CB) : C8.Cal P w K mg base 1 "_law_draw" spDraw [] := by
  obtain ⟨f, fd, F, gm⟩ := T.h_l_draw
  refine ⟨f, fd, ["_law_deal_here", "_law_many"], [], ?_, gm, F.kp, F.binds (fun _ _ _ _ _ _ us hl => match us, hl with | [_, _], _ => rfl), .nil⟩
  refine F.ok scDraw (fun vs H Q E h => ?_) (fun cdv A outer s H vs Q E hr h => ?_)
  · obtain ⟨d, l, many, rfl, _⟩ := h
    rfl
  · obtain ⟨d, l, many, rfl, ⟨s0, n0, ns0, hD⟩, m0, m1, k⟩ := h
    have hu := hu_of hr
    have hdl := hD.ne
    refine ⟨_, (C8.pss_cut (ps_while PassesOwn.never (PW.pt (pw_and (pt_cmpR op_eq (pe_dget hu (pv 0) pe_str (fun _ _ => rfl)) pe_int (nomark _)) (pw_and1 (pt_cmpR op_gt (pe_callB call_len_seq (by rfl) T.n_len (by decide +kernel) (pa_cons (pe_dget hu (pv 0) pe_str (fun _ _ => rfl)) pa_nil)) pe_int (nomark _))))) (pss_one (ps_dput hu (pv 0) pe_str (pe_bm0 PySem.F.plainAttrs_list PySem.F.slot_list_pop PySem.F.type_list_pop mt_pop (pe_dget hu (pv 0) pe_str (fun _ _ => rfl))) rfl)))
  (pss_cons (ps_set (i := 2) scDraw.nd rfl (Or.inl rfl) (pe_dget hu (pv 0) pe_str (fun _ _ => rfl)))
  (pss_cons (ps_if (pt_cmpR op_gt (pv 2) pe_int (nomark _))
    (pss_cons (ps_dput hu (pv 0) pe_str (pe_op op_fdivW (pv 2) (pv 1)) rfl)
  (pss_one (ps_ret (pe_op op_mod (pv 2) (pv 1)))))
    pss_nil)
  (pss_cons (ps_set (i := 3) scDraw.nd rfl (Or.inl rfl) (pe_op op_mod (pe_op op_add (pe_op op_mul (pe_dget hu (pv 0) pe_str (fun _ _ => rfl)) pe_int) pe_int) pe_int))
  (pss_cons (ps_dput hu (pv 0) pe_str (pe_op op_mod (pe_op op_add (pe_op op_mul (pv 3) pe_int) pe_int) pe_int) rfl)
  (pss_cons (ps_set (i := 4) scDraw.nd rfl (Or.inl rfl) (pe_op op_mod (pe_op op_mul (pe_dget hu (pv 0) pe_str (fun _ _ => rfl)) (pe_dget hu (pv 0) pe_str (fun _ _ => rfl))) pe_int))
  (pss_one (ps_ret (pe_op op_mod (pe_op op_add (pe_op op_mul (pe_op op_mod (pe_op op_mul (pv 3) (pv 3)) pe_int) pe_int) (pv 4)) (pv 1)))))))))), ?_⟩
    refine ⟨fun σ H1 => σ = [some (.ref d), some (.int many), none, none, none] ∧ Keep d l H H1 ∧ DealAt H1 d l, ?_, ?_⟩
    · refine ⟨fun m σ H1 => σ = [some (.ref d), some (.int many), none, none, none] ∧ Keep d l H H1 ∧ ∃ s n ns, m = ns.length ∧ DealX H1 d l s n ns, ⟨_, rfl, Keep.refl _ _ _, s0, n0, ns0, rfl, hD⟩, ?_⟩
      rintro m σ H1 ⟨rfl, hk, s1, n1, ns, rfl, h1⟩
      refine ⟨.ref d, rfl, d, .int n1, rfl, g_number h1.1, rfl, _, rfl, ?_⟩
      refine ite2 (fun e => ?_) (fun e => ?_)
      · refine ⟨.ref d, rfl, d, .ref l, rfl, g_left h1.1, l, ns.map V.int, rfl, .inl (SqL.of h1.2.1), _, _, rfl, rfl, _, rfl, ?_⟩
        refine ite2 (fun e2 => ?_) (fun e2 => ?_)
        · have hpos : 0 < ns.length := by
            have z := of_decide_eq_true e2
            rw [List.length_map] at z
            omega
          have hlast : (ns.map V.int)[(ns.map V.int).length - 1]? = some (.int (ns.getLast (by intro z; rw [z] at hpos; exact Nat.lt_irrefl _ hpos))) := by
            rw [List.length_map, List.getElem?_map, ← List.getLast?_eq_getElem?, List.getLast?_eq_some_getLast]
            rfl
          refine ⟨fun σ2 H2 => σ2 = [some (.ref d), some (.int many), none, none, none] ∧ Keep d l H H2 ∧ ∃ s n ns', ns'.length < ns.length ∧ DealX H2 d l s n ns', fun σ2 H2 ⟨a1, a2, a3, a4, a5, a6, a7⟩ => ⟨_, a6, a1, a2, a3, a4, a5, rfl, a7⟩, ?_⟩
          refine ⟨.ref d, rfl, d, .ref l, rfl, g_left h1.1, .inl ⟨rfl, _, SqL.of h1.2.1⟩, l, _, _, rfl, rfl, h1.2.1, hlast, .ref d, rfl, d, _, rfl, u_number (by rw [upd_ne hdl]; exact h1.1), ?_⟩
          refine ⟨rfl, hk.at_l.at_d, s1, _, ns.dropLast, by rw [List.length_dropLast]; omega, upd_same, ?_, h1.2.2.1, h1.2.2.2.1, ?_, fun x hx => h1.2.2.2.2.2 x (List.dropLast_subset _ hx)⟩
          · rw [upd_ne hdl.symm, upd_same, List.map_dropLast]
          · exact Int.le_of_lt (h1.2.2.2.2.2 _ (List.getLast_mem _))
        · exact ⟨rfl, hk, _, _, _, h1⟩
      · exact iteF ⟨rfl, hk, _, _, _, h1⟩
    · rintro σ H1 ⟨rfl, hk, s1, n1, ns, h1⟩
      refine ⟨.ref d, rfl, d, .int n1, rfl, g_number h1.1, _, rfl, _, _, rfl, rfl, _, rfl, ?_⟩
      refine ite2 (fun e => ?_) (fun e => ?_)
      · have hn : 0 < n1 := of_decide_eq_true e
        refine ⟨_, rfl, _, rfl, _, _, rfl, rfl, divW m0 m1, .ref d, rfl, d, _, rfl, u_number h1.1, _, rfl, _, rfl, _, _, rfl, rfl, m0, ?_⟩
        refine k _ _ (mod_lo m0) (mod_hi m0) ⟨s1, n1 / many, ns, upd_same, by rw [upd_ne hdl.symm]; exact h1.2.1, h1.2.2.1, h1.2.2.2.1, Int.ediv_nonneg (by omega) (by omega), h1.2.2.2.2.2⟩ hk.at_d
      · have q1 : (0 : Int) < 2147483647 := by decide
        have q2 : (0 : Int) < 2147483399 := by decide
        have q3 : (0 : Int) < 2147483563 := by decide
        have q4 : (0 : Int) < 2147483629 := by decide
        have b1 := mod_lo (a := s1 * 48271 + 7919) q1
        have b2 := mod_hi (a := s1 * 48271 + 7919) q1
        refine ⟨.ref d, rfl, d, .int s1, rfl, g_seed h1.1, _, _, rfl, rfl, mulS h1.2.2.1 (by have := h1.2.2.2.1; omega), _, _, rfl, rfl, _, _, rfl, rfl, q1, ?_⟩
        have c1 := mod_lo (a := (s1 * 48271 + 7919) % 2147483647 * 40692 + 104729) q2
        have c2 := mod_hi (a := (s1 * 48271 + 7919) % 2147483647 * 40692 + 104729) q2
        refine ⟨_, rfl, _, _, rfl, rfl, mulS b1 (by omega), _, _, rfl, rfl, _, _, rfl, rfl, q2, .ref d, rfl, d, _, rfl, u_seed h1.1, ?_⟩
        refine ⟨.ref d, rfl, d, .int _, rfl, g_seed upd_same, .ref d, rfl, d, .int _, rfl, g_seed upd_same, _, _, rfl, rfl, mulS c1 (by omega), _, _, rfl, rfl, q3, ?_⟩
        refine ⟨_, rfl, _, rfl, _, _, rfl, rfl, mulS b1 (by omega), _, _, rfl, rfl, q4, _, _, rfl, rfl, mulS (mod_lo q4) (Int.lt_trans (mod_hi q4) (by decide)), _, rfl, _, _, rfl, rfl, _, rfl, _, _, rfl, rfl, m0, ?_⟩
        exact k _ _ (mod_lo m0) (mod_hi m0) ⟨_, n1, ns, upd_same, by rw [upd_ne hdl.symm]; exact h1.2.1, c1, Int.lt_trans c2 (by decide), h1.2.2.2.2⟩ hk.at_d
theorem scDeal : FnScope ["_law_script", "_law_some", "_law_number", "_law_one"] ["_law_script"] (defScope s_l_deal) := ⟨rfl, rfl, rfl, by decide +kernel, rfl, by decide +kernel, by decide +kernel⟩
theorem ok_deal (T : Top K mg a0 a1 a2 a3 a4 a5 CB) : C8.Cal P w K mg base 1 "_law_deal" (spDeal K) [] := by
  obtain ⟨f, fd, F, gm⟩ := T.h_l_deal
  refine ⟨f, fd, ["_law_script"], [], ?_, gm, F.kp, F.binds (fun _ _ _ _ _ _ us hl => match us, hl with | [_], _ => rfl), .nil⟩
  refine F.ok scDeal (fun vs H Q E h => ?_) (fun cdv A outer s H vs Q E hr h => ?_)
  · obtain ⟨a, ns, rfl, _⟩ := h
    rfl
  · obtain ⟨a, ns, rfl, hS, hl, k⟩ := h
    have hu := hu_of hr
    refine ⟨_, (pss_cons (ps_setLc (i := 1) (own := [("_law_one", 3)]) rfl scDeal.nd rfl rfl (sw_true rfl rfl rfl (by decide +kernel)) (pi_list (pe_slice sl_list (pv 0) po_none (po_some pe_int))) (blkOk_by (own := [("_law_one", 3)]) (N := ["_law_script", "_law_some", "_law_number", "_law_one"]) (sc := defScope s_l_deal) (by decide +kernel)) (fun _ _ _ _ _ => (pg_name (i := 3) scDeal.nd rfl (Or.inl rfl))) (fun _ _ _ _ _ => pts_nil) (fun _ _ _ _ _ => (pe_callB (call_max2 rfl) (by rfl) T.n_max (by decide +kernel) (pa_cons (pv 3) (pa_cons (pe_op op_sub pe_int (pv 3)) pa_nil)))))
  (pss_cons (ps_set (i := 2) scDeal.nd rfl (Or.inl rfl) pe_int)
  (pss_cons (ps_for PassesOwn.never rfl (pi_list (pv 1)) (pg_name (i := 3) scDeal.nd rfl (Or.inl rfl))
    (pss_one (ps_set (i := 2) scDeal.nd rfl (Or.inl rfl) (pe_op op_mod (pe_op op_add (pe_op op_mul (pv 2) pe_int) (pe_op op_mod (pv 3) pe_int)) pe_int))))
  (pss_one (ps_ret (pe_disp (pps_cons pe_str (pv 2) (pps_cons pe_str pe_int (pps_cons pe_str (Fb.pe_listRev rfl rfl T.n_list rfl T.n_reversed (pe_lc (own := [("_law_one", 3)]) rfl scDeal.nd (pi_list (pv 1)) (blkOk_by (own := [("_law_one", 3)]) (N := ["_law_script", "_law_some", "_law_number", "_law_one"]) (sc := defScope s_l_deal) (by decide +kernel)) (fun _ _ _ _ _ => (pg_name (i := 3) scDeal.nd rfl (Or.inl rfl))) (fun _ _ _ _ _ => pts_one (pt_cmpR op_ge (pv 3) (pe_op op_pow pe_int pe_int) (nomark _))) (fun _ _ _ _ _ => (pv 3)))) pps_nil))) (by rfl) (by rfl) (fun z => by cases z) (by decide))))))), ?_⟩
    refine ⟨.ref a, rfl, 60, rfl, a, ns.map V.int, rfl, hS, fun c nc => ?_⟩
    obtain ⟨ms, em, lm⟩ := cut_ints ns none (some 60)
    have s1 : Same H (L2.upd H c (.lst (cutV (ns.map V.int) none (some 60)))) := same_new nc
    have hc : (L2.upd H c (.lst (cutV (ns.map V.int) none (some 60)))) c = some (.lst (ms.map V.int)) := by rw [upd_same, em]
    generalize L2.upd H c (.lst (cutV (ns.map V.int) none (some 60))) = H1 at s1 hc
    refine ⟨c, rfl, ⟨_, SqL.of hc⟩, fun D nD => lc_list (K := K) (a := c) (xs := ms.map V.int) (fun i H2 => Same H1 H2 ∧ ∃ zs : List Int, H2 D = some (.lst (zs.map V.int)) ∧ zs.length = i ∧ ∀ z ∈ zs, 0 ≤ z)
      ⟨same_new nD, [], upd_same, rfl, fun _ z => nomatch z⟩ (fun i H2 _ ⟨e, _⟩ => SqL.of (e _ _ hc)) ?_ ?_⟩
    · rintro i x H2 hx ⟨e2, zs, hz, lz, pz⟩
      obtain ⟨z, rfl, _⟩ := int_at hx
      have hi := (List.getElem?_eq_some_iff.mp hx).1
      rw [List.length_map] at hi
      refine ⟨rfl, _, rfl, _, rfl, _, _, rfl, rfl, _, _, rfl, _, hz, small1000 (by rw [List.length_map]; omega), fun b o e => ?_, zs ++ [max z (0 - z)], ?_, ?_, ?_⟩
      · rw [upd_ne (ne_of_none e nD)]
        exact e2 b o e
      · rw [upd_same, Fb.nest, snoc_ints]
      · rw [List.length_append, lz]
        rfl
      · intro y hy
        rcases List.mem_append.mp hy with q | q
        · exact pz y q
        · rw [List.mem_singleton.mp q]
          omega
    · rintro H2 ⟨e2, zs, hz, lz, pz⟩
      rw [List.length_map] at lz
      refine ⟨.ref D, rfl, D, rfl, ⟨_, SqL.of hz⟩, for_list (K := K) (a := D) (xs := zs.map V.int) (fun i σ H3 => H3 = H2 ∧ ∃ n y, σ = [some (.ref a), some (.ref D), some (.int n), y] ∧ 0 ≤ n ∧ n < 2147483647)
        ⟨rfl, 7919, none, rfl, by decide, by decide⟩ (fun i σ H3 _ ⟨e, _⟩ => by rw [e]; exact SqL.of hz) ?_ ?_⟩
      · rintro i x σ H3 hx ⟨rfl, n, y, rfl, n0, n1⟩
        obtain ⟨z, rfl, _⟩ := int_at hx
        refine ⟨_, rfl, _, _, rfl, rfl, mulS n0 (by omega), _, rfl, _, _, rfl, rfl, (by decide : (0 : Int) < 2147483629), _, _, rfl, rfl, _, _, rfl, rfl, (by decide : (0 : Int) < 2147483647), ?_⟩
        exact ⟨rfl, _, _, rfl, mod_lo (by decide), mod_hi (by decide)⟩
      · rintro σ H3 ⟨rfl, n, y, rfl, n0, n1⟩
        intro p np
        have sp1 : Same H3 (L2.upd H3 p (.dK [])) := same_new np
        have hp1 : (L2.upd H3 p (.dK [])) p = some (.dK []) := upd_same
        generalize L2.upd H3 p (.dK []) = H4 at sp1 hp1
        have hz4 := sp1 _ _ hz
        refine ⟨_, rfl, .ref D, rfl, D, rfl, ⟨_, SqL.of hz4⟩, fun D2 nD2 => lc_list (K := K) (a := D) (xs := zs.map V.int) (fun i H5 => Same H4 H5 ∧ ∃ ws : List Int, H5 D2 = some (.lst (ws.map V.int)) ∧ ws.length ≤ i ∧ ∀ z ∈ ws, 0 < z)
          ⟨same_new nD2, [], upd_same, Nat.le_refl _, fun _ z => nomatch z⟩ (fun i H5 _ ⟨e, _⟩ => SqL.of (e _ _ hz4)) ?_ ?_⟩
        · rintro i x H5 hx ⟨e5, ws, hw, lw, pw⟩
          obtain ⟨z, rfl, hzm⟩ := int_at hx
          have hi := (List.getElem?_eq_some_iff.mp hx).1
          rw [List.length_map] at hi
          refine ⟨rfl, _, rfl, _, _, rfl, rfl, ⟨by decide, by decide, by decide⟩, _, _, rfl, rfl, _, rfl, ite2 (fun g => ?_) (fun g => ?_)⟩
          · have hg := of_decide_eq_true g
            refine ⟨_, rfl, _, hw, small1000 (by rw [List.length_map]; omega), fun b o e => ?_, ws ++ [z], ?_, ?_, ?_⟩
            · rw [upd_ne (ne_of_none e nD2)]
              exact e5 b o e
            · rw [upd_same, snoc_ints]
            · rw [List.length_append]
              show ws.length + 1 ≤ i + 1
              omega
            · intro y hy
              rcases List.mem_append.mp hy with q | q
              · exact pw y q
              · rw [List.mem_singleton.mp q]
                exact Int.lt_of_lt_of_le (by decide) hg
          · exact ⟨e5, ws, hw, Nat.le_succ_of_le lw, pw⟩
        · rintro H5 ⟨e5, ws, hw, lw, pw⟩
          refine ⟨D2, _, rfl, SqL.of hw, fun q nq => ?_⟩
          have s6 : Same H5 (L2.upd H5 q (.lst (ws.map V.int).reverse)) := same_new nq
          refine ⟨s6 _ _ (e5 _ _ hp1), dealD n 0 q, rfl, by show 3 ≤ 15; decide, ?_⟩
          have nqp : q ≠ p := (ne_of_none (e5 _ _ hp1) nq).symm
          have sH : Same H H5 := s1.trans (e2.trans (sp1.trans e5))
          have np0 : H p = none := (s1.trans e2).free np
          refine k p q _ np0 (sH.free nq) ⟨n, 0, ws.reverse, by rw [upd_same, merge_deal], by rw [upd_ne nqp, upd_same, List.map_reverse], n0, by omega, by decide, fun x hx => pw x (List.mem_reverse.mp hx)⟩ fun b o e => ?_
          rw [upd_ne (ne_of_none e np0)]
          exact s6 _ _ (sH _ _ e)

end
end K02
set_option Elab.async false
set_option linter.all false
set_option maxRecDepth 100000
set_option maxHeartbeats 4000000
namespace K02
open PySem PySem.Spec PyProof.Rows L2 L2H Fb
abbrev abc : Str := "abcdefghijklmnopqrstuvwxyz !~"
theorem len_abc : abc.cps.toList.length = 29 := by decide +kernel
theorem len_abc2 : abc.length = 29 := by decide +kernel
theorem lo_abc : ∀ c ∈ abc.cps.toList, c < 128 := by decide +kernel
def lo (x : Str) : Prop := ∀ c ∈ x.cps.toList, c < 128
theorem lo_app {x y : Str} (hx : lo x) (hy : lo y) : lo (x ++ y) := fun c h => by
  have z : c ∈ x.cps.toList ++ y.cps.toList := by
    rw [PySem.Str.cps_append, Array.toList_append] at h
    exact h
  rcases List.mem_append.mp z with q | q
  · exact hx c q
  · exact hy c q
theorem lo_cut {x : Str} {a b : Option Int} (h : lo x) : lo (cutS x a b) := fun c hc => by
  have z : c ∈ (x.cps.toList.drop (HT.sIx x.length 0 a)).take (HT.sIx x.length x.length b - HT.sIx x.length 0 a) := by
    unfold cutS at hc
    simpa using hc
  exact h c (List.mem_of_mem_drop (List.mem_of_mem_take z))
theorem lo_one {c : Nat} (h : c < 128) : lo ⟨#[c]⟩ := fun x hx => by
  have z : x = c := by simpa using hx
  rw [z]
  exact h
theorem lo_nil : lo Str.empty := fun c h => by
  have z : c ∈ ([] : List Nat) := h
  cases z
theorem len_app (x y : Str) : (x ++ y).length = x.length + y.length := PySem.Str.length_append x y
theorem len_one (c : Nat) : (⟨#[c]⟩ : Str).length = 1 := rfl
theorem cut_len (z : Str) (a b : Option Int) : (cutS z a b).length ≤ z.length := L2.cutS_length z a b
theorem join_len : ∀ ys : List Str, (Txt.join "" ys).length = (ys.map (·.length)).sum := by
  intro ys
  rw [TL.join_eq]
  induction ys with
  | nil => rfl
  | cons x r ih =>
    cases r with
    | nil => rfl
    | cons y q =>
      show (x ++ ("" : Str) ++ Str.join "" (y :: q)).length = x.length + ((y :: q).map (·.length)).sum
      rw [len_app, len_app, ih, show (("" : Str)).length = 0 by decide +kernel]
      omega
theorem join_lo : ∀ ys : List Str, (∀ y ∈ ys, lo y) → lo (Txt.join "" ys) := by
  intro ys h
  rw [TL.join_eq]
  induction ys with
  | nil => exact lo_nil
  | cons x r ih =>
    cases r with
    | nil => exact h x List.mem_cons_self
    | cons y q =>
      show lo (x ++ ("" : Str) ++ Str.join "" (y :: q))
      exact lo_app (lo_app (h x List.mem_cons_self) (by intro c hc; exact absurd hc (by rw [show (("" : Str)).cps.toList = [] by decide +kernel]; simp))) (ih fun z hz => h z (List.mem_cons_of_mem _ hz))
theorem ones_sum : ∀ ys : List Str, (∀ y ∈ ys, y.length = 1) → (ys.map (·.length)).sum = ys.length
  | [], _ => rfl
  | y :: r, h => by
    rw [List.map_cons, List.sum_cons, h y List.mem_cons_self, ones_sum r fun z hz => h z (List.mem_cons_of_mem _ hz), List.length_cons]
    omega
theorem atI_ok {α : Type} {xs : List α} {i : Int} (h0 : 0 ≤ i) (h1 : i < xs.length) : ∃ v, atI xs i = some v ∧ v ∈ xs := by
  have hl : i.toNat < xs.length := by omega
  refine ⟨xs[i.toNat], ?_, List.getElem_mem hl⟩
  have z := atI_nat (xs := xs) (j := i.toNat) (v := xs[i.toNat]) (List.getElem?_eq_getElem hl)
  rw [show ((i.toNat : Nat) : Int) = i by omega] at z
  exact z
theorem flat_strs (ys : List Str) : (ys.map V.str).all flatV = true := by
  rw [List.all_eq_true]
  intro v h
  obtain ⟨x, _, rfl⟩ := List.mem_map.mp h
  rfl
theorem str_at {ys : List Str} {i : Nat} {x : V} (h : (ys.map V.str)[i]? = some x) : ∃ z, x = .str z ∧ z ∈ ys := by
  rw [List.getElem?_map] at h
  cases e : ys[i]? with
  | none => rw [e] at h; cases h
  | some z => rw [e] at h; exact ⟨z, (Option.some.inj h).symm, List.mem_of_getElem? e⟩
theorem snoc_strs (ys : List Str) (y : Str) : ys.map V.str ++ [V.str y] = (ys ++ [y]).map V.str := by
  rw [List.map_append]
  rfl

theorem fit {n : Nat} (h : n ≤ 1000) : n ≤ sizeLine := by
  rw [sizeLine_eq]
  omega
def Atom (v : V) (d : PyData) : Prop := (∃ s : Str, v = .str s ∧ d = .str s ∧ s.length ≤ 20 ∧ lo s) ∨ ∃ i : Int, v = .int i ∧ d = .int i ∧ i.natAbs < 1000000000000
theorem Atom.dp {K : PySem.W.Frag} {H : Hp} {v : V} {d : PyData} (h : Atom v d) : Dp K H v d := by
  rcases h with ⟨s, rfl, rfl, _⟩ | ⟨i, rfl, rfl, _⟩
  · exact .str _
  · exact .int _
theorem Atom.sh {v : V} {d : PyData} (h : Atom v d) : Sh d 202 0 := by
  rcases h with ⟨s, rfl, rfl, l, c⟩ | ⟨i, rfl, rfl, n⟩
  · exact sh_str l c (by decide)
  · exact sh_int n (by decide)
def spThing : Sp := fun vs H Q _ => ∃ (d l : Addr), vs = [.ref d] ∧ DealAt H d l ∧ ∀ (v : V) (y : PyData) (H' : Hp), Atom v y → DealAt H' d l → Keep d l H H' → Q v H'
def fnm : Nat → List Str
  | 0 => ["row"]
  | 1 => ["word", "at", "name"]
  | 2 => ["word", "at"]
  | 4 => ["name"]
  | _ => []
/-- the fields of the handled exception -/
def FldAt (i : Nat) (zs : List V) (d : Option Addr) (H : Hp) : Prop := zs.length = (fnm i).length ∧ ((d = none ∧ zs = []) ∨ ∃ dd, d = some dd ∧ H dd = some (.xd ((fnm i).zip zs).reverse))
theorem FldAt.dict {i : Nat} {zs : List V} {d : Option Addr} {H : Hp} (h : FldAt i zs d H) : DictAt d H := by
  rcases h.2 with ⟨e, _⟩ | ⟨dd, e, z⟩
  · exact .inl e
  · exact .inr ⟨dd, _, e, z⟩
theorem dict_same {d : Option Addr} {H H' : Hp} (h : DictAt d H) (s : Same H H') : DictAt d H' := by
  rcases h with e | ⟨dd, fs, e, z⟩
  · exact .inl e
  · exact .inr ⟨dd, fs, e, s _ _ z⟩
def spSorts (a0 a1 a2 a3 a4 a5 : Addr) (a : Addr) (cls : Value) (d : Option Addr) : Sp := fun vs H Q _ => ∃ i, vs = [.ref a] ∧ i < 6 ∧ cls = .ref (ci a0 a1 a2 a3 a4 a5 i) ∧ DictAt d H ∧ ∀ l H', H l = none → H' l = some (.lst ((List.range 6).map fun j => V.bl (decide (i = j)))) → Same H H' → Q (.ref l) H'
def spFields (a0 a1 a2 a3 a4 a5 : Addr) (a : Addr) (cls : Value) (d : Option Addr) : Sp := fun vs H Q _ => ∃ i zs, vs = [.ref a] ∧ i < 6 ∧ cls = .ref (ci a0 a1 a2 a3 a4 a5 i) ∧ FldAt i zs d H ∧ ∀ l H', H l = none → H' l = some (.lst zs) → Same H H' → Q (.ref l) H'
section
variable {P : Program} {w : World} {K : PySem.W.Frag} {mg : Str → Option Value} {base : Heap} {a0 a1 a2 a3 a4 a5 CB : Addr}
theorem scThing : FnScope ["_law_deal_here", "_law_letters", "_law_text", "_law_k"] ["_law_deal_here"] (defScope s_l_thing) := ⟨rfl, rfl, rfl, by decide +kernel, rfl, by decide +kernel, by decide +kernel⟩
theorem ok_thing (T : Top K mg a0 a1 a2 a3 a4 a5 CB) : C8.Cal P w K mg base 2 "_law_thing" spThing [] := by
  have C_law_draw : C8.Cal P w K mg base 1 "_law_draw" spDraw [] := ok_draw T
  obtain ⟨f, fd, F, gm⟩ := T.h_l_thing
  refine ⟨f, fd, ["_law_deal_here"], [], ?_, gm, F.kp, F.binds (fun _ _ _ _ _ _ us hl => match us, hl with | [_], _ => rfl), .nil⟩
  refine F.ok scThing (fun vs H Q E h => ?_) (fun cdv A outer s H vs Q E hr h => ?_)
  · obtain ⟨d, l, rfl, _⟩ := h
    rfl
  · obtain ⟨d, l, rfl, hD, k⟩ := h
    refine ⟨_, (pss_cons (ps_set (i := 1) scThing.nd rfl (Or.inr rfl) pe_str)
  (pss_cons (ps_set (i := 2) scThing.nd rfl (Or.inl rfl) (pe_join pe_str (pe_lc (own := [("_law_k", 3)]) rfl scThing.nd (pi_range1 rfl T.n_range (pa_cons (C8.pe_c C_law_draw hr (by omega) rfl (pa_cons (pv 0) (pa_cons pe_int pa_nil))) pa_nil)) (blkOk_by (own := [("_law_k", 3)]) (N := ["_law_deal_here", "_law_letters", "_law_text", "_law_k"]) (sc := defScope s_l_thing) (by decide +kernel)) (fun _ _ _ _ _ => (pg_name (i := 3) scThing.nd rfl (Or.inl rfl))) (fun _ _ _ _ _ => pts_nil) (fun _ _ _ _ _ => (pe_ix ix_str (pv 1) (C8.pe_c C_law_draw hr (by omega) rfl (pa_cons (pv 0) (pa_cons pe_int pa_nil))) (fun _ _ => rfl))))))
  (pss_one (ps_ret (pe_ix ix_list (pe_lst (pa_cons (pv 2) (pa_cons (pe_op op_sub (C8.pe_c C_law_draw hr (by omega) rfl (pa_cons (pv 0) (pa_cons (pe_op op_pow pe_int pe_int) pa_nil))) pe_int) (pa_cons pe_int pa_nil)))) (C8.pe_c C_law_draw hr (by omega) rfl (pa_cons (pv 0) (pa_cons pe_int pa_nil))) (fun _ _ => rfl)))))), ?_⟩
    refine ⟨⟨_, rfl⟩, _, rfl, d, l, _, rfl, hD, by decide, by decide, fun r H1 r0 r1 D1 K1 => ⟨r, rfl, by omega, by omega, fun p np => lc_range (lo := 0) (n := r.toNat)
      (fun i H2 => DealAt H2 d l ∧ Keep d l H H2 ∧ ∃ ys : List Str, H2 p = some (.lst (ys.map V.str)) ∧ ys.length = i ∧ (∀ y ∈ ys, y.length = 1) ∧ ∀ y ∈ ys, lo y)
      ⟨D1.same (same_new np), K1.trans (Keep.of (same_new np)), [], upd_same, rfl, (fun _ z => nomatch z), (fun _ z => nomatch z)⟩ ?_ ?_⟩⟩
    · rintro i H2 hi ⟨D2, K2, ys, hp, ly, oy, ay⟩
      have pd := D1.d_ne np
      have pl := D1.l_ne np
      refine ⟨rfl, _, rfl, _, rfl, d, l, _, rfl, D2, by decide, by decide, fun q H3 q0 q1 D3 K3 => ?_⟩
      obtain ⟨c, hc, mc⟩ := atI_ok (xs := abc.cps.toList) (i := q) q0 (by rw [len_abc]; exact q1)
      have hp3 := K3 p _ hp pd pl
      refine ⟨abc, q, c, rfl, rfl, fit (by rw [len_abc2]; decide), hc, _, hp3, small1000 (by rw [List.length_map]; omega), D3.upd pd pl, fun b o e h1 h2 => ?_, ys ++ [⟨#[c]⟩], ?_, ?_, ?_, ?_⟩
      · have nb : b ≠ p := fun z => by
          have := K1 b o e h1 h2
          rw [z, np] at this
          cases this
        rw [upd_ne nb]
        exact K3 b o (K2 b o e h1 h2) h1 h2
      · rw [upd_same, List.map_append]
        rfl
      · rw [List.length_append, ly]
        rfl
      · intro y hy
        rcases List.mem_append.mp hy with z | z
        · exact oy y z
        · rw [List.mem_singleton.mp z]
          rfl
      · intro y hy
        rcases List.mem_append.mp hy with z | z
        · exact ay y z
        · rw [List.mem_singleton.mp z]
          exact lo_one (lo_abc c mc)
    · rintro H2 ⟨D2, K2, ys, hp, ly, oy, ay⟩
      have hs := ones_sum ys oy
      refine ⟨_, p, ys, rfl, rfl, .inl (SqL.of hp), ?_, ?_⟩
      · rw [hs, show (("" : Str)).length = 0 by decide +kernel]
        omega
      have hj : (Txt.join "" ys).length ≤ 8 := by
        rw [join_len, hs]
        omega
      have hlo : lo (Txt.join "" ys) := join_lo ys ay
      refine ⟨_, rfl, _, rfl, _, _, rfl, rfl, ⟨by decide, by decide, by decide⟩, d, l, _, rfl, D2, by decide, by decide, fun n H3 n0 n1 D3 K3 => ?_⟩
      refine ⟨_, _, rfl, rfl, fit (show 3 ≤ 1000 by decide), fun p2 np2 => ?_⟩
      have s4 := same_new (o := .lst [.str (Txt.join "" ys), .int (n - 5), .int 0]) np2
      have e4 : (L2.upd H3 p2 (.lst [.str (Txt.join "" ys), .int (n - 5), .int 0])) p2 = some (.lst [.str (Txt.join "" ys), .int (n - 5), .int 0]) := upd_same
      generalize L2.upd H3 p2 (.lst [.str (Txt.join "" ys), .int (n - 5), .int 0]) = H4 at s4 e4
      have D4 := D3.same s4
      refine ⟨_, rfl, d, l, _, rfl, D4, by decide, by decide, fun m H5 m0 m1 D5 K5 => ?_⟩
      have e5 := K5 p2 _ e4 (D3.d_ne np2) (D3.l_ne np2)
      have kk : Keep d l H H5 := (K2.trans K3).trans ((Keep.of s4).trans K5)
      have at1 : Atom (.str (Txt.join "" ys)) (.str (Txt.join "" ys)) := .inl ⟨_, rfl, rfl, by omega, hlo⟩
      have n2 : n < 1000000000000 := by
        have e : (10 : Int) ^ (Int.toNat 12) = 1000000000000 := by decide
        omega
      have at2 : Atom (.int (n - 5)) (.int (n - 5)) := .inr ⟨_, rfl, rfl, by omega⟩
      have at3 : Atom (.int 0) (.int 0) := .inr ⟨_, rfl, rfl, by decide⟩
      obtain rfl | rfl | rfl : m = 0 ∨ m = 1 ∨ m = 2 := by omega
      · exact ⟨p2, _, _, _, rfl, rfl, SqL.of e5, rfl, k _ _ _ at1 D5 kk⟩
      · exact ⟨p2, _, _, _, rfl, rfl, SqL.of e5, rfl, k _ _ _ at2 D5 kk⟩
      · exact ⟨p2, _, _, _, rfl, rfl, SqL.of e5, rfl, k _ _ _ at3 D5 kk⟩
theorem scSorts : FnScope ["_law_e", "_law_found"] ["_law_e"] (defScope s_l_sorts) := ⟨rfl, rfl, rfl, by decide +kernel, rfl, by decide +kernel, by decide +kernel⟩
theorem ok_sorts (T : Top K mg a0 a1 a2 a3 a4 a5 CB) : CalE P w K mg base 1 "_law_sorts" (spSorts a0 a1 a2 a3 a4 a5) := by
  obtain ⟨f, fd, F, gm⟩ := T.h_l_sorts
  refine ⟨f, fd, ["_law_e"], ?_, gm, F.kp, F.binds (fun _ _ _ _ _ _ us hl => match us, hl with | [_], _ => rfl)⟩
  refine ok_E F scSorts (fun a c d vs H Q E h => ?_) (fun cdv A outer s H vs Q E p c d hr hE h => ?_)
  · obtain ⟨i, rfl, _⟩ := h
    rfl
  · obtain ⟨i, rfl, hi, rfl, dd, k⟩ := h
    refine ⟨_, (pss_cons (ps_set (i := 1) scSorts.nd rfl (Or.inl rfl) (pe_lst (pa_cons (pe_callB (Fb.call_isX K rfl hE) (by rfl) T.n_isinstance (by decide +kernel) (pa_cons (pv 0) (pa_cons (C8.pe_gc rfl T.c_NoText) pa_nil))) (pa_cons (pe_callB (Fb.call_isX K rfl hE) (by rfl) T.n_isinstance (by decide +kernel) (pa_cons (pv 0) (pa_cons (C8.pe_gc rfl T.c_NoProgram) pa_nil))) (pa_cons (pe_callB (Fb.call_isX K rfl hE) (by rfl) T.n_isinstance (by decide +kernel) (pa_cons (pv 0) (pa_cons (C8.pe_gc rfl T.c_NoPlan) pa_nil))) (pa_cons (pe_callB (Fb.call_isX K rfl hE) (by rfl) T.n_isinstance (by decide +kernel) (pa_cons (pv 0) (pa_cons (C8.pe_gc rfl T.c_NoRow) pa_nil))) pa_nil))))))
  (pss_one (ps_ret (pe_op op_cat (pv 1) (pe_lst (pa_cons (pe_callB (Fb.call_isX K rfl hE) (by rfl) T.n_isinstance (by decide +kernel) (pa_cons (pv 0) (pa_cons (C8.pe_gc rfl T.c_NoKept) pa_nil))) (pa_cons (pe_callB (Fb.call_isX K rfl hE) (by rfl) T.n_isinstance (by decide +kernel) (pa_cons (pv 0) (pa_cons (C8.pe_gc rfl T.c_NoBegun) pa_nil))) pa_nil))))))), ?_⟩
    refine ⟨_, rfl, _, _, _, _, rfl, rfl, T.exc i hi, .own _, T.kit0 i hi, dd, _, rfl, _, _, _, _, rfl, rfl, T.exc i hi, .own _, T.kit1 i hi, dd, _, rfl, _, _, _, _, rfl, rfl, T.exc i hi, .own _, T.kit2 i hi, dd, _, rfl, _, _, _, _, rfl, rfl, T.exc i hi, .own _, T.kit3 i hi, dd, fit (show 4 ≤ 1000 by decide), fun p1 np1 => ?_⟩
    have s1 := same_new (o := .lst [.bl (decide (i = 0)), .bl (decide (i = 1)), .bl (decide (i = 2)), .bl (decide (i = 3))]) np1
    have h1 : (L2.upd H p1 (.lst [.bl (decide (i = 0)), .bl (decide (i = 1)), .bl (decide (i = 2)), .bl (decide (i = 3))])) p1 = some (.lst [.bl (decide (i = 0)), .bl (decide (i = 1)), .bl (decide (i = 2)), .bl (decide (i = 3))]) := upd_same
    have dd1 : DictAt d (L2.upd H p1 (.lst [.bl (decide (i = 0)), .bl (decide (i = 1)), .bl (decide (i = 2)), .bl (decide (i = 3))])) := dict_same dd s1
    refine ⟨_, rfl, _, rfl, _, _, _, _, rfl, rfl, T.exc i hi, .own _, T.kit4 i hi, dd1, _, rfl, _, _, _, _, rfl, rfl, T.exc i hi, .own _, T.kit5 i hi, dd1, fit (show 2 ≤ 1000 by decide), fun p2 np2 => ?_⟩
    have s2 := same_new (o := .lst [.bl (decide (i = 4)), .bl (decide (i = 5))]) np2
    refine ⟨p1, p2, _, _, rfl, rfl, s2 _ _ h1, upd_same, fit (show 6 ≤ 1000 by decide), fun q nq => ?_⟩
    have s3 := s1.trans (s2.trans (same_new (o := .lst [.bl (decide (i = 0)), .bl (decide (i = 1)), .bl (decide (i = 2)), .bl (decide (i = 3)), .bl (decide (i = 4)), .bl (decide (i = 5))]) nq))
    exact k q _ ((s1.trans s2).free nq) upd_same s3
theorem scFields : FnScope ["_law_e"] ["_law_e"] (defScope s_l_fields) := ⟨rfl, rfl, rfl, by decide +kernel, rfl, by decide +kernel, by decide +kernel⟩
theorem ok_fields (T : Top K mg a0 a1 a2 a3 a4 a5 CB) : CalE P w K mg base 1 "_law_fields" (spFields a0 a1 a2 a3 a4 a5) := by
  obtain ⟨f, fd, F, gm⟩ := T.h_l_fields
  refine ⟨f, fd, ["_law_e"], ?_, gm, F.kp, F.binds (fun _ _ _ _ _ _ us hl => match us, hl with | [_], _ => rfl)⟩
  refine ok_E F scFields (fun a c d vs H Q E h => ?_) (fun cdv A outer s H vs Q E p c d hr hE h => ?_)
  · obtain ⟨i, zs, rfl, _⟩ := h
    rfl
  · obtain ⟨i, zs, rfl, hi, rfl, fa, k⟩ := h
    refine ⟨_, (pss_cons (ps_if (pt_val (pe_callB (Fb.call_isX K rfl hE) (by rfl) T.n_isinstance (by decide +kernel) (pa_cons (pv 0) (pa_cons (C8.pe_gc rfl T.c_NoText) pa_nil))))
    (pss_one (ps_ret (pe_lst (pa_cons (Fb.pe_xfX K rfl hE (pv 0)) pa_nil))))
    pss_nil)
  (pss_cons (ps_if (pt_val (pe_callB (Fb.call_isX K rfl hE) (by rfl) T.n_isinstance (by decide +kernel) (pa_cons (pv 0) (pa_cons (C8.pe_gc rfl T.c_NoProgram) pa_nil))))
    (pss_one (ps_ret (pe_lst (pa_cons (Fb.pe_xfX K rfl hE (pv 0)) (pa_cons (Fb.pe_xfX K rfl hE (pv 0)) (pa_cons (Fb.pe_xfX K rfl hE (pv 0)) pa_nil))))))
    pss_nil)
  (pss_cons (ps_if (pt_val (pe_callB (Fb.call_isX K rfl hE) (by rfl) T.n_isinstance (by decide +kernel) (pa_cons (pv 0) (pa_cons (C8.pe_gc rfl T.c_NoPlan) pa_nil))))
    (pss_one (ps_ret (pe_lst (pa_cons (Fb.pe_xfX K rfl hE (pv 0)) (pa_cons (Fb.pe_xfX K rfl hE (pv 0)) pa_nil)))))
    pss_nil)
  (pss_cons (ps_if (pt_val (pe_callB (Fb.call_isX K rfl hE) (by rfl) T.n_isinstance (by decide +kernel) (pa_cons (pv 0) (pa_cons (C8.pe_gc rfl T.c_NoKept) pa_nil))))
    (pss_one (ps_ret (pe_lst (pa_cons (Fb.pe_xfX K rfl hE (pv 0)) pa_nil))))
    pss_nil)
  (pss_one (ps_ret (pe_lst pa_nil))))))), ?_⟩
    have dd := fa.dict
    have cases6 : i = 0 ∨ i = 1 ∨ i = 2 ∨ i = 3 ∨ i = 4 ∨ i = 5 := by omega
    obtain ⟨lz, fz⟩ := fa
    rcases cases6 with rfl | rfl | rfl | rfl | rfl | rfl
    · obtain ⟨y0, rfl⟩ : ∃ y0, zs = [y0] := by
        match zs, lz with
        | [y0], _ => exact ⟨y0, rfl⟩
      obtain ⟨_, z⟩ | ⟨dd', rfl, hd⟩ := fz
      · cases z
      exact ⟨_, rfl, _, _, _, _, rfl, rfl, T.exc 0 hi, .own _, (show PySem.W.kitOne K (.ref a0) (.ref a0) = some true from Fb.kit_own), dd, _, rfl, _, rfl, rfl, a0, dd', _, y0, rfl, T.f_0, T.n_0_row, rfl, hd, by rfl, fit (show 1 ≤ 1000 by decide), fun q nq => k q _ nq upd_same (same_new nq)⟩
    · obtain ⟨y0, y1, y2, rfl⟩ : ∃ y0 y1 y2, zs = [y0, y1, y2] := by
        match zs, lz with
        | [y0, y1, y2], _ => exact ⟨y0, y1, y2, rfl⟩
      obtain ⟨_, z⟩ | ⟨dd', rfl, hd⟩ := fz
      · cases z
      exact ⟨_, rfl, _, _, _, _, rfl, rfl, T.exc 1 hi, .own _, (show PySem.W.kitOne K (.ref a1) (.ref a0) = some false from T.k_1_0), dd, _, rfl, _, rfl, _, _, _, _, rfl, rfl, T.exc 1 hi, .own _, (show PySem.W.kitOne K (.ref a1) (.ref a1) = some true from Fb.kit_own), dd, _, rfl, _, rfl, rfl, a1, dd', _, y0, rfl, T.f_1, T.n_1_word, rfl, hd, by rfl, _, rfl, rfl, a1, dd', _, y1, rfl, T.f_1, T.n_1_at, rfl, hd, by rfl, _, rfl, rfl, a1, dd', _, y2, rfl, T.f_1, T.n_1_name, rfl, hd, by rfl, fit (show 3 ≤ 1000 by decide), fun q nq => k q _ nq upd_same (same_new nq)⟩
    · obtain ⟨y0, y1, rfl⟩ : ∃ y0 y1, zs = [y0, y1] := by
        match zs, lz with
        | [y0, y1], _ => exact ⟨y0, y1, rfl⟩
      obtain ⟨_, z⟩ | ⟨dd', rfl, hd⟩ := fz
      · cases z
      exact ⟨_, rfl, _, _, _, _, rfl, rfl, T.exc 2 hi, .own _, (show PySem.W.kitOne K (.ref a2) (.ref a0) = some false from T.k_2_0), dd, _, rfl, _, rfl, _, _, _, _, rfl, rfl, T.exc 2 hi, .own _, (show PySem.W.kitOne K (.ref a2) (.ref a1) = some false from T.k_2_1), dd, _, rfl, _, rfl, _, _, _, _, rfl, rfl, T.exc 2 hi, .own _, (show PySem.W.kitOne K (.ref a2) (.ref a2) = some true from Fb.kit_own), dd, _, rfl, _, rfl, rfl, a2, dd', _, y0, rfl, T.f_2, T.n_2_word, rfl, hd, by rfl, _, rfl, rfl, a2, dd', _, y1, rfl, T.f_2, T.n_2_at, rfl, hd, by rfl, fit (show 2 ≤ 1000 by decide), fun q nq => k q _ nq upd_same (same_new nq)⟩
    · obtain rfl : zs = [] := by
        match zs, lz with
        | [], _ => rfl
      exact ⟨_, rfl, _, _, _, _, rfl, rfl, T.exc 3 hi, .own _, (show PySem.W.kitOne K (.ref a3) (.ref a0) = some false from T.k_3_0), dd, _, rfl, _, rfl, _, _, _, _, rfl, rfl, T.exc 3 hi, .own _, (show PySem.W.kitOne K (.ref a3) (.ref a1) = some false from T.k_3_1), dd, _, rfl, _, rfl, _, _, _, _, rfl, rfl, T.exc 3 hi, .own _, (show PySem.W.kitOne K (.ref a3) (.ref a2) = some false from T.k_3_2), dd, _, rfl, _, rfl, _, _, _, _, rfl, rfl, T.exc 3 hi, .own _, (show PySem.W.kitOne K (.ref a3) (.ref a4) = some false from T.k_3_4), dd, _, rfl, fit (show 0 ≤ 1000 by decide), fun q nq => k q _ nq upd_same (same_new nq)⟩
    · obtain ⟨y0, rfl⟩ : ∃ y0, zs = [y0] := by
        match zs, lz with
        | [y0], _ => exact ⟨y0, rfl⟩
      obtain ⟨_, z⟩ | ⟨dd', rfl, hd⟩ := fz
      · cases z
      exact ⟨_, rfl, _, _, _, _, rfl, rfl, T.exc 4 hi, .own _, (show PySem.W.kitOne K (.ref a4) (.ref a0) = some false from T.k_4_0), dd, _, rfl, _, rfl, _, _, _, _, rfl, rfl, T.exc 4 hi, .own _, (show PySem.W.kitOne K (.ref a4) (.ref a1) = some false from T.k_4_1), dd, _, rfl, _, rfl, _, _, _, _, rfl, rfl, T.exc 4 hi, .own _, (show PySem.W.kitOne K (.ref a4) (.ref a2) = some false from T.k_4_2), dd, _, rfl, _, rfl, _, _, _, _, rfl, rfl, T.exc 4 hi, .own _, (show PySem.W.kitOne K (.ref a4) (.ref a4) = some true from Fb.kit_own), dd, _, rfl, _, rfl, rfl, a4, dd', _, y0, rfl, T.f_4, T.n_4_name, rfl, hd, by rfl, fit (show 1 ≤ 1000 by decide), fun q nq => k q _ nq upd_same (same_new nq)⟩
    · obtain rfl : zs = [] := by
        match zs, lz with
        | [], _ => rfl
      exact ⟨_, rfl, _, _, _, _, rfl, rfl, T.exc 5 hi, .own _, (show PySem.W.kitOne K (.ref a5) (.ref a0) = some false from T.k_5_0), dd, _, rfl, _, rfl, _, _, _, _, rfl, rfl, T.exc 5 hi, .own _, (show PySem.W.kitOne K (.ref a5) (.ref a1) = some false from T.k_5_1), dd, _, rfl, _, rfl, _, _, _, _, rfl, rfl, T.exc 5 hi, .own _, (show PySem.W.kitOne K (.ref a5) (.ref a2) = some false from T.k_5_2), dd, _, rfl, _, rfl, _, _, _, _, rfl, rfl, T.exc 5 hi, .own _, (show PySem.W.kitOne K (.ref a5) (.ref a4) = some false from T.k_5_4), dd, _, rfl, fit (show 0 ≤ 1000 by decide), fun q nq => k q _ nq upd_same (same_new nq)⟩
end
end K02
set_option Elab.async false
set_option linter.all false
set_option maxRecDepth 100000
set_option maxHeartbeats 4000000
namespace K02
open PySem PySem.Spec PyProof.Rows L2 L2H Fb
def many : Nat → Nat
  | 0 => 1
  | 1 => 3
  | 2 => 2
  | 4 => 1
  | _ => 0
def spRaised : Sp := fun vs H Q _ => ∃ (i : Nat) (l : Addr) (y0 y1 y2 : V), vs = [.int i, .ref l] ∧ i < 6 ∧ H l = some (.lst [y0, y1, y2]) ∧ ∀ r H', H r = none → H' r = some (.lst ([y0, y1, y2].take (many i))) → Same H H' → Q (.ref r) H'
def spTaken : Sp := fun vs H Q _ => ∃ (l : Addr) (y0 y1 : V), vs = [.ref l] ∧ H l = some (.lst [y0, y1]) ∧ ∀ r H', H r = none → H' r = some (.lst [y0, y1]) → Same H H' → Q (.ref r) H'
section
variable {P : Program} {w : World} {K : PySem.W.Frag} {mg : Str → Option Value} {base : Heap} {a0 a1 a2 a3 a4 a5 CB : Addr}
theorem exc_same {H H2 : Hp} {x dx : Addr} {o : HO} {fs : List (Str × V)} (nx : H x = none) (nd : H dx = none) (oth : ∀ b, b ≠ x → b ≠ dx → H2 b = (L2.upd H x o) b) : Same H (L2.upd (L2.del H2 x) dx (.xd fs)) := fun c z e => by
  have c1 : c ≠ x := ne_of_none e nx
  have c2 : c ≠ dx := ne_of_none e nd
  rw [upd_ne c2, del_ne c1, oth c c1 c2, upd_ne c1]
  exact e
theorem bools_dp {K : PySem.W.Frag} {H : Hp} : ∀ bs : List Bool, DpAll K H (bs.map V.bl) (bs.map PyData.bool)
  | [] => .nil
  | b :: r => .cons (.bl b) (bools_dp r)
theorem six_ok : ∀ i, i < 6 → SeqAt.shaped (.list (((List.range 6).map fun m => decide (i = m)).map PyData.bool)) = true ∧ PyData.eqv (.list (((List.range 6).map fun m => decide (i = m)).map PyData.bool)) (.list (((List.range 6).map fun m => decide (i = m)).map PyData.bool)) = true
  | 0, _ => ⟨by decide +kernel, by decide +kernel⟩
  | 1, _ => ⟨by decide +kernel, by decide +kernel⟩
  | 2, _ => ⟨by decide +kernel, by decide +kernel⟩
  | 3, _ => ⟨by decide +kernel, by decide +kernel⟩
  | 4, _ => ⟨by decide +kernel, by decide +kernel⟩
  | 5, _ => ⟨by decide +kernel, by decide +kernel⟩
  | _ + 6, h => absurd h (by omega)
theorem dec_int (i j : Nat) : decide (V.int (0 + (j : Int)) = V.int (i : Int)) = decide (i = j) := by
  by_cases e : i = j
  · rw [e, Int.zero_add, decide_eq_true rfl, decide_eq_true rfl]
  · have ne : ¬ V.int (0 + (j : Int)) = V.int (i : Int) := fun z => by
      injection z with z
      omega
    rw [decide_eq_false ne, decide_eq_false e]
theorem suite_ok (T : Top K mg a0 a1 a2 a3 a4 a5 CB) (i : Nat) (hi : i < 6) {zs : List V} {d : Option Addr} {H3 : Hp} {a l : Addr} {D : Ends} (fa : FldAt i zs d H3)
    (k : ∀ r H', H3 r = none → H' r = some (.lst zs) → Same H3 H' → D.nx [some (.int i), some (.ref l), some (.ref r), some (.ref a), none] H') :
    tIfS (tAnd (tB (tCB (rIsX K a (.ref (ci a0 a1 a2 a3 a4 a5 i)) d) (tCons (tVar 3) (tCons (tC (V.ty "ValueError")) tNil)))) (tTest (tOp (rEqD K) (tCall (spSorts a0 a1 a2 a3 a4 a5 a (.ref (ci a0 a1 a2 a3 a4 a5 i)) d) [] C8.E0 (tCons (tVar 3) tNil)) (tLc (iRng1 (tCons (tC (V.int 6)) tNil)) (gName 4) tYes (tOp rEq (tVar 4) (tVar 0)) [4]))))
      (tAsg (tCall (spFields a0 a1 a2 a3 a4 a5 a (.ref (ci a0 a1 a2 a3 a4 a5 i)) d) [] C8.E0 (tCons (tVar 3) tNil)) (gName 2)) tNext D [some (.int i), some (.ref l), some .non, some (.ref a), none] H3 := by
  refine ⟨_, rfl, _, _, _, _, rfl, rfl, T.exc i hi, .ty _, T.val i hi, fa.dict, _, rfl, ?_⟩
  refine ⟨_, rfl, i, rfl, hi, rfl, fa.dict, fun l5 H5 n5 h5 s5 => ?_⟩
  refine ⟨6, rfl, by decide, by decide, fun p np => lc_range (lo := 0) (n := 6) (fun j H6 => Same H5 H6 ∧ H6 p = some (.lst (((List.range j).map fun m => decide (i = m)).map V.bl))) ⟨same_new np, upd_same⟩ ?_ ?_⟩
  · rintro j H6 hj ⟨s6, h6⟩
    refine ⟨rfl, _, rfl, _, rfl, rfl, _, h6, small1000 (by simp; omega), fun c o e => ?_, ?_⟩
    · rw [upd_ne (ne_of_none e np)]
      exact s6 _ _ e
    · rw [upd_same, List.range_succ, dec_int, List.map_append, List.map_append]
      rfl
  · rintro H6 ⟨s6, h6⟩
    have h56 := s6 _ _ h5
    refine ⟨_, _, .lst (SqL.of h56) (bools_dp ((List.range 6).map fun m => decide (i = m))), .lst (SqL.of h6) (bools_dp _), (six_ok i hi).1, (six_ok i hi).1, _, rfl, ?_⟩
    rw [(six_ok i hi).2]
    have s36 := s5.trans s6
    have fa6 : FldAt i zs d H6 := ⟨fa.1, fa.2.elim .inl fun ⟨dd, e, z⟩ => .inr ⟨dd, e, s36 _ _ z⟩⟩
    exact ⟨_, rfl, i, zs, rfl, hi, rfl, fa6, fun r H7 n7 h7 s7 => k r H7 (s36.free n7) h7 (s36.trans s7)⟩
theorem scRaised : FnScope ["_law_which", "_law_some", "_law_found", "_law_e", "_law_k"] ["_law_which", "_law_some"] (defScope s_l_raised) := ⟨rfl, rfl, rfl, by decide +kernel, rfl, by decide +kernel, by decide +kernel⟩
theorem ok_raised (T : Top K mg a0 a1 a2 a3 a4 a5 CB) : C8.Cal P w K mg base 3 "_law_raised" spRaised [] := by
  have M_NoText : MkN P w K mg base 1 "NoText" a0 _ := mk_NoText T
  have M_NoProgram : MkN P w K mg base 1 "NoProgram" a1 _ := mk_NoProgram T
  have M_NoPlan : MkN P w K mg base 1 "NoPlan" a2 _ := mk_NoPlan T
  have M_NoKept : MkN P w K mg base 1 "NoKept" a4 _ := mk_NoKept T
  have C_law_sorts : CalE P w K mg base 1 "_law_sorts" (spSorts a0 a1 a2 a3 a4 a5) := ok_sorts T
  have C_law_fields : CalE P w K mg base 1 "_law_fields" (spFields a0 a1 a2 a3 a4 a5) := ok_fields T
  obtain ⟨f, fd, F, gm⟩ := T.h_l_raised
  refine ⟨f, fd, ["_law_which", "_law_some"], [], ?_, gm, F.kp, F.binds (fun _ _ _ _ _ _ us hl => match us, hl with | [_, _], _ => rfl), .nil⟩
  refine F.ok scRaised (fun vs H Q E h => ?_) (fun cdv A outer s H vs Q E hr h => ?_)
  · obtain ⟨i, l, y0, y1, y2, rfl, _⟩ := h
    rfl
  · obtain ⟨i, l, y0, y1, y2, rfl, hi, hl, k⟩ := h
    have hu64 : (A.deeper (envOfC "_law_raised" (defScope s_l_raised) s.heap.objs.size f cdv)).units + 64 < cLine := by have := hr.un; omega
    refine ⟨_, (pss_cons (ps_set (i := 2) scRaised.nd rfl (Or.inl rfl) pe_non)
  (pss_cons (Fb.ps_try_all rfl rfl scRaised.nd (i := 3) rfl rfl ⟨rfl, by decide, Or.inl T.m_BindError⟩ (fun W pn xe tk => (pss_cons (ps_if (pt_cmpR op_eq (pv 0) pe_int (nomark _))
    (pss_one (L2N.ps_raise rfl tk (Fb.pmk_N M_NoText hr (by omega) rfl (pa_cons (pe_ix (Fb.ixL K rfl) (pv 1) pe_int (fun _ _ => rfl)) pa_nil))))
    pss_nil)
  (pss_cons (ps_if (pt_cmpR op_eq (pv 0) pe_int (nomark _))
    (pss_one (L2N.ps_raise rfl tk (Fb.pmk_N M_NoProgram hr (by omega) rfl (pa_cons (pe_ix (Fb.ixL K rfl) (pv 1) pe_int (fun _ _ => rfl)) (pa_cons (pe_ix (Fb.ixL K rfl) (pv 1) pe_int (fun _ _ => rfl)) (pa_cons (pe_ix (Fb.ixL K rfl) (pv 1) pe_int (fun _ _ => rfl)) pa_nil))))))
    pss_nil)
  (pss_cons (ps_if (pt_cmpR op_eq (pv 0) pe_int (nomark _))
    (pss_one (L2N.ps_raise rfl tk (Fb.pmk_N M_NoPlan hr (by omega) rfl (pa_cons (pe_ix (Fb.ixL K rfl) (pv 1) pe_int (fun _ _ => rfl)) (pa_cons (pe_ix (Fb.ixL K rfl) (pv 1) pe_int (fun _ _ => rfl)) pa_nil)))))
    pss_nil)
  (pss_cons (ps_if (pt_cmpR op_eq (pv 0) pe_int (nomark _))
    (pss_one (L2N.ps_raise rfl tk (Fb.pmk_own0 PySem.F.excBase_ValueError T.e_3 T.m_NoRow T.p_3 (raises_own T.s_3 T.t_3) rfl)))
    pss_nil)
  (pss_cons (ps_if (pt_cmpR op_eq (pv 0) pe_int (nomark _))
    (pss_one (L2N.ps_raise rfl tk (Fb.pmk_N M_NoKept hr (by omega) rfl (pa_cons (pe_ix (Fb.ixL K rfl) (pv 1) pe_int (fun _ _ => rfl)) pa_nil))))
    pss_nil)
  (pss_one (L2N.ps_raise rfl tk (Fb.pmk_own0 PySem.F.excBase_ValueError T.e_5 T.m_NoBegun T.p_5 (raises_own T.s_5 T.t_5) rfl)))))))))
    (fun a oe cls d pn hE => (pss_one (ps_if (PW.pt (pw_and (pt_val (pe_callB (Fb.call_isX K rfl hE) (by rfl) T.n_isinstance (by decide +kernel) (pa_cons (pv 3) (pa_cons (pe_bltn (v := .ty "ValueError") (by rfl) T.n_ValueError PyProof.Rows.Boot.«ValueError» rfl) pa_nil)))) (pw_and1 (pt_cmpR (Fb.eqDK K rfl hu64) (Fb.pe_cE C_law_sorts hE (Fb.roomS hr) (by omega) rfl (pa_cons (pv 3) pa_nil)) (Fb.pe_lcH (own := [("_law_k", 4)]) hE scRaised.nd (pi_range1H rfl T.n_range (pa_cons pe_int pa_nil)) (blkOk_by (own := [("_law_k", 4)]) (N := ["_law_which", "_law_some", "_law_found", "_law_e", "_law_k"]) (sc := defScope s_l_raised) (by decide +kernel)) (fun _ _ _ _ _ => (pg_name (i := 4) scRaised.nd rfl (Or.inl rfl))) (fun _ _ _ _ _ => (pe_cmpR op_eq (pv 4) (pv 0) (nomark _)))) (nomark _)))))
    (pss_one (ps_set (i := 2) scRaised.nd rfl (Or.inl rfl) (Fb.pe_cE C_law_fields hE (Fb.roomS hr) (by omega) rfl (pa_cons (pv 3) pa_nil))))
    pss_nil))))
  (pss_one (ps_ret (pv 2))))), ?_⟩
    have c6 : i = 0 ∨ i = 1 ∨ i = 2 ∨ i = 3 ∨ i = 4 ∨ i = 5 := by omega
    rcases c6 with rfl | rfl | rfl | rfl | rfl | rfl
    · refine ⟨_, rfl, rfl, _, rfl, _, rfl, l, _, _, _, rfl, rfl, SqL.of hl, rfl, (show 1 ≤ 1000 by decide), fun x nx => ?_⟩
      refine ⟨x, a0, [y0], rfl, rfl, T.o_0, fun f hf => ?_, upd_same, fun dx H2 nd ne e1 e2 oth => ?_⟩
      · simp only [List.mem_cons, List.not_mem_nil, or_false] at hf
        rcases hf with rfl
        · exact T.n_0_row
      rw [upd_ne ne] at nd
      have S3 := exc_same (fs := ((fnm 0).zip [y0]).reverse) nx nd oth
      exact ⟨rfl, dx, _, e1, e2, nd, true, T.b_0, fun _ a na => suite_ok T 0 hi (zs := [y0]) ⟨rfl, .inr ⟨dx, rfl, upd_same⟩⟩ fun r H' n h s => ⟨_, rfl, k r H' (S3.free n) h (S3.trans s)⟩, fun z => by cases z⟩
    · refine ⟨_, rfl, rfl, _, rfl, _, rfl, rfl, _, rfl, _, rfl, l, _, _, _, rfl, rfl, SqL.of hl, rfl, _, rfl, l, _, _, _, rfl, rfl, SqL.of hl, rfl, _, rfl, l, _, _, _, rfl, rfl, SqL.of hl, rfl, (show 3 ≤ 1000 by decide), fun x nx => ?_⟩
      refine ⟨x, a1, [y0, y1, y2], rfl, rfl, T.o_1, fun f hf => ?_, upd_same, fun dx H2 nd ne e1 e2 oth => ?_⟩
      · simp only [List.mem_cons, List.not_mem_nil, or_false] at hf
        rcases hf with rfl | rfl | rfl
        · exact T.n_1_word
        · exact T.n_1_at
        · exact T.n_1_name
      rw [upd_ne ne] at nd
      have S3 := exc_same (fs := ((fnm 1).zip [y0, y1, y2]).reverse) nx nd oth
      exact ⟨rfl, dx, _, e1, e2, nd, true, T.b_1, fun _ a na => suite_ok T 1 hi (zs := [y0, y1, y2]) ⟨rfl, .inr ⟨dx, rfl, upd_same⟩⟩ fun r H' n h s => ⟨_, rfl, k r H' (S3.free n) h (S3.trans s)⟩, fun z => by cases z⟩
    · refine ⟨_, rfl, rfl, _, rfl, _, rfl, rfl, _, rfl, _, rfl, rfl, _, rfl, _, rfl, l, _, _, _, rfl, rfl, SqL.of hl, rfl, _, rfl, l, _, _, _, rfl, rfl, SqL.of hl, rfl, (show 2 ≤ 1000 by decide), fun x nx => ?_⟩
      refine ⟨x, a2, [y0, y1], rfl, rfl, T.o_2, fun f hf => ?_, upd_same, fun dx H2 nd ne e1 e2 oth => ?_⟩
      · simp only [List.mem_cons, List.not_mem_nil, or_false] at hf
        rcases hf with rfl | rfl
        · exact T.n_2_word
        · exact T.n_2_at
      rw [upd_ne ne] at nd
      have S3 := exc_same (fs := ((fnm 2).zip [y0, y1]).reverse) nx nd oth
      exact ⟨rfl, dx, _, e1, e2, nd, true, T.b_2, fun _ a na => suite_ok T 2 hi (zs := [y0, y1]) ⟨rfl, .inr ⟨dx, rfl, upd_same⟩⟩ fun r H' n h s => ⟨_, rfl, k r H' (S3.free n) h (S3.trans s)⟩, fun z => by cases z⟩
    · exact ⟨_, rfl, rfl, _, rfl, _, rfl, rfl, _, rfl, _, rfl, rfl, _, rfl, _, rfl, rfl, _, rfl, true, T.b_3, fun _ a na => suite_ok T 3 hi (zs := []) ⟨rfl, .inl ⟨rfl, rfl⟩⟩ fun r H' n h s => ⟨_, rfl, k r H' n h s⟩, fun z => by cases z⟩
    · refine ⟨_, rfl, rfl, _, rfl, _, rfl, rfl, _, rfl, _, rfl, rfl, _, rfl, _, rfl, rfl, _, rfl, _, rfl, rfl, _, rfl, _, rfl, l, _, _, _, rfl, rfl, SqL.of hl, rfl, (show 1 ≤ 1000 by decide), fun x nx => ?_⟩
      refine ⟨x, a4, [y0], rfl, rfl, T.o_4, fun f hf => ?_, upd_same, fun dx H2 nd ne e1 e2 oth => ?_⟩
      · simp only [List.mem_cons, List.not_mem_nil, or_false] at hf
        rcases hf with rfl
        · exact T.n_4_name
      rw [upd_ne ne] at nd
      have S3 := exc_same (fs := ((fnm 4).zip [y0]).reverse) nx nd oth
      exact ⟨rfl, dx, _, e1, e2, nd, true, T.b_4, fun _ a na => suite_ok T 4 hi (zs := [y0]) ⟨rfl, .inr ⟨dx, rfl, upd_same⟩⟩ fun r H' n h s => ⟨_, rfl, k r H' (S3.free n) h (S3.trans s)⟩, fun z => by cases z⟩
    · exact ⟨_, rfl, rfl, _, rfl, _, rfl, rfl, _, rfl, _, rfl, rfl, _, rfl, _, rfl, rfl, _, rfl, _, rfl, rfl, _, rfl, true, T.b_5, fun _ a na => suite_ok T 5 hi (zs := []) ⟨rfl, .inl ⟨rfl, rfl⟩⟩ fun r H' n h s => ⟨_, rfl, k r H' n h s⟩, fun z => by cases z⟩
theorem scTaken : FnScope ["_law_some", "_law_found", "_law_e"] ["_law_some"] (defScope s_l_taken) := ⟨rfl, rfl, rfl, by decide +kernel, rfl, by decide +kernel, by decide +kernel⟩
theorem ok_taken (T : Top K mg a0 a1 a2 a3 a4 a5 CB) : C8.Cal P w K mg base 3 "_law_taken" spTaken [] := by
  have M_NoPlan : MkN P w K mg base 1 "NoPlan" a2 _ := mk_NoPlan T
  obtain ⟨f, fd, F, gm⟩ := T.h_l_taken
  refine ⟨f, fd, ["_law_some"], [], ?_, gm, F.kp, F.binds (fun _ _ _ _ _ _ us hl => match us, hl with | [_], _ => rfl), .nil⟩
  refine F.ok scTaken (fun vs H Q E h => ?_) (fun cdv A outer s H vs Q E hr h => ?_)
  · obtain ⟨l, y0, y1, rfl, _⟩ := h
    rfl
  · obtain ⟨l, y0, y1, rfl, hl, k⟩ := h
    refine ⟨_, (pss_cons (ps_set (i := 1) scTaken.nd rfl (Or.inl rfl) pe_str)
  (pss_cons (Fb.ps_try_skip rfl rfl scTaken.nd (i := 2) rfl rfl ⟨rfl, by decide, Or.inl T.m_NoRow⟩ ⟨rfl, by decide, Or.inl T.m_NoPlan⟩ (fun W pn xe tk => (pss_one (L2N.ps_raise rfl tk (Fb.pmk_N M_NoPlan hr (by omega) rfl (pa_cons (pe_ix (Fb.ixL K rfl) (pv 0) pe_int (fun _ _ => rfl)) (pa_cons (pe_ix (Fb.ixL K rfl) (pv 0) pe_int (fun _ _ => rfl)) pa_nil))))))
    (fun a oe cls d pn hE => (pss_one (ps_set (i := 1) scTaken.nd rfl (Or.inl rfl) (pe_lst (pa_cons (Fb.pe_xfX K rfl hE (pv 2)) (pa_cons (Fb.pe_xfX K rfl hE (pv 2)) pa_nil)))))))
  (pss_one (ps_ret (pv 1))))), ?_⟩
    refine ⟨_, rfl, l, _, _, _, rfl, rfl, SqL.of hl, rfl, _, rfl, l, _, _, _, rfl, rfl, SqL.of hl, rfl, (show 2 ≤ 1000 by decide), fun x nx => ?_⟩
    refine ⟨x, a2, [y0, y1], rfl, rfl, T.o_2, fun f hf => ?_, upd_same, fun dx H2 nd ne e1 e2 oth => ?_⟩
    · simp only [List.mem_cons, List.not_mem_nil, or_false] at hf
      rcases hf with rfl | rfl
      · exact T.n_2_word
      · exact T.n_2_at
    rw [upd_ne ne] at nd
    have S3 := exc_same (fs := ((fnm 2).zip [y0, y1]).reverse) nx nd oth
    have d3 : (L2.upd (L2.del H2 x) dx (.xd ((fnm 2).zip [y0, y1]).reverse)) dx = some (.xd ((fnm 2).zip [y0, y1]).reverse) := upd_same
    refine ⟨rfl, dx, _, e1, e2, nd, T.z_1, T.z_2, fun a na => ?_⟩
    exact ⟨_, rfl, rfl, a2, dx, _, y0, rfl, T.f_2, T.n_2_word, rfl, d3, by rfl, _, rfl, rfl, a2, dx, _, y1, rfl, T.f_2, T.n_2_at, rfl, d3, by rfl, fit (show 2 ≤ 1000 by decide), fun q nq => ⟨_, rfl, k q _ (S3.free nq) upd_same (S3.trans (same_new nq))⟩⟩
end
end K02
set_option Elab.async false
set_option linter.all false
set_option maxRecDepth 100000
set_option maxHeartbeats 4000000
namespace K02
open PySem PySem.Spec PyProof.Rows L2 L2H Fb
def spLaw (K : PySem.W.Frag) : Sp := fun vs H Q _ => ∃ (a : Addr) (ns : List Int), vs = [.ref a] ∧ SqL K H a (ns.map V.int) ∧ ns.length ≤ 63 ∧ ∀ H', Q (.bl true) H'
theorem pair_snoc {v : V} {d : PyData} (h : Atom v d) : ∀ {vs : List V} {ds : List PyData}, Paired Atom vs ds → Paired Atom (vs ++ [v]) (ds ++ [d])
  | _, _, .nil => .cons h .nil
  | _, _, .cons a r => .cons a (pair_snoc h r)
theorem at_dps {K : PySem.W.Frag} {H : Hp} : ∀ {vs : List V} {ds : List PyData}, Paired Atom vs ds → DpAll K H vs ds
  | _, _, .nil => .nil
  | _, _, .cons a r => .cons a.dp (at_dps r)
theorem at_sh : ∀ {vs : List V} {ds : List PyData}, Paired Atom vs ds → ∀ d ∈ ds, Sh d 202 0
  | _, _, .nil, _, h => by cases h
  | _, _, .cons a r, d, h => by
    rcases List.mem_cons.mp h with e | e
    · rw [e]; exact a.sh
    · exact at_sh r d e
theorem at_list {vs : List V} {ds : List PyData} (h : Paired Atom vs ds) (n : ds.length ≤ 3) : Sh (.list ds) 1000 1 := by
  have z := sh_lst (sha_all (at_sh h))
  refine z.mono ?_ (Nat.le_refl _)
  have : ds.length * (202 + 2) ≤ 3 * 204 := Nat.mul_le_mul_right _ n
  omega
section
variable {P : Program} {w : World} {K : PySem.W.Frag} {mg : Str → Option Value} {base : Heap} {a0 a1 a2 a3 a4 a5 CB : Addr}
theorem scLaw : FnScope ["_law_script", "_law_deal_here", "_law_which", "_law_some", "_law_many", "_law_k"] ["_law_script"] (defScope sLaw) := ⟨rfl, rfl, rfl, by decide +kernel, rfl, by decide +kernel, by decide +kernel⟩
theorem ok_law {f : Addr} {fd : FuncData} (F : L2.Fun K "law" "law" sLaw f fd) (T : Top K mg a0 a1 a2 a3 a4 a5 CB) : FnG P w K mg base 4 f fd ["_law_script"] (spLaw K) := by
  have C_law_deal : C8.Cal P w K mg base 1 "_law_deal" (spDeal K) [] := ok_deal T
  have C_law_thing : C8.Cal P w K mg base 2 "_law_thing" spThing [] := ok_thing T
  have C_law_raised : C8.Cal P w K mg base 3 "_law_raised" spRaised [] := ok_raised T
  have C_law_taken : C8.Cal P w K mg base 3 "_law_taken" spTaken [] := ok_taken T
  refine ok_G F scLaw (fun vs H Q E h => ?_) (fun cdv A outer s H vs Q E gd hr h => ?_)
  · obtain ⟨a, ns, rfl, _⟩ := h
    rfl
  · obtain ⟨a, ns, rfl, hS, hl, k⟩ := h
    have hu := hu_of hr
    refine ⟨_, (pss_cons (ps_set (i := 1) scLaw.nd rfl (Or.inr rfl) (C8.pe_c C_law_deal hr (by omega) rfl (pa_cons (pv 0) pa_nil)))
  (pss_cons (ps_for PassesOwn.never rfl (pi_range1 rfl T.n_range (pa_cons pe_int pa_nil)) (pg_name (i := 2) scLaw.nd rfl (Or.inl rfl))
    (pss_cons (ps_setLc (i := 3) (own := [("_law_k", 5)]) rfl scLaw.nd rfl rfl (sw_true rfl rfl rfl (by decide +kernel)) (pi_range1 rfl T.n_range (pa_cons pe_int pa_nil)) (blkOk_by (own := [("_law_k", 5)]) (N := ["_law_script", "_law_deal_here", "_law_which", "_law_some", "_law_many", "_law_k"]) (sc := defScope sLaw) (by decide +kernel)) (fun _ _ _ _ _ => (pg_name (i := 5) scLaw.nd rfl (Or.inl rfl))) (fun _ _ _ _ _ => pts_nil) (fun _ _ _ _ _ => (C8.pe_c C_law_thing hr (by omega) rfl (pa_cons (pv 1) pa_nil))))
  (pss_cons (ps_set (i := 4) scLaw.nd rfl (Or.inl rfl) (pe_ix ix_list (pe_lst (pa_cons pe_int (pa_cons pe_int (pa_cons pe_int (pa_cons pe_int (pa_cons pe_int (pa_cons pe_int pa_nil))))))) (pv 2) (fun _ _ => rfl)))
  (pss_one (ps_if (pt_cmpR op_ne (pe_callB (Fb.call_reprD gd hr.units) (by rfl) T.n_repr (by decide +kernel) (pa_cons (C8.pe_c C_law_raised hr (by omega) rfl (pa_cons (pv 2) (pa_cons (pv 3) pa_nil))) pa_nil)) (pe_callB (Fb.call_reprD gd hr.units) (by rfl) T.n_repr (by decide +kernel) (pa_cons (pe_slice sl_list (pv 3) po_none (po_some (pv 4))) pa_nil)) (nomark _))
    (pss_one (ps_ret pe_bl))
    pss_nil)))))
  (pss_cons (ps_setLc (i := 3) (own := [("_law_k", 5)]) rfl scLaw.nd rfl rfl (sw_true rfl rfl rfl (by decide +kernel)) (pi_range1 rfl T.n_range (pa_cons pe_int pa_nil)) (blkOk_by (own := [("_law_k", 5)]) (N := ["_law_script", "_law_deal_here", "_law_which", "_law_some", "_law_many", "_law_k"]) (sc := defScope sLaw) (by decide +kernel)) (fun _ _ _ _ _ => (pg_name (i := 5) scLaw.nd rfl (Or.inl rfl))) (fun _ _ _ _ _ => pts_nil) (fun _ _ _ _ _ => (C8.pe_c C_law_thing hr (by omega) rfl (pa_cons (pv 1) pa_nil))))
  (pss_one (ps_ret (pe_cmpR op_eq (pe_callB (Fb.call_reprD gd hr.units) (by rfl) T.n_repr (by decide +kernel) (pa_cons (C8.pe_c C_law_taken hr (by omega) rfl (pa_cons (pv 3) pa_nil)) pa_nil)) (pe_callB (Fb.call_reprD gd hr.units) (by rfl) T.n_repr (by decide +kernel) (pa_cons (pv 3) pa_nil)) (nomark _))))))), ?_⟩
    refine ⟨_, rfl, a, ns, rfl, hS, hl, fun d l H1 nd nl D1 s1 => ?_⟩
    refine ⟨6, rfl, by decide, by decide, for_range (lo := 0) (n := 6) (fun i σ H2 => (∃ y2 y3 y4 : Option V, σ = [some (.ref a), some (.ref d), y2, y3, y4, none]) ∧ DealAt H2 d l) ⟨⟨none, none, none, rfl⟩, D1⟩ ?_ ?_⟩
    · rintro i σ H2 hi ⟨⟨y2, y3, y4, rfl⟩, D2⟩
      refine ⟨3, rfl, by decide, by decide, fun p np => lc_range (lo := 0) (n := 3) (fun j H3 => DealAt H3 d l ∧ ∃ vs ds, H3 p = some (.lst vs) ∧ vs.length = j ∧ Paired Atom vs ds) ⟨D2.same (same_new np), [], [], upd_same, rfl, .nil⟩ ?_ ?_⟩
      · rintro j H3 hj ⟨D3, vs, ds, hp, lv, pa⟩
        have pd := D2.d_ne np
        have pl := D2.l_ne np
        refine ⟨rfl, _, rfl, d, l, rfl, D3, fun v y H4 av D4 K4 => ?_⟩
        exact ⟨vs, K4 p _ hp pd pl, small1000 (by omega), D4.upd pd pl, vs ++ [v], ds ++ [y], upd_same, by rw [List.length_append, lv]; rfl, pair_snoc av pa⟩
      · rintro H3 ⟨D3, vs, ds, hp, lv, pa⟩
        obtain ⟨v0, v1, v2, rfl⟩ : ∃ v0 v1 v2, vs = [v0, v1, v2] := by
          match vs, lv with
          | [v0, v1, v2], _ => exact ⟨v0, v1, v2, rfl⟩
        cases pa with
        | @cons _ e0 _ _ b0 pa =>
          cases pa with
          | @cons _ e1 _ _ b1 pa =>
            cases pa with
            | @cons _ e2 _ _ b2 pa =>
              cases pa
              have c6 : i = 0 ∨ i = 1 ∨ i = 2 ∨ i = 3 ∨ i = 4 ∨ i = 5 := by omega
              have s4 : ∀ q o, H3 q = none → Same H3 (L2.upd H3 q o) := fun q o nq => same_new nq
              rcases c6 with rfl | rfl | rfl | rfl | rfl | rfl
              · have pa : Paired Atom [v0] [e0] := (.cons b0 .nil)
                have sh := at_list pa (show 1 ≤ 3 by decide)
                refine ⟨fit (show 6 ≤ 1000 by decide), fun q nq => ⟨_, rfl, q, _, _, _, rfl, rfl, SqL.of upd_same, rfl, ?_⟩⟩
                have hp4 := s4 q (.lst [.int 1, .int 3, .int 2, .int 0, .int 1, .int 0]) nq _ _ hp
                have D4 := D3.same (s4 q (.lst [.int 1, .int 3, .int 2, .int 0, .int 1, .int 0]) nq)
                refine ⟨_, rfl, _, rfl, 0, p, v0, v1, v2, rfl, hi, hp4, fun r H5 nr hr5 s5 => ?_⟩
                refine ⟨r, _, rfl, .lst (SqL.of hr5) (at_dps pa), sh.sw, sh.nd, Nat.le_trans sh.dp (by decide), Nat.le_trans sh.ln (by decide), ?_⟩
                refine ⟨_, rfl, _, rfl, 1, rfl, p, _, rfl, SqL.of (s5 _ _ hp4), fun c nc => ?_⟩
                have s6 := same_new (o := .lst [v0]) nc
                exact ⟨c, _, rfl, .lst (SqL.of upd_same) (at_dps pa), sh.sw, sh.nd, Nat.le_trans sh.dp (by decide), Nat.le_trans sh.ln (by decide), rfl, _, rfl, iteNS rfl ⟨⟨_, _, _, rfl⟩, D4.same (s5.trans s6)⟩⟩
              · have pa : Paired Atom [v0, v1, v2] [e0, e1, e2] := (.cons b0 (.cons b1 (.cons b2 .nil)))
                have sh := at_list pa (show 3 ≤ 3 by decide)
                refine ⟨fit (show 6 ≤ 1000 by decide), fun q nq => ⟨_, rfl, q, _, _, _, rfl, rfl, SqL.of upd_same, rfl, ?_⟩⟩
                have hp4 := s4 q (.lst [.int 1, .int 3, .int 2, .int 0, .int 1, .int 0]) nq _ _ hp
                have D4 := D3.same (s4 q (.lst [.int 1, .int 3, .int 2, .int 0, .int 1, .int 0]) nq)
                refine ⟨_, rfl, _, rfl, 1, p, v0, v1, v2, rfl, hi, hp4, fun r H5 nr hr5 s5 => ?_⟩
                refine ⟨r, _, rfl, .lst (SqL.of hr5) (at_dps pa), sh.sw, sh.nd, Nat.le_trans sh.dp (by decide), Nat.le_trans sh.ln (by decide), ?_⟩
                refine ⟨_, rfl, _, rfl, 3, rfl, p, _, rfl, SqL.of (s5 _ _ hp4), fun c nc => ?_⟩
                have s6 := same_new (o := .lst [v0, v1, v2]) nc
                exact ⟨c, _, rfl, .lst (SqL.of upd_same) (at_dps pa), sh.sw, sh.nd, Nat.le_trans sh.dp (by decide), Nat.le_trans sh.ln (by decide), rfl, _, rfl, iteNS rfl ⟨⟨_, _, _, rfl⟩, D4.same (s5.trans s6)⟩⟩
              · have pa : Paired Atom [v0, v1] [e0, e1] := (.cons b0 (.cons b1 .nil))
                have sh := at_list pa (show 2 ≤ 3 by decide)
                refine ⟨fit (show 6 ≤ 1000 by decide), fun q nq => ⟨_, rfl, q, _, _, _, rfl, rfl, SqL.of upd_same, rfl, ?_⟩⟩
                have hp4 := s4 q (.lst [.int 1, .int 3, .int 2, .int 0, .int 1, .int 0]) nq _ _ hp
                have D4 := D3.same (s4 q (.lst [.int 1, .int 3, .int 2, .int 0, .int 1, .int 0]) nq)
                refine ⟨_, rfl, _, rfl, 2, p, v0, v1, v2, rfl, hi, hp4, fun r H5 nr hr5 s5 => ?_⟩
                refine ⟨r, _, rfl, .lst (SqL.of hr5) (at_dps pa), sh.sw, sh.nd, Nat.le_trans sh.dp (by decide), Nat.le_trans sh.ln (by decide), ?_⟩
                refine ⟨_, rfl, _, rfl, 2, rfl, p, _, rfl, SqL.of (s5 _ _ hp4), fun c nc => ?_⟩
                have s6 := same_new (o := .lst [v0, v1]) nc
                exact ⟨c, _, rfl, .lst (SqL.of upd_same) (at_dps pa), sh.sw, sh.nd, Nat.le_trans sh.dp (by decide), Nat.le_trans sh.ln (by decide), rfl, _, rfl, iteNS rfl ⟨⟨_, _, _, rfl⟩, D4.same (s5.trans s6)⟩⟩
              · have pa : Paired Atom [] [] := .nil
                have sh := at_list pa (show 0 ≤ 3 by decide)
                refine ⟨fit (show 6 ≤ 1000 by decide), fun q nq => ⟨_, rfl, q, _, _, _, rfl, rfl, SqL.of upd_same, rfl, ?_⟩⟩
                have hp4 := s4 q (.lst [.int 1, .int 3, .int 2, .int 0, .int 1, .int 0]) nq _ _ hp
                have D4 := D3.same (s4 q (.lst [.int 1, .int 3, .int 2, .int 0, .int 1, .int 0]) nq)
                refine ⟨_, rfl, _, rfl, 3, p, v0, v1, v2, rfl, hi, hp4, fun r H5 nr hr5 s5 => ?_⟩
                refine ⟨r, _, rfl, .lst (SqL.of hr5) (at_dps pa), sh.sw, sh.nd, Nat.le_trans sh.dp (by decide), Nat.le_trans sh.ln (by decide), ?_⟩
                refine ⟨_, rfl, _, rfl, 0, rfl, p, _, rfl, SqL.of (s5 _ _ hp4), fun c nc => ?_⟩
                have s6 := same_new (o := .lst []) nc
                exact ⟨c, _, rfl, .lst (SqL.of upd_same) (at_dps pa), sh.sw, sh.nd, Nat.le_trans sh.dp (by decide), Nat.le_trans sh.ln (by decide), rfl, _, rfl, iteNS rfl ⟨⟨_, _, _, rfl⟩, D4.same (s5.trans s6)⟩⟩
              · have pa : Paired Atom [v0] [e0] := (.cons b0 .nil)
                have sh := at_list pa (show 1 ≤ 3 by decide)
                refine ⟨fit (show 6 ≤ 1000 by decide), fun q nq => ⟨_, rfl, q, _, _, _, rfl, rfl, SqL.of upd_same, rfl, ?_⟩⟩
                have hp4 := s4 q (.lst [.int 1, .int 3, .int 2, .int 0, .int 1, .int 0]) nq _ _ hp
                have D4 := D3.same (s4 q (.lst [.int 1, .int 3, .int 2, .int 0, .int 1, .int 0]) nq)
                refine ⟨_, rfl, _, rfl, 4, p, v0, v1, v2, rfl, hi, hp4, fun r H5 nr hr5 s5 => ?_⟩
                refine ⟨r, _, rfl, .lst (SqL.of hr5) (at_dps pa), sh.sw, sh.nd, Nat.le_trans sh.dp (by decide), Nat.le_trans sh.ln (by decide), ?_⟩
                refine ⟨_, rfl, _, rfl, 1, rfl, p, _, rfl, SqL.of (s5 _ _ hp4), fun c nc => ?_⟩
                have s6 := same_new (o := .lst [v0]) nc
                exact ⟨c, _, rfl, .lst (SqL.of upd_same) (at_dps pa), sh.sw, sh.nd, Nat.le_trans sh.dp (by decide), Nat.le_trans sh.ln (by decide), rfl, _, rfl, iteNS rfl ⟨⟨_, _, _, rfl⟩, D4.same (s5.trans s6)⟩⟩
              · have pa : Paired Atom [] [] := .nil
                have sh := at_list pa (show 0 ≤ 3 by decide)
                refine ⟨fit (show 6 ≤ 1000 by decide), fun q nq => ⟨_, rfl, q, _, _, _, rfl, rfl, SqL.of upd_same, rfl, ?_⟩⟩
                have hp4 := s4 q (.lst [.int 1, .int 3, .int 2, .int 0, .int 1, .int 0]) nq _ _ hp
                have D4 := D3.same (s4 q (.lst [.int 1, .int 3, .int 2, .int 0, .int 1, .int 0]) nq)
                refine ⟨_, rfl, _, rfl, 5, p, v0, v1, v2, rfl, hi, hp4, fun r H5 nr hr5 s5 => ?_⟩
                refine ⟨r, _, rfl, .lst (SqL.of hr5) (at_dps pa), sh.sw, sh.nd, Nat.le_trans sh.dp (by decide), Nat.le_trans sh.ln (by decide), ?_⟩
                refine ⟨_, rfl, _, rfl, 0, rfl, p, _, rfl, SqL.of (s5 _ _ hp4), fun c nc => ?_⟩
                have s6 := same_new (o := .lst []) nc
                exact ⟨c, _, rfl, .lst (SqL.of upd_same) (at_dps pa), sh.sw, sh.nd, Nat.le_trans sh.dp (by decide), Nat.le_trans sh.ln (by decide), rfl, _, rfl, iteNS rfl ⟨⟨_, _, _, rfl⟩, D4.same (s5.trans s6)⟩⟩
    · rintro σ H2 ⟨⟨y2, y3, y4, rfl⟩, D2⟩
      refine ⟨2, rfl, by decide, by decide, fun p np => lc_range (lo := 0) (n := 2) (fun j H3 => DealAt H3 d l ∧ ∃ vs ds, H3 p = some (.lst vs) ∧ vs.length = j ∧ Paired Atom vs ds) ⟨D2.same (same_new np), [], [], upd_same, rfl, .nil⟩ ?_ ?_⟩
      · rintro j H3 hj ⟨D3, vs, ds, hp, lv, pa⟩
        have pd := D2.d_ne np
        have pl := D2.l_ne np
        refine ⟨rfl, _, rfl, d, l, rfl, D3, fun v y H4 av D4 K4 => ?_⟩
        exact ⟨vs, K4 p _ hp pd pl, small1000 (by omega), D4.upd pd pl, vs ++ [v], ds ++ [y], upd_same, by rw [List.length_append, lv]; rfl, pair_snoc av pa⟩
      · rintro H3 ⟨D3, vs, ds, hp, lv, pa⟩
        obtain ⟨v0, v1, rfl⟩ : ∃ v0 v1, vs = [v0, v1] := by
          match vs, lv with
          | [v0, v1], _ => exact ⟨v0, v1, rfl⟩
        have sh := at_list pa (by rw [← pa.length]; show 2 ≤ 3; decide)
        refine ⟨_, rfl, p, v0, v1, rfl, hp, fun r H4 nr hr4 s4 => ?_⟩
        refine ⟨r, _, rfl, .lst (SqL.of hr4) (at_dps pa), sh.sw, sh.nd, Nat.le_trans sh.dp (by decide), Nat.le_trans sh.ln (by decide), ?_⟩
        refine ⟨_, rfl, p, _, rfl, .lst (SqL.of (s4 _ _ hp)) (at_dps pa), sh.sw, sh.nd, Nat.le_trans sh.dp (by decide), Nat.le_trans sh.ln (by decide), rfl, ?_⟩
        have kk := k H4
        show Q (.bl (decide _)) H4
        rw [decide_eq_true rfl]
        exact kk
end
end K02
set_option Elab.async false
set_option linter.all false
set_option maxRecDepth 100000
namespace K02
open PySem PySem.W PyProof.Rows L2 Fb
theorem fin {l : OpenLaw} {w : World} {K : Frag} {h : Heap} {mg : Str → Option Value} {fa f2 a0 a1 a2 a3 a4 a5 CB : Addr} {od2 an2 : Option Addr} {sl2 : Array (Option Value)} {oc2 kV2 dc2 pm2 cd2 ct2 : Value} (X : K.In h) (G : h.Ns mainGlobals mg) (hfa : mg "law" = some (.ref fa)) (T : Top K mg a0 a1 a2 a3 a4 a5 CB)
    (a2 : nsIn K mainGlobals "law" = some (some (.ref f2))) (l2 : K.lookup f2 = some ⟨oc2, od2, .func (fnOf "law" "law" (defArgs sLaw) (defBody sLaw) (defScope sLaw) .none kV2 dc2 pm2 an2 cd2 ct2), sl2⟩) (c2 : codeIn K cd2 "law" = true) (k2 : keepIn K (.ref f2) = true) :
    ∃ fd : FuncData, (∀ (s : Shared) (v : Value), BindsTo s fd ⟨[v], []⟩ [("_law_script", v)]) ∧ ∀ base : Heap, K.In base → base.Ns mainGlobals mg → FnG l.prog w K mg base 4 fa fd ["_law_script"] (spLaw K) := by
  have e := hfa.symm.trans (mg_of X G a2)
  cases e
  exact ⟨_, fun s v => .of_eq rfl, fun base _ _ => ok_law (fun_mk (st := sLaw) l2 c2 k2) T⟩
end K02
open PySem PySem.W PyProof.Rows L2
set_option maxHeartbeats 0 in
theorem PySem.Challenge.cw_fourbind_k02_refusals_made_holds : PySem.Challenge.rw_fourbind_k02_refusals_made.Holds := by
  w_on; o_law; k_head; (case hw => w_witness2)
  k_fill
  refine Fb.walk_G (l := PySem.Challenge.rw_fourbind_k02_refusals_made) (n := 63) (k := 4) (x := "_law_script") (sp := fun w => K02.spLaw _) rfl (by decide) rfl ⟨rfl, by decide, by decide⟩ (fun w h Y => PySem.W.kIn_of Y) ?F (fun _ _ a ns hl hS => ⟨a, ns, rfl, hS, hl, fun _ => rfl⟩)
  case F =>
    intro w mg fa h KX G XP hmg
    refine' K02.fin KX G hmg (K02.Top.mk (mg_none_of KX G ?n_len) (mg_none_of KX G ?n_max) (mg_none_of KX G ?n_list) (mg_none_of KX G ?n_reversed) (mg_none_of KX G ?n_range) (mg_none_of KX G ?n_isinstance) (mg_none_of KX G ?n_repr) (mg_none_of KX G ?n_ValueError) (mg_of KX G ?mm_B) (Fb.cn_in KX G ?mc_0 ?me_0) (mg_of KX G ?mm_0) ⟨?xg_0, ?xk_0, ?xs_0, ?xd_0, ?xa_0, ?xn_0, ?xt_0, ?xm_0⟩ (Fb.kit_ty (by decide +kernel) ?vs_0) (PySem.W.exm_ref ?b1_0 ?b2_0 ?b3_0 ?b4_0) (Fb.kit_not ?kn_0_1 ?kc_0_1 ?kt_0_1 ?ks_0_1) (Fb.kit_not ?kn_0_2 ?kc_0_2 ?kt_0_2 ?ks_0_2) (Fb.kit_not ?kn_0_3 ?kc_0_3 ?kt_0_3 ?ks_0_3) (Fb.kit_not ?kn_0_4 ?kc_0_4 ?kt_0_4 ?ks_0_4) (Fb.kit_not ?kn_0_5 ?kc_0_5 ?kt_0_5 ?ks_0_5) (Fb.oex_of ?ol_0 ?or_0 ?os_0 ?oe_0 ?ot_0 ?ok_0) ⟨?fg_0, ?fk_0, ?fe_0, ?fd_0⟩ ?nf_0_row ⟨_, _, fun_mk ?il_0 ?ic_0 ?ik_0, ?ii_0, ?if_0⟩ (Fb.cn_in KX G ?mc_1 ?me_1) (mg_of KX G ?mm_1) ⟨?xg_1, ?xk_1, ?xs_1, ?xd_1, ?xa_1, ?xn_1, ?xt_1, ?xm_1⟩ (Fb.kit_ty (by decide +kernel) ?vs_1) (PySem.W.exm_ref ?b1_1 ?b2_1 ?b3_1 ?b4_1) (Fb.kit_not ?kn_1_0 ?kc_1_0 ?kt_1_0 ?ks_1_0) (Fb.kit_not ?kn_1_2 ?kc_1_2 ?kt_1_2 ?ks_1_2) (Fb.kit_not ?kn_1_3 ?kc_1_3 ?kt_1_3 ?ks_1_3) (Fb.kit_not ?kn_1_4 ?kc_1_4 ?kt_1_4 ?ks_1_4) (Fb.kit_not ?kn_1_5 ?kc_1_5 ?kt_1_5 ?ks_1_5) (Fb.oex_of ?ol_1 ?or_1 ?os_1 ?oe_1 ?ot_1 ?ok_1) ⟨?fg_1, ?fk_1, ?fe_1, ?fd_1⟩ ?nf_1_word ?nf_1_at ?nf_1_name ⟨_, _, fun_mk ?il_1 ?ic_1 ?ik_1, ?ii_1, ?if_1⟩ (Fb.cn_in KX G ?mc_2 ?me_2) (mg_of KX G ?mm_2) ⟨?xg_2, ?xk_2, ?xs_2, ?xd_2, ?xa_2, ?xn_2, ?xt_2, ?xm_2⟩ (Fb.kit_ty (by decide +kernel) ?vs_2) (PySem.W.exm_ref ?b1_2 ?b2_2 ?b3_2 ?b4_2) (Fb.kit_not ?kn_2_0 ?kc_2_0 ?kt_2_0 ?ks_2_0) (Fb.kit_not ?kn_2_1 ?kc_2_1 ?kt_2_1 ?ks_2_1) (Fb.kit_not ?kn_2_3 ?kc_2_3 ?kt_2_3 ?ks_2_3) (Fb.kit_not ?kn_2_4 ?kc_2_4 ?kt_2_4 ?ks_2_4) (Fb.kit_not ?kn_2_5 ?kc_2_5 ?kt_2_5 ?ks_2_5) (Fb.oex_of ?ol_2 ?or_2 ?os_2 ?oe_2 ?ot_2 ?ok_2) ⟨?fg_2, ?fk_2, ?fe_2, ?fd_2⟩ ?nf_2_word ?nf_2_at ⟨_, _, fun_mk ?il_2 ?ic_2 ?ik_2, ?ii_2, ?if_2⟩ (Fb.cn_in KX G ?mc_3 ?me_3) (mg_of KX G ?mm_3) ⟨?xg_3, ?xk_3, ?xs_3, ?xd_3, ?xa_3, ?xn_3, ?xt_3, ?xm_3⟩ (Fb.kit_ty (by decide +kernel) ?vs_3) (PySem.W.exm_ref ?b1_3 ?b2_3 ?b3_3 ?b4_3) (Fb.kit_not ?kn_3_0 ?kc_3_0 ?kt_3_0 ?ks_3_0) (Fb.kit_not ?kn_3_1 ?kc_3_1 ?kt_3_1 ?ks_3_1) (Fb.kit_not ?kn_3_2 ?kc_3_2 ?kt_3_2 ?ks_3_2) (Fb.kit_not ?kn_3_4 ?kc_3_4 ?kt_3_4 ?ks_3_4) (Fb.kit_not ?kn_3_5 ?kc_3_5 ?kt_3_5 ?ks_3_5) ?e_3 ?p_3 ?s_3 ?t_3 (Fb.cn_in KX G ?mc_4 ?me_4) (mg_of KX G ?mm_4) ⟨?xg_4, ?xk_4, ?xs_4, ?xd_4, ?xa_4, ?xn_4, ?xt_4, ?xm_4⟩ (Fb.kit_ty (by decide +kernel) ?vs_4) (PySem.W.exm_ref ?b1_4 ?b2_4 ?b3_4 ?b4_4) (Fb.kit_not ?kn_4_0 ?kc_4_0 ?kt_4_0 ?ks_4_0) (Fb.kit_not ?kn_4_1 ?kc_4_1 ?kt_4_1 ?ks_4_1) (Fb.kit_not ?kn_4_2 ?kc_4_2 ?kt_4_2 ?ks_4_2) (Fb.kit_not ?kn_4_3 ?kc_4_3 ?kt_4_3 ?ks_4_3) (Fb.kit_not ?kn_4_5 ?kc_4_5 ?kt_4_5 ?ks_4_5) (Fb.oex_of ?ol_4 ?or_4 ?os_4 ?oe_4 ?ot_4 ?ok_4) ⟨?fg_4, ?fk_4, ?fe_4, ?fd_4⟩ ?nf_4_name ⟨_, _, fun_mk ?il_4 ?ic_4 ?ik_4, ?ii_4, ?if_4⟩ (Fb.cn_in KX G ?mc_5 ?me_5) (mg_of KX G ?mm_5) ⟨?xg_5, ?xk_5, ?xs_5, ?xd_5, ?xa_5, ?xn_5, ?xt_5, ?xm_5⟩ (Fb.kit_ty (by decide +kernel) ?vs_5) (PySem.W.exm_ref ?b1_5 ?b2_5 ?b3_5 ?b4_5) (Fb.kit_not ?kn_5_0 ?kc_5_0 ?kt_5_0 ?ks_5_0) (Fb.kit_not ?kn_5_1 ?kc_5_1 ?kt_5_1 ?ks_5_1) (Fb.kit_not ?kn_5_2 ?kc_5_2 ?kt_5_2 ?ks_5_2) (Fb.kit_not ?kn_5_3 ?kc_5_3 ?kt_5_3 ?ks_5_3) (Fb.kit_not ?kn_5_4 ?kc_5_4 ?kt_5_4 ?ks_5_4) ?e_5 ?p_5 ?s_5 ?t_5 (PySem.W.exm_ref ?z1 ?z2 ?z3 ?z4) (PySem.W.exm_ref ?y1 ?y2 ?y3 ?y4) (Fb.has_mk KX G ?da_deal ?dl_deal ?dc_deal ?dk_deal) (Fb.has_mk KX G ?da_draw ?dl_draw ?dc_draw ?dk_draw) (Fb.has_mk KX G ?da_thing ?dl_thing ?dc_thing ?dk_thing) (Fb.has_mk KX G ?da_sorts ?dl_sorts ?dc_sorts ?dk_sorts) (Fb.has_mk KX G ?da_raised ?dl_raised ?dc_raised ?dk_raised) (Fb.has_mk KX G ?da_fields ?dl_fields ?dc_fields ?dk_fields) (Fb.has_mk KX G ?da_taken ?dl_taken ?dc_taken ?dk_taken)) ?a2 ?l2 ?c2 ?k2
    (case mm_B => k_is)
    (case mm_0 => k_is)
    (case mm_1 => k_is)
    (case mm_2 => k_is)
    (case mm_3 => k_is)
    (case mm_4 => k_is)
    (case mm_5 => k_is)
    (case mc_0 => k_is)
    (case mc_1 => k_is)
    (case mc_2 => k_is)
    (case mc_3 => k_is)
    (case mc_4 => k_is)
    (case mc_5 => k_is)
    (case me_0 => rfl)
    (case me_1 => rfl)
    (case me_2 => rfl)
    (case me_3 => rfl)
    (case me_4 => rfl)
    (case me_5 => rfl)
    (case ii_0 => k_is)
    (case ii_1 => k_is)
    (case ii_2 => k_is)
    (case ii_4 => k_is)
    (case da_deal => k_is)
    (case da_draw => k_is)
    (case da_thing => k_is)
    (case da_sorts => k_is)
    (case da_raised => k_is)
    (case da_fields => k_is)
    (case da_taken => k_is)
    (case ol_0 => k_is)
    (case il_0 => k_is)
    (case ol_1 => k_is)
    (case il_1 => k_is)
    (case ol_2 => k_is)
    (case il_2 => k_is)
    (case ol_4 => k_is)
    (case il_4 => k_is)
    (case dl_deal => k_is)
    (case dl_draw => k_is)
    (case dl_thing => k_is)
    (case dl_sorts => k_is)
    (case dl_raised => k_is)
    (case dl_fields => k_is)
    (case dl_taken => k_is)
    (case n_len => k_is)
    (case n_max => k_is)
    (case n_list => k_is)
    (case n_reversed => k_is)
    (case n_range => k_is)
    (case n_isinstance => k_is)
    (case n_repr => k_is)
    (case n_ValueError => k_is)
    (case xg_0 => k_is)
    (case xk_0 => k_is)
    (case xs_0 => k_is)
    (case xd_0 => k_is)
    (case xa_0 => k_is)
    (case xn_0 => k_is)
    (case xt_0 => k_is)
    (case xm_0 => k_is)
    (case vs_0 => k_is)
    (case b1_0 => k_is)
    (case b2_0 => k_is)
    (case b3_0 => k_is)
    (case b4_0 => k_is)
    (case kn_0_1 => decide)
    (case kc_0_1 => k_is)
    (case kt_0_1 => k_is)
    (case ks_0_1 => k_is)
    (case kn_0_2 => decide)
    (case kc_0_2 => k_is)
    (case kt_0_2 => k_is)
    (case ks_0_2 => k_is)
    (case kn_0_3 => decide)
    (case kc_0_3 => k_is)
    (case kt_0_3 => k_is)
    (case ks_0_3 => k_is)
    (case kn_0_4 => decide)
    (case kc_0_4 => k_is)
    (case kt_0_4 => k_is)
    (case ks_0_4 => k_is)
    (case kn_0_5 => decide)
    (case kc_0_5 => k_is)
    (case kt_0_5 => k_is)
    (case ks_0_5 => k_is)
    (case or_0 => rfl)
    (case os_0 => k_is)
    (case oe_0 => k_is)
    (case ot_0 => k_is)
    (case ok_0 => k_is)
    (case fg_0 => k_is)
    (case fk_0 => k_is)
    (case fe_0 => k_is)
    (case fd_0 => k_is)
    (case nf_0_row => k_is)
    (case ic_0 => k_is)
    (case ik_0 => k_is)
    (case if_0 => k_is)
    (case xg_1 => k_is)
    (case xk_1 => k_is)
    (case xs_1 => k_is)
    (case xd_1 => k_is)
    (case xa_1 => k_is)
    (case xn_1 => k_is)
    (case xt_1 => k_is)
    (case xm_1 => k_is)
    (case vs_1 => k_is)
    (case b1_1 => k_is)
    (case b2_1 => k_is)
    (case b3_1 => k_is)
    (case b4_1 => k_is)
    (case kn_1_0 => decide)
    (case kc_1_0 => k_is)
    (case kt_1_0 => k_is)
    (case ks_1_0 => k_is)
    (case kn_1_2 => decide)
    (case kc_1_2 => k_is)
    (case kt_1_2 => k_is)
    (case ks_1_2 => k_is)
    (case kn_1_3 => decide)
    (case kc_1_3 => k_is)
    (case kt_1_3 => k_is)
    (case ks_1_3 => k_is)
    (case kn_1_4 => decide)
    (case kc_1_4 => k_is)
    (case kt_1_4 => k_is)
    (case ks_1_4 => k_is)
    (case kn_1_5 => decide)
    (case kc_1_5 => k_is)
    (case kt_1_5 => k_is)
    (case ks_1_5 => k_is)
    (case or_1 => rfl)
    (case os_1 => k_is)
    (case oe_1 => k_is)
    (case ot_1 => k_is)
    (case ok_1 => k_is)
    (case fg_1 => k_is)
    (case fk_1 => k_is)
    (case fe_1 => k_is)
    (case fd_1 => k_is)
    (case nf_1_word => k_is)
    (case nf_1_at => k_is)
    (case nf_1_name => k_is)
    (case ic_1 => k_is)
    (case ik_1 => k_is)
    (case if_1 => k_is)
    (case xg_2 => k_is)
    (case xk_2 => k_is)
    (case xs_2 => k_is)
    (case xd_2 => k_is)
    (case xa_2 => k_is)
    (case xn_2 => k_is)
    (case xt_2 => k_is)
    (case xm_2 => k_is)
    (case vs_2 => k_is)
    (case b1_2 => k_is)
    (case b2_2 => k_is)
    (case b3_2 => k_is)
    (case b4_2 => k_is)
    (case kn_2_0 => decide)
    (case kc_2_0 => k_is)
    (case kt_2_0 => k_is)
    (case ks_2_0 => k_is)
    (case kn_2_1 => decide)
    (case kc_2_1 => k_is)
    (case kt_2_1 => k_is)
    (case ks_2_1 => k_is)
    (case kn_2_3 => decide)
    (case kc_2_3 => k_is)
    (case kt_2_3 => k_is)
    (case ks_2_3 => k_is)
    (case kn_2_4 => decide)
    (case kc_2_4 => k_is)
    (case kt_2_4 => k_is)
    (case ks_2_4 => k_is)
    (case kn_2_5 => decide)
    (case kc_2_5 => k_is)
    (case kt_2_5 => k_is)
    (case ks_2_5 => k_is)
    (case or_2 => rfl)
    (case os_2 => k_is)
    (case oe_2 => k_is)
    (case ot_2 => k_is)
    (case ok_2 => k_is)
    (case fg_2 => k_is)
    (case fk_2 => k_is)
    (case fe_2 => k_is)
    (case fd_2 => k_is)
    (case nf_2_word => k_is)
    (case nf_2_at => k_is)
    (case ic_2 => k_is)
    (case ik_2 => k_is)
    (case if_2 => k_is)
    (case xg_3 => k_is)
    (case xk_3 => k_is)
    (case xs_3 => k_is)
    (case xd_3 => k_is)
    (case xa_3 => k_is)
    (case xn_3 => k_is)
    (case xt_3 => k_is)
    (case xm_3 => k_is)
    (case vs_3 => k_is)
    (case b1_3 => k_is)
    (case b2_3 => k_is)
    (case b3_3 => k_is)
    (case b4_3 => k_is)
    (case kn_3_0 => decide)
    (case kc_3_0 => k_is)
    (case kt_3_0 => k_is)
    (case ks_3_0 => k_is)
    (case kn_3_1 => decide)
    (case kc_3_1 => k_is)
    (case kt_3_1 => k_is)
    (case ks_3_1 => k_is)
    (case kn_3_2 => decide)
    (case kc_3_2 => k_is)
    (case kt_3_2 => k_is)
    (case ks_3_2 => k_is)
    (case kn_3_4 => decide)
    (case kc_3_4 => k_is)
    (case kt_3_4 => k_is)
    (case ks_3_4 => k_is)
    (case kn_3_5 => decide)
    (case kc_3_5 => k_is)
    (case kt_3_5 => k_is)
    (case ks_3_5 => k_is)
    (case e_3 => kernel_rfl)
    (case p_3 => k_is)
    (case s_3 => k_is)
    (case t_3 => k_is)
    (case xg_4 => k_is)
    (case xk_4 => k_is)
    (case xs_4 => k_is)
    (case xd_4 => k_is)
    (case xa_4 => k_is)
    (case xn_4 => k_is)
    (case xt_4 => k_is)
    (case xm_4 => k_is)
    (case vs_4 => k_is)
    (case b1_4 => k_is)
    (case b2_4 => k_is)
    (case b3_4 => k_is)
    (case b4_4 => k_is)
    (case kn_4_0 => decide)
    (case kc_4_0 => k_is)
    (case kt_4_0 => k_is)
    (case ks_4_0 => k_is)
    (case kn_4_1 => decide)
    (case kc_4_1 => k_is)
    (case kt_4_1 => k_is)
    (case ks_4_1 => k_is)
    (case kn_4_2 => decide)
    (case kc_4_2 => k_is)
    (case kt_4_2 => k_is)
    (case ks_4_2 => k_is)
    (case kn_4_3 => decide)
    (case kc_4_3 => k_is)
    (case kt_4_3 => k_is)
    (case ks_4_3 => k_is)
    (case kn_4_5 => decide)
    (case kc_4_5 => k_is)
    (case kt_4_5 => k_is)
    (case ks_4_5 => k_is)
    (case or_4 => rfl)
    (case os_4 => k_is)
    (case oe_4 => k_is)
    (case ot_4 => k_is)
    (case ok_4 => k_is)
    (case fg_4 => k_is)
    (case fk_4 => k_is)
    (case fe_4 => k_is)
    (case fd_4 => k_is)
    (case nf_4_name => k_is)
    (case ic_4 => k_is)
    (case ik_4 => k_is)
    (case if_4 => k_is)
    (case xg_5 => k_is)
    (case xk_5 => k_is)
    (case xs_5 => k_is)
    (case xd_5 => k_is)
    (case xa_5 => k_is)
    (case xn_5 => k_is)
    (case xt_5 => k_is)
    (case xm_5 => k_is)
    (case vs_5 => k_is)
    (case b1_5 => k_is)
    (case b2_5 => k_is)
    (case b3_5 => k_is)
    (case b4_5 => k_is)
    (case kn_5_0 => decide)
    (case kc_5_0 => k_is)
    (case kt_5_0 => k_is)
    (case ks_5_0 => k_is)
    (case kn_5_1 => decide)
    (case kc_5_1 => k_is)
    (case kt_5_1 => k_is)
    (case ks_5_1 => k_is)
    (case kn_5_2 => decide)
    (case kc_5_2 => k_is)
    (case kt_5_2 => k_is)
    (case ks_5_2 => k_is)
    (case kn_5_3 => decide)
    (case kc_5_3 => k_is)
    (case kt_5_3 => k_is)
    (case ks_5_3 => k_is)
    (case kn_5_4 => decide)
    (case kc_5_4 => k_is)
    (case kt_5_4 => k_is)
    (case ks_5_4 => k_is)
    (case e_5 => kernel_rfl)
    (case p_5 => k_is)
    (case s_5 => k_is)
    (case t_5 => k_is)
    (case z1 => k_is)
    (case z2 => k_is)
    (case z3 => k_is)
    (case z4 => k_is)
    (case y1 => k_is)
    (case y2 => k_is)
    (case y3 => k_is)
    (case y4 => k_is)
    (case dc_deal => k_is)
    (case dk_deal => k_is)
    (case dc_draw => k_is)
    (case dk_draw => k_is)
    (case dc_thing => k_is)
    (case dk_thing => k_is)
    (case dc_sorts => k_is)
    (case dk_sorts => k_is)
    (case dc_raised => k_is)
    (case dk_raised => k_is)
    (case dc_fields => k_is)
    (case dk_fields => k_is)
    (case dc_taken => k_is)
    (case dk_taken => k_is)
    (case a2 => k_is)
    (case l2 => k_is)
    (case c2 => k_is)
    (case k2 => k_is)

