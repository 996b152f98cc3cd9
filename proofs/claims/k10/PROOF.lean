import PyProof.Rows.All
import Wide.All
import OpenK.AllK
import Wide.FinOn
import HandS.ForMost
import HandS.RaiseMore
import HandS.StrMore
import HandS.Rev
import HandS.Wide
import HandS.Walk
import HandS.Codes
import HandS.Ends
import HandS.TupAny
import HandS.Deep
import HandS.IsInst
import HandS.Style
import HandS.ExcOwn
import KE.KExcIs
import HandS.Exc
import HandS.ExcCtx
import HandS.ExcInit
import HandS.ExcIs
import HandS.ExcField
import HandS.HotCalls
import HandS.Zip
import KE.GoesEnum
import KE.KDictZip
import KE.GoesNew
import HandS.Star
import HandS.Small
import HandS.TryOnly
import HandS.More
import PySem.Challenge.RW_fourbind_k10_whole_any_rows
set_option Elab.async false
set_option linter.all false
set_option maxRecDepth 100000
set_option maxHeartbeats 2000000
namespace Fb
open PySem PySem.Spec PyProof.Rows
/-! list(reversed(xs)), at the library's level -/
abbrev nilL : Obj := { cls := .type "list", data := .seq #[] }
section
variable {prog : Program} {w : World} {A : Around} {E : Value → Shared → Prop} {s : Shared}
abbrev FromEnd (items acc : Array Value) : Prop := ItemsOf (fun i v => items[items.size - 1 - i]? = some v) acc items.size
theorem ext_rev {it l S : Addr} {items : Array Value} {c0 : Nat} {R : Result → Shared → Prop} (hh : A.handled = none)
    (hit : s.heap.IsRevIter it l ((items.size : Int) - 1)) (hl : s.heap.IsList l items) (hne : l ≠ it) (hn : items.size ≤ sizeLine) (hSi : S ≠ it) (hSl : S ≠ l)
    (hS : s.heap.get? S = some { cls := .type "list", data := .seq #[] c0 })
    (hR : ∀ h' tk acc c, (∀ b o, b ≠ S → b ≠ it → s.heap.get? b = some o → h'.get? b = some o) →
      h'.get? S = some { cls := .type "list", dict := none, data := .seq acc c, slots := #[] } → FromEnd items acc → R (.ok (.ret .none)) { s with heap := h', toks := tk }) :
    wpAny (model prog w) A.in1 (Builtin.List.listExtendWith (.ref S) (.ref it) .none)
      (fun fin s' => match fin with | .done f => R (.ok f) s' | .again c' => c'.quiet = true ∧ codeAny (model prog w) A c' R s')
      (fun e s' => R (.error e) s') s := by
  have W := (Walks.listRev (prog := prog) (w := w) (A := A.in1) hh it l hne items).toS
  have nf : S ∉ [it, l] := by
    simp only [List.mem_cons, List.not_mem_nil, or_false, not_or]
    exact ⟨hSi, hSl⟩
  have hT : s.TypeIs (.ref it) "list_reverseiterator" := hit.typeIs
  have h1 : Builtin.List.listSameRef (.ref S) (.ref it) = false := by
    simp [Builtin.List.listSameRef, hSi]
  unfold Builtin.List.listExtendWith
  refine wpAny_bind <| wpAny_typeOf hT ?_
  rw [if_neg <| by rw [h1]; decide]
  refine wpAny_bind <| wpAny_pyIter_revIter hit ?_
  refine wpAny_bind <| wpAny_holding ?_
  unfold Builtin.List.listLengthHint
  refine wpAny_bind <| wpAny_specialOf hT RT.nolen_lri ?_
  show wpAny _ A.in1 (specialOf (Value.ref it) (Str.ofString "__length_hint__") >>= _) _ _ s
  refine wpAny_bind <| wpAny_specialOf hT RT.hint_lri ?_
  generalize e0 : ("list_reverseiterator.__length_hint__" : String) = i0
  wp_delta
  rw [show splitId i0 = some ("list_reverseiterator", "__length_hint__") by subst e0; decide +kernel]
  subst e0
  refine wpAny_bind <| wpAny_isInstance (b := true) hT (by rw [isSubtype_type]; kernel_rfl) ?_
  refine wpAny_pure ?_
  rw [if_neg <| by decide]
  have ez : ((items.size : Nat) : Int) - 1 - ((0 : Nat) : Int) = (items.size : Int) - 1 := by omega
  refine wpAny_pure ⟨plainId_quiet F.plain_extend_loop _, codeAny_extend_loopS W hn _ nf _ items.size 0 _ _ _ rfl (Nat.zero_le _)
    ⟨Nat.zero_le _, by rw [ez]; exact hit, hl⟩ hS (ItemsOf.nil _) fun s' acc' c' hm hS' hacc => ?_⟩
  rw [Moved.eq_with hm]
  refine hR s'.heap s'.toks acc' c' (fun b o b1 b2 e => hm.heap b o (fun z => ?_) e) hS' hacc
  rcases List.mem_cons.mp z with q | q
  · exact b1 q
  · exact b2 (List.mem_singleton.mp q)
theorem call_list_rev {it l : Addr} {items : Array Value} {Q : Value → Shared → Prop} (hh : A.handled = none)
    (hit : s.heap.IsRevIter it l ((items.size : Int) - 1)) (hl : s.heap.IsList l items) (hne : l ≠ it) (hn : items.size ≤ sizeLine)
    (hQ : ∀ h' tk acc c, (∀ b o, b ≠ it → s.heap.get? b = some o → h'.get? b = some o) →
      h'.get? s.heap.objs.size = some { cls := .type "list", dict := none, data := .seq acc c, slots := #[] } → FromEnd items acc → Q (.ref s.heap.objs.size) { s with heap := h', toks := tk }) :
    wpAny (model prog w) A (call (.type "list") [.ref it]) Q E s := by
  obtain ⟨oi, hoi, _⟩ := id hit
  obtain ⟨ol, hol, _⟩ := id hl
  refine callType_codes (Q₁ := fun obj s₁ => obj = .ref s.heap.objs.size ∧ s₁ = { s with heap := s.heap.push nilL }) PySem.F.called_list (PySem.F.typeCall_list_1 _) PySem.F.entry_list_init (code_list_new _ ⟨rfl, rfl⟩) fun obj s₁ h₁ => ?_
  obtain ⟨rfl, rfl⟩ := h₁
  have hS : (s.heap.push nilL).get? s.heap.objs.size = some nilL := Heap.get?_push_size _ rfl
  refine ⟨⟨_, hS, rfl⟩, PySem.F.args_list_init_2 _ _, ?_⟩
  show wpAny _ _ (do let old ← Builtin.List.listItems (.ref s.heap.objs.size); Builtin.List.listUpdate (.ref s.heap.objs.size) (fun _ => #[]); letGo old.toList.reverse; Builtin.List.listExtendWith (.ref s.heap.objs.size) (.ref it) .none) _ _ _
  refine wpAny_bind ?_
  unfold Builtin.List.listItems
  refine wpAny_bind <| wpAny_seqItems hS rfl <| wpAny_pure ?_
  show wpAny _ _ (updateSeq s.heap.objs.size (fun _ => #[]) >>= fun _ => letGo (#[] : Array Value).toList.reverse >>= fun _ => Builtin.List.listExtendWith (.ref s.heap.objs.size) (.ref it) .none) _ _ _
  refine wpAny_bind <| wpAny_updateSeq hS rfl ?_
  have hS2 := Heap.get?_update_self (Obj.mapSeq (fun _ => (#[] : Array Value))) hS rfl
  have ni : s.heap.objs.size ≠ it := Nat.ne_of_gt (Heap.lt_size hoi)
  have nl : s.heap.objs.size ≠ l := Nat.ne_of_gt (Heap.lt_size hol)
  have oth : ∀ b o, b ≠ s.heap.objs.size → s.heap.get? b = some o → ((s.heap.push nilL).update s.heap.objs.size (Obj.mapSeq (fun _ => (#[] : Array Value)))).get? b = some o :=
    fun b o hb e => (Heap.get?_update_other _ _ (Ne.symm hb)).trans (Heap.get?_push_of_some _ e)
  refine wpAny_bind <| wpAny_letGo ?_
  refine ext_rev (A := A.in1) (l := l) hh (hit.at fun o e => oth it o (Ne.symm ni) e) (hl.at fun o e => oth l o (Ne.symm nl) e) hne hn ni nl hS2 fun h' tk acc c hk hS' hacc => ⟨rfl, ?_⟩
  exact hQ h' tk acc c (fun b o hb e => hk b o (Nat.ne_of_lt (Heap.lt_size e)) hb (oth b o (Nat.ne_of_lt (Heap.lt_size e)) e)) hS' hacc
end
end Fb
namespace Fb
open PySem PySem.Spec PyProof.Rows L2
section
variable {X : Cx}
/-- list(reversed(e)), e a list -/
def tListRev (K : PySem.W.Frag) (te : TE) : TE := fun σ H Q => te σ H fun v H1 => ∃ (a : Addr) (xs : List V), v = .ref a ∧ SqL K H1 a xs ∧ ∀ q, H1 q = none → Q (.ref q) (upd H1 q (.lst xs.reverse))
theorem pe_listRev {e : Expr} {te : TE} {p p2 pos pos2 : Pos} (hc : X.calm = true) (hg : Gl X "list") (hm : X.mg "list" = none) (hg2 : Gl X "reversed") (hm2 : X.mg "reversed" = none) (he : PE X e te)
    (hs : starEach [e] X.env = (false, eval e X.env) :: starEach [] X.env := by rfl)
    (hs2 : starEach [.Call (.Name "reversed" p2) [e] [] pos2] X.env = (false, eval (.Call (.Name "reversed" p2) [e] [] pos2) X.env) :: starEach [] X.env := by rfl) :
    PE X (.Call (.Name "list" p) [.Call (.Name "reversed" p2) [e] [] pos2] [] pos) (tListRev X.K te) := by
  refine ⟨fun pins s σ H Q I h => ?_⟩
  refine Call_ (ld_blt I hg hm boot_list (callWith_type1 (args_cons (Call_ (ld_blt I hg2 hm2 boot_reversed (callWith_type1 (args_cons (thn (he.run pins s σ H _ I h) fun u s1 ⟨v, H1, I1, r1, q1⟩ => args_nil ?_) hs) hs rfl))) hs2) hs2 rfl))
  obtain ⟨a, xs, ev, hq, q⟩ := q1
  subst ev
  obtain rfl : u = Value.ref a := r1
  obtain ⟨its, rv, pl, hz⟩ := I1.list hq
  refine call_reversed_list pl.isList (args_nil ?_)
  have I2 : Inv X pins σ H1 { s1 with heap := s1.heap.push (revObj a ((its.toArray.size : Int) - 1)) } := I1.kept (t' := s1.toks) fun b o e => Heap.get?_push_of_some _ e
  obtain ⟨f0, f1, f2, f3, f4, f5⟩ := I1.fpOk (H' := H1) (b := s1.heap.objs.size) (Nat.le_refl _) (I1.hok.fresh (Nat.le_refl _))
  have hl := pl.isList
  obtain ⟨ol, hol, _⟩ := id hl
  have hne : a ≠ s1.heap.objs.size := Nat.ne_of_lt (Heap.lt_size hol)
  have hn : its.toArray.size ≤ sizeLine := by rw [List.size_toArray, ← rv.length]; exact hz
  refine call_list_rev (s := { s1 with heap := s1.heap.push (revObj a ((its.toArray.size : Int) - 1)) }) (I1.ok.hd hc) ⟨_, Heap.get?_push_size _ rfl, rfl, rfl⟩ (hl.push _) hne hn fun h' tk acc c hk hS' hacc => ?_
  have fr : H1 (s1.heap.objs.size + 1) = none := I1.hok.fresh (Nat.le_succ _)
  have sz : (s1.heap.push (revObj a ((its.toArray.size : Int) - 1))).objs.size = s1.heap.objs.size + 1 := by simp [Heap.push]
  have I3 := I2.laid (t' := tk) (a := s1.heap.objs.size + 1) (o := .lst xs.reverse)
    (h' := (s1.heap.push (revObj a ((its.toArray.size : Int) - 1))).push { cls := .type "list", dict := none, data := .seq acc c, slots := #[] })
    (fun b o e => Heap.get?_push_of_some _ e) (Nat.le_of_eq sz)
    (show ObjOk X.prog X.w _ _ _ (.lst xs.reverse) from ⟨by rw [List.length_reverse]; exact hz, acc.toList, c, RT.vals_rev rv hacc, by
      rw [← sz, Array.toArray_toList]
      exact Heap.get?_push_size _ rfl⟩)
  have nit : s1.heap.objs.size ≠ s1.heap.objs.size + 1 := Nat.ne_of_lt (Nat.lt_succ_self _)
  have I4 := I3.turned (t' := tk) (it := s1.heap.objs.size) (h' := h') (fun b o hb e => ?_) (by rw [upd_ne nit]; exact f0) f1 f3 f4 f5
  · refine ⟨.ref (s1.heap.objs.size + 1), _, I4, ?_, q _ fr⟩
    exact congrArg Value.ref sz
  · rcases Heap.get?_push_cases e with ⟨eb, eo⟩ | e2
    · subst eb
      subst eo
      exact hS'
    · exact hk b o hb e2
end
end Fb
set_option Elab.async false
set_option linter.all false
set_option maxRecDepth 100000
set_option maxHeartbeats 2000000
namespace Fb
open PySem PySem.Spec PyProof.Rows L2
/-! ### calls without arguments; repr of a plain value -/
section
variable {X : Cx} {k j : Nat} {x : Str} {sp : Sp} {dvs : List V} {p pos : Pos}
theorem pe_c0 (c : C8.Cal X.prog X.w X.K X.mg X.base k x sp dvs) (hr : Room j X.A) (hk : k ≤ j) (hg : Gl X x) (hdb : (x == ("__debug__" : Str)) = false := by decide) :
    PE X (.Call (.Name x p) [] [] pos) (tCall sp dvs E0 tNil) := by
  obtain ⟨f, fd, ps, ds, F, hm, kp, b, d⟩ := c.ex
  exact pe_call0 F (hr.mono hk) hg hm kp b d pass0 hdb
def tf (b : Bool) : Str := if b then "True" else "False"
def rRepr0 : List V → Hp → VK → Prop := fun xs H Q => (∃ b, xs = [.bl b] ∧ Q (.str (tf b)) H) ∨ ∃ i, xs = [.int i] ∧ i.natAbs.log2 < 1920 ∧ Q (.str (toString i)) H
theorem call_repr0 : CallR X (.builtin "repr") rRepr0 := by
  intro pins s σ H xs us Q I r h
  rcases h with ⟨b, rfl, q⟩ | h
  · obtain ⟨u, rfl, rx⟩ := vals1 r
    cases rx
    exact PySem.P.repr_of_bool ⟨.str _, H, I.tok _, ⟨_, rfl⟩, q⟩
  · obtain ⟨i, rfl, hz, q⟩ := h
    obtain ⟨u, rfl, t, rfl⟩ := vals1 r
    exact PySem.P.repr_of_int hz ⟨V.str _, H, I.tok _, ⟨_, rfl⟩, q⟩
end
/-! ### heaps -/
theorem same_new {H : Hp} {p : Addr} {o : HO} (h : H p = none) : Same H (upd H p o) := fun b x e => by
  rw [upd_ne (ne_of_none e h)]
  exact e
/-! ### the deal: a dict of three -/
def dealD (s n : Int) (l : Addr) : List (Key × V) := [(.inr "seed", .int s), (.inr "number", .int n), (.inr "left", .ref l)]
abbrev kx (x : Str) : Key := .inr x
theorem ne_sn : ¬ (kx "seed" = kx "number") := by decide +kernel
theorem ne_sl : ¬ (kx "seed" = kx "left") := by decide +kernel
theorem ne_nl : ¬ (kx "number" = kx "left") := by decide +kernel
section
variable {s n x : Int} {l d : Addr} {H : Hp}
theorem v_seed : valV (dealD s n l) (.inr "seed") = some (.int s) := valV_pos rfl
theorem v_number : valV (dealD s n l) (.inr "number") = some (.int n) := (valV_neg ne_sn).trans (valV_pos rfl)
theorem v_left : valV (dealD s n l) (.inr "left") = some (.ref l) := (valV_neg ne_sl).trans ((valV_neg ne_nl).trans (valV_pos rfl))
theorem p_seed : putK (dealD s n l) (.inr "seed") (.int x) = dealD x n l := by
  have a : ¬ (kx "number" = kx "seed") := fun e => ne_sn e.symm
  have b : ¬ (kx "left" = kx "seed") := fun e => ne_sl e.symm
  simp [putK, dealD, a, b]
theorem p_number : putK (dealD s n l) (.inr "number") (.int x) = dealD s x l := by
  have a := ne_sn
  have b : ¬ (kx "left" = kx "number") := fun e => ne_nl e.symm
  simp [putK, dealD, a, b]
theorem g_seed (h : H d = some (.dK (dealD s n l))) : DGet H d (.str "seed") (some (.int s)) := by
  have z := DGet.k (k := Sum.inr "seed") h
  rw [v_seed] at z
  exact z
theorem g_number (h : H d = some (.dK (dealD s n l))) : DGet H d (.str "number") (some (.int n)) := by
  have z := DGet.k (k := Sum.inr "number") h
  rw [v_number] at z
  exact z
theorem g_left (h : H d = some (.dK (dealD s n l))) : DGet H d (.str "left") (some (.ref l)) := by
  have z := DGet.k (k := Sum.inr "left") h
  rw [v_left] at z
  exact z
theorem u_seed (h : H d = some (.dK (dealD s n l))) : DPut H d (.str "seed") (.int x) (upd H d (.dK (dealD x n l))) := by
  refine .inl ⟨dealD s n l, .inr "seed", h, rfl, ?_, ?_⟩
  · show 3 < sizeLine
    exact small1000 (by decide)
  · rw [p_seed]
theorem u_number (h : H d = some (.dK (dealD s n l))) : DPut H d (.str "number") (.int x) (upd H d (.dK (dealD s x l))) := by
  refine .inl ⟨dealD s n l, .inr "number", h, rfl, ?_, ?_⟩
  · show 3 < sizeLine
    exact small1000 (by decide)
  · rw [p_number]
end
/-- a deal stands at d, its list at l -/
def DealX (H : Hp) (d l : Addr) (s n : Int) (ns : List Int) : Prop :=
  H d = some (.dK (dealD s n l)) ∧ H l = some (.lst (ns.map V.int)) ∧ 0 ≤ s ∧ s < 2147483648 ∧ 0 ≤ n ∧ ∀ x ∈ ns, 0 < x
def DealAt (H : Hp) (d l : Addr) : Prop := ∃ s n ns, DealX H d l s n ns
/-- all else stays -/
def Keep (d l : Addr) (H H' : Hp) : Prop := ∀ b o, H b = some o → b ≠ d → b ≠ l → H' b = some o
theorem Keep.refl (d l : Addr) (H : Hp) : Keep d l H H := fun _ _ e _ _ => e
theorem Keep.trans {d l : Addr} {H H1 H2 : Hp} (a : Keep d l H H1) (b : Keep d l H1 H2) : Keep d l H H2 := fun c o e h1 h2 => b c o (a c o e h1 h2) h1 h2
theorem Keep.of {d l : Addr} {H H' : Hp} (s : Same H H') : Keep d l H H' := fun b o e _ _ => s b o e
theorem Keep.upd {d l p : Addr} {H H' : Hp} {o : HO} (k : Keep d l H H') (hp : H p = none) : Keep d l H (upd H' p o) := fun b x e h1 h2 => by
  rw [upd_ne (ne_of_none e hp)]
  exact k b x e h1 h2
theorem Keep.at_d {d l : Addr} {H H' : Hp} {o : HO} (k : Keep d l H H') : Keep d l H (L2.upd H' d o) := fun b x e h1 h2 => by
  rw [upd_ne h1]
  exact k b x e h1 h2
theorem Keep.at_l {d l : Addr} {H H' : Hp} {o : HO} (k : Keep d l H H') : Keep d l H (L2.upd H' l o) := fun b x e h1 h2 => by
  rw [upd_ne h2]
  exact k b x e h1 h2
theorem DealX.ne {H : Hp} {d l : Addr} {s n : Int} {ns : List Int} (h : DealX H d l s n ns) : d ≠ l := ne_of h.1 h.2.1 (by intro z; cases z)
theorem DealX.same {H H' : Hp} {d l : Addr} {s n : Int} {ns : List Int} (h : DealX H d l s n ns) (e : Same H H') : DealX H' d l s n ns := ⟨e _ _ h.1, e _ _ h.2.1, h.2.2⟩
theorem DealAt.same {H H' : Hp} {d l : Addr} (h : DealAt H d l) (e : Same H H') : DealAt H' d l := let ⟨s, n, ns, z⟩ := h; ⟨s, n, ns, z.same e⟩
theorem DealAt.d_ne {H : Hp} {d l p : Addr} (h : DealAt H d l) (hp : H p = none) : p ≠ d := let ⟨_, _, _, z⟩ := h; (ne_of_none z.1 hp).symm
theorem DealAt.l_ne {H : Hp} {d l p : Addr} (h : DealAt H d l) (hp : H p = none) : p ≠ l := let ⟨_, _, _, z⟩ := h; (ne_of_none z.2.1 hp).symm
theorem DealAt.upd {H : Hp} {d l p : Addr} {o : HO} (h : DealAt H d l) (h1 : p ≠ d) (h2 : p ≠ l) : DealAt (L2.upd H p o) d l := let ⟨s, n, ns, z⟩ := h; ⟨s, n, ns, by rw [upd_ne h1.symm]; exact z.1, by rw [upd_ne h2.symm]; exact z.2.1, z.2.2⟩
/-- a draw below many -/
def spDraw : Sp := fun vs H Q _ => ∃ (d l : Addr) (many : Int), vs = [.ref d, .int many] ∧ DealAt H d l ∧ 0 < many ∧ many < 4611686018427387904 ∧
  ∀ (r : Int) (H' : Hp), 0 ≤ r → r < many → DealAt H' d l → Keep d l H H' → Q (.int r) H'
def spDeal (K : PySem.W.Frag) : Sp := fun vs H Q _ => ∃ (a : Addr) (ns : List Int), vs = [.ref a] ∧ SqL K H a (ns.map V.int) ∧ ns.length ≤ 63 ∧
  ∀ (d l : Addr) (H' : Hp), H d = none → H l = none → DealAt H' d l → Same H H' → Q (.ref d) H'
theorem merge_deal {s n : Int} {l : Addr} : mergeK [] (dealD s n l) = dealD s n l := by
  have a := ne_sn
  have b := ne_sl
  have c := ne_nl
  simp [mergeK, putK, dealD, a, b, c]
theorem cut_ints (ns : List Int) (lo hi : Option Int) : ∃ ms : List Int, cutV (ns.map V.int) lo hi = ms.map V.int ∧ ms.length ≤ ns.length := by
  refine ⟨(ns.drop (HT.sIx (ns.map V.int).length 0 lo)).take (HT.sIx (ns.map V.int).length (ns.map V.int).length hi - HT.sIx (ns.map V.int).length 0 lo), ?_, ?_⟩
  · rw [cutV, List.map_take, List.map_drop]
  · rw [List.length_take, List.length_drop]
    omega
theorem int_at {ns : List Int} {i : Nat} {x : V} (h : (ns.map V.int)[i]? = some x) : ∃ z, x = .int z ∧ z ∈ ns := by
  rw [List.getElem?_map] at h
  cases e : ns[i]? with
  | none =>
    rw [e] at h
    cases h
  | some z =>
    rw [e] at h
    exact ⟨z, (Option.some.inj h).symm, List.mem_of_getElem? e⟩
theorem snoc_ints (zs : List Int) (z : Int) : zs.map V.int ++ [V.int z] = (zs ++ [z]).map V.int := by
  rw [List.map_append]
  rfl
theorem divW {i j : Int} (h : 0 < j) (h2 : j < 4611686018427387904) : CDivW i j := wide_div (b := 64) h (by omega) (by decide) (by decide)
theorem mulS {i j : Int} (h : 0 ≤ i) (h2 : i < 4611686018427387904) : CMul i j := .inl ⟨by omega, by omega⟩
theorem mod_lo {a b : Int} (h : 0 < b) : 0 ≤ a % b := Int.emod_nonneg a (by omega)
theorem mod_hi {a b : Int} (h : 0 < b) : a % b < b := Int.emod_lt_of_pos a h
theorem nest (a b : Int) : (if b > a then b else a) = max a b := by
  by_cases h : b > a
  · rw [if_pos h]; omega
  · rw [if_neg h]; omega
end Fb
set_option Elab.async false
set_option linter.all false
set_option maxRecDepth 100000
set_option maxHeartbeats 2000000
namespace Fb
open PySem PySem.W PySem.Calls PyProof.Rows L2
/-- a def as the top has left it -/
def Has (K : PySem.W.Frag) (mg : Str → Option Value) (x : Str) (st : Stmt) : Prop := ∃ f fd, L2.Fun K x x st f fd ∧ mg x = some (.ref f)
def Cn (mg : Str → Option Value) (x : Str) (v : V) : Prop := ∃ u, mg x = some u ∧ RelV v u
theorem has_mk {K : PySem.W.Frag} {mg : Str → Option Value} {h : Heap} {x : Str} {st : Stmt} {f : Addr} {oc : Value} {od an : Option Addr} {sl : Array (Option Value)} {kV dc pm cd ct : Value} (X : K.In h) (G : h.Ns mainGlobals mg)
    (a : nsIn K mainGlobals x = some (some (.ref f))) (l : K.lookup f = some ⟨oc, od, .func (fnOf x x (defArgs st) (defBody st) (defScope st) .none kV dc pm an cd ct), sl⟩) (c : codeIn K cd x = true) (k : keepIn K (.ref f) = true) : Has K mg x st :=
  ⟨f, _, fun_mk l c k, mg_of X G a⟩
theorem rel_abs {u : Value} {v : V} (h : absV u = some v) : RelV v u := by
  cases u with
  | none => cases h; rfl
  | bool b => cases h; rfl
  | int i t => cases h; exact ⟨t, rfl⟩
  | str x t => cases h; exact ⟨t, rfl⟩
  | bytes b t => cases h; exact ⟨t, rfl⟩
  | float b t => cases h; exact ⟨t, rfl⟩
  | ref a => cases h; rfl
  | type n => cases h; rfl
  | _ => cases h
theorem vals_abs : ∀ {us : List Value} {vs : List V}, us.map absV = vs.map some → Vals vs us
  | [], [], _ => .nil
  | [], _ :: _, h => by cases h
  | _ :: _, [], h => by cases h
  | u :: us, v :: vs, h => by
    rw [List.map_cons, List.map_cons] at h
    injection h with h1 h2
    exact .cons (rel_abs h1) (vals_abs h2)
theorem tup_in {K : PySem.W.Frag} {a : Addr} {od : Option Addr} {its : Array Value} {n : Nat} {sl : Array (Option Value)} {xs : List V} (l : K.lookup a = some ⟨.type "tuple", od, .seq its n, sl⟩) (z : its.size ≤ 1000) (e : its.toList.map absV = xs.map some) (H : Hp) : SqT K H a xs :=
  .inr ⟨_, its, n, l, rfl, rfl, Nat.le_of_lt (small1000 z), vals_abs e⟩
theorem cn_in {K : PySem.W.Frag} {mg : Str → Option Value} {h : Heap} {x : Str} {u : Value} {v : V} (X : K.In h) (G : h.Ns mainGlobals mg) (a : nsIn K mainGlobals x = some (some u)) (e : absV u = some v) : Cn mg x v := ⟨u, mg_of X G a, rel_abs e⟩
theorem cn_loose {p : Program} {lv : List (Str × WData)} {mg : Str → Option Value} {h : Heap} {x : Str} {n : Int} (X : XL p lv mg h) (m : (x, WData.int n) ∈ lv) : Cn mg x (.int n) := by
  obtain ⟨v, a, r⟩ := X.2.val _ m
  cases r
  exact ⟨_, a, ⟨_, rfl⟩⟩
/-- the end of a law, with what the top has reckoned told -/
theorem walk_X {l : OpenLaw} {n k : Nat} {q : Program} {loose : List Str} {XP : (Str → Option Value) → Heap → Prop} {YP : World → Heap → Prop} {d : DefRec} {K : Params → Frag} {sp : World → Sp} {x : Str}
    (hn : l.most = some n) (hn2 : n ≤ sizeLine) (hdf : d.params.defaults = []) (hr : Room k callerA) (hY : ∀ (w : World) (h : Heap), YP w h → (K w.params).In h)
    (F : ∀ (w : World) (mg : Str → Option Value) (fa : Addr) (h : Heap), (K w.params).In h → h.Ns mainGlobals mg → XP mg h → mg d.name = some (.ref fa) →
      ∃ fd : FuncData, (∀ (s : Shared) (u : Value), BindsTo s fd ⟨[u], []⟩ [(x, u)]) ∧ ∀ base : Heap, (K w.params).In base → base.Ns mainGlobals mg → FnOk l.prog w (K w.params) mg base CX0 k fa fd [x] (sp w))
    (hsp : ∀ (w : World) (H : Hp) (a : Addr) (ns : List Int), ns.length ≤ n → SqL (K w.params) H a (ns.map V.int) → sp w [.ref a] H (fun v _ => v = .bl true) fun _ _ _ => False) :
    WalkO q loose XP YP l.row.toRowW d [] (fun f vs => PySem.call f vs) := by
  refine Att.attach_call hn hdf fun w s₀ s₁ mg mb fa o pm cd doc a vs ns G Y ho hd hcd hmg hobj hints hlen hg => ?_
  obtain ⟨fd, hb, hF⟩ := F w mg fa _ (hY w _ Y) G.T.g G.X hmg
  exact law_call (hY w _ Y) G.T.g G.T.b G.T.builtins G.T.nolimit hg hobj hints (Nat.le_trans hlen hn2) hr hF hb (fun H _ hS => hsp w H a ns hlen hS) fun H e s' z => z
end Fb
set_option Elab.async false
set_option linter.all false
set_option maxRecDepth 100000
set_option maxHeartbeats 2000000
namespace Fb
open PySem PySem.Spec PyProof.Rows L2
/-! ### a def that is called where nothing is being shown (no repr is under way) -/
structure FnG (P : Program) (w : World) (K : PySem.W.Frag) (mg : Str → Option Value) (base : Heap) (k : Nat) (f : Addr) (fd : FuncData) (ps : List Str) (sp : Sp) : Prop where
  len : ∀ vs H Q E, sp vs H Q E → vs.length = ps.length
  run : ∀ (A : Around) (outer : List Env) (s : Shared) (H : Hp) (args : Args) (us : List Value) (vs : List V) (Q : VK) (E : XK), A.guards = some [] → Room k A →
    Env0 P w K mg base A outer s H → BindsTo s fd args (ps.zip us) → Vals vs us → sp vs H Q E → codeAny (model P w) A (.call (.ref f) args) (CR CX0 outer P w H s Q E) s
section
variable {P : Program} {w : World} {K : PySem.W.Frag} {mg : Str → Option Value} {base : Heap}
theorem ok_G {x qual : Str} {st : Stmt} {f : Addr} {fd : FuncData} {N ps : List Str} {k : Nat} {sp : Sp} (F : L2.Fun K x qual st f fd) (S : FnScope N ps (defScope st)) (len : ∀ vs H Q E, sp vs H Q E → vs.length = ps.length)
    (walk : ∀ (cdv : Value) (A : Around) (outer : List Env) (s : Shared) (H : Hp) (vs : List V) (Q : VK) (E : XK), (A.deeper (envOfC qual (defScope st) s.heap.objs.size f cdv)).guards = some [] → Room k (A.deeper (envOfC qual (defScope st) s.heap.objs.size f cdv)) → sp vs H Q E →
      ∃ t, PSs (cxOf CX0 P w K mg base N qual (defScope st) f cdv A outer s H E).nox (defBody st) t ∧ t { nx := fun _ H' => Q .non H', rt := Q } (start N vs) H) : FnG P w K mg base (k + 1) f fd ps sp := by
  obtain ⟨oc, od, kV, dc, pm, an, cdv, ct, osl, rfl, lk, hcd⟩ := F.ex
  refine ⟨len, fun A outer s H args us vs Q E gd hr e0 hb r hs0 => ?_⟩
  have hl := len _ _ _ _ hs0
  have kIn : K.In s.heap := e0.mod.kin.keeps fun b o e => (e0.bs b o e).1
  have nolim : s.heap.NoLimit := e0.mod.nolimit.keeps fun b o e => (e0.bs b o e).1
  have kinds : ∀ y ∈ ps.zip us, (defScope st).names.lookup y.1 = some .local ∨ ((defScope st).names.lookup y.1 = some .cell ∧ ((cellsFrom (s.heap.objs.size + 1) (defScope st).names []).lookup y.1).isSome = true) := fun ⟨n, v⟩ hy => by
    rcases S.par n (List.of_mem_zip hy).1 with z | z
    · exact .inl z
    · exact .inr ⟨z, PySem.W.cellsFrom_some _ _ _ (.inl z)⟩
  refine codeAny_call_function hr.depth (kIn _ _ lk) rfl S.co S.gen rfl (PySem.W.codeRec_of kIn hcd) (hb _ _ _ _ ?_)
  refine wpAny_newFunctionEnv_cells S.kind kinds fun env he s1 y => ?_
  subst he
  refine ⟨nolim.keeps y.toInCall.keep, codeAny_func ?_⟩
  obtain ⟨t, ht, hq⟩ := walk cdv A outer s H vs Q E gd (hr.deeper _) hs0
  have I0 : Inv (cxOf CX0 P w K mg base N qual (defScope st) f cdv A outer s H E) [] (start N vs) H s1 := inv_start S hr.hd e0 hl r y
  refine wpAny_mono (ht.nox.run [] s1 (start N vs) H _ I0 hq) (fun fl s' z => ?_) fun e s' z => z
  have out : ∀ {σ' : L2.St} {H' : Hp} {v : V} {u : Value}, Inv (cxOf CX0 P w K mg base N qual (defScope st) f cdv A outer s H E) [] σ' H' s' → RelV v u → Q v H' → CE outer P w H s Q u s' := fun {σ' H' v u} J rv q => ⟨v, H', J.os, J.bare, J.base, J.hok, rv, q⟩
  cases fl with
  | ret u =>
    obtain ⟨v, σ', H', J, rv, q⟩ := z
    exact out J rv q
  | next =>
    obtain ⟨σ', H', J, q⟩ := z
    exact out (v := V.non) (u := Value.none) J rfl q
  | brk =>
    obtain ⟨_, _, _, q⟩ := z
    exact q.elim
  | cont =>
    obtain ⟨_, _, _, q⟩ := z
    exact q.elim
end
/-- a def under its name, where nothing is being shown -/
structure CalG (P : Program) (w : World) (K : PySem.W.Frag) (mg : Str → Option Value) (base : Heap) (k : Nat) (x : Str) (sp : Sp) : Prop where
  ex : ∃ (f : Addr) (fd : FuncData) (ps : List Str), FnG P w K mg base k f fd ps sp ∧ mg x = some (.ref f) ∧ PySem.W.keepIn K (.ref f) = true ∧ Binds K fd ps []
section
variable {X : Cx} {k j : Nat} {x : Str} {sp : Sp} {p pos : Pos} {e : Expr} {es : List Expr} {t : TA}
theorem pe_cG (c : CalG X.prog X.w X.K X.mg X.base k x sp) (gd : X.A.guards = some []) (hr : Room j X.A) (hk : k ≤ j) (hg : Gl X x) (ha : PA X (e :: es) t) (hdb : (x == ("__debug__" : Str)) = false := by decide)
    (he : starEach (e :: es) X.env = (false, eval e X.env) :: starEach es X.env := by rfl) (hpl : (backTo pos (starEach es X.env)).any (·.1) = false := by rfl) : PE X (.Call (.Name x p) (e :: es) [] pos) (tCall sp [] E0 t) := by
  obtain ⟨f, fd, ps, F, hm, kp, b⟩ := c.ex
  refine ⟨fun pins s σ H Q I h => ?_⟩
  refine wpAny_Call_Name_kw (ld_glob I hg hm ?_ hdb)
  refine PySem.W.callWith_K (h₀ := X.base) I.ok.mod.kin kp (thn (ha.run pos pins s σ H _ I h) fun us s1 ⟨vs, H1, I1, r, q⟩ => ⟨I1.kIn, ?_⟩) he hpl
  have q2 : sp vs H1 Q E0 := by have z : sp (vs ++ []) H1 Q E0 := q; rw [List.append_nil] at z; exact z
  have hl : us.length = ps.length := by rw [← r.length]; exact F.len _ _ _ _ q2
  refine wpAny_call (codeAny_mono (F.run X.A X.stack s1 H1 ⟨us, []⟩ us vs Q E0 gd (hr.mono hk) I1.env0 (by have z := b s1 us I1.kIn (by rw [List.append_nil]; exact hl); rw [List.append_nil] at z; exact z) r q2) fun r' s' hq => ?_)
  cases r' with
  | error e => exact hq.elim
  | ok fl =>
    cases fl with
    | ret u => exact I1.after hq
    | next => exact hq.elim
    | brk => exact hq.elim
    | cont => exact hq.elim
/-- repr of data at any depth -/
def rReprD (K : PySem.W.Frag) : List V → Hp → VK → Prop := fun xs H Q => ∃ (a : Addr) (d : PyData), xs = [.ref a] ∧ Dp K H (.ref a) d ∧ d.showable = true ∧ d.hasDict = false ∧ d.depth ≤ 60 ∧ d.shown.length ≤ sizeLine ∧ Q (.str d.shown) H
theorem call_reprD (gd : X.A.guards = some []) (hu : X.A.units + 64 < cLine) : CallR X (.builtin "repr") (rReprD X.K) := by
  intro pins s σ H xs us Q I r h
  obtain ⟨a, d, rfl, hd, h1, h2, h3, h4, q⟩ := h
  obtain ⟨u, rfl, rx⟩ := vals1 r
  obtain ⟨as, rd⟩ := Dp.reads I d _ _ hd rx
  obtain rfl : u = Value.ref a := rx
  refine repr_of_reads' (h₀ := s.heap) rd h1 (fun z => by rw [h2] at z; cases z) gd (by omega) (fun _ _ e => e) (fun h' u tk hk => ?_) h4
  exact ⟨V.str _, H, I.kept (t' := tk) hk, ⟨_, rfl⟩, q⟩
end
end Fb
namespace Fb
open PySem PySem.W PySem.Calls PyProof.Rows L2
/-- the law's own call, where nothing is being shown -/
theorem law_G {P : Program} {w : World} {K : Frag} {mg mb : Str → Option Value} {k : Nat} {fa a : Addr} {fd : FuncData} {x : Str} {sp : Sp} {s₁ : Shared} {vs : List Value} {ns : List Int}
    (KX : K.In s₁.heap) (hns : s₁.heap.Ns mainGlobals mg) (hb : s₁.heap.Ns builtinsNs mb) (hbb : ∀ x : Str, x ≠ "__name__" → mb x = bootBuiltins x) (hlim : s₁.heap.NoLimit) (hg : s₁.gens = #[])
    (ha : s₁.heap.get? a = some { cls := .type "list", data := .seq vs.toArray }) (hi : IntsAre vs ns) (hl : ns.length ≤ sizeLine) (hr : Room k callerA)
    (F : ∀ base : Heap, K.In base → base.Ns mainGlobals mg → FnG P w K mg base k fa fd [x] sp) (hbind : ∀ (s : Shared) (u : Value), BindsTo s fd ⟨[u], []⟩ [(x, u)])
    (hsp : ∀ H : Hp, SqL K H a (ns.map V.int) → sp [.ref a] H (fun v _ => v = .bl true) fun _ _ _ => False) :
    codeAny (model P w) callerA (.call (.ref fa) ⟨[.ref a], []⟩) (fun r s' => r = .ok (.ret (.bool true)) ∧ OldK s₁.heap s'.heap ∧ s'.os = s₁.os ∧ AllBare s'.gens) s₁ := by
  have rv := vals_ints hi
  have lv := hi.length
  have core : ∀ H : Hp, Only H → SqL K H a (ns.map V.int) → HOk P w H s₁.heap → (∀ b, H b ≠ none → b = a) → (H a ≠ none → K.lookup a = none) →
      codeAny (model P w) callerA (.call (.ref fa) ⟨[.ref a], []⟩) (fun r s' => r = .ok (.ret (.bool true)) ∧ OldK s₁.heap s'.heap ∧ s'.os = s₁.os ∧ AllBare s'.gens) s₁ := by
    intro H0 hO hS hok hA hK
    have tracked : ∀ {b : Addr} {u : HO}, H0 b = some u → b = a := fun {b u} q => hA b (by rw [q]; simp)
    have hid : ∀ {b : Addr} {o : Obj}, s₁.heap.get? b = some o → H0 b = none → (hidT s₁.heap H0).get? b = some o := fun e n => hidT_get e n
    have noD : ∀ {b : Addr} {o : Obj} {es : Array DictEntry} {ep : Nat}, s₁.heap.get? b = some o → o.data = .dict es ep → H0 b = none := fun {b o es ep} e dt => by
      cases q : H0 b with
      | none => rfl
      | some u =>
        obtain rfl := tracked q
        rw [ha] at e; cases e
        have z : Data.seq vs.toArray _ = Data.dict es ep := dt
        cases z
    have nsK : ∀ {b : Addr} {m : Str → Option Value}, s₁.heap.Ns b m → (hidT s₁.heap H0).Ns b m := fun {b m} ⟨o, es, ep, e, dt, r⟩ => ⟨o, es, ep, hid e (noD e dt), dt, r⟩
    have kIn : K.In (hidT s₁.heap H0) := fun b o e => hid (KX b o e) (by
      cases q : H0 b with
      | none => rfl
      | some u =>
        obtain rfl := tracked q
        rw [hK (by rw [q]; simp)] at e; cases e)
    have md : Mod K mg (hidT s₁.heap H0) := ⟨kIn, nsK hns, ⟨mb, nsK hb, hbb⟩, let ⟨mc, h1, h2⟩ := hlim; ⟨mc, nsK h1, h2⟩⟩
    have env : Env0 P w K mg (hidT s₁.heap H0) callerA [] s₁ H0 := ⟨rfl, md, fun b o e => of_hidT e, Nat.le_of_eq (hidT_size _ _), trivial, fun b z => absurd (show b ∈ ([] : List Addr) from z) (by simp), hok, .of_eq hg⟩
    refine codeAny_mono ((F _ kIn (nsK hns)).run callerA [] s₁ H0 ⟨[.ref a], []⟩ [.ref a] [.ref a] _ _ rfl hr env (hbind s₁ (.ref a)) (.cons rfl .nil) (hsp H0 hS)) fun r s' h => ?_
    cases r with
    | error e => exact h.elim
    | ok fl =>
      cases fl with
      | next => exact h.elim
      | brk => exact h.elim
      | cont => exact h.elim
      | ret u =>
        obtain ⟨v, H', os, bare, un, ok2, rl, q⟩ := h
        obtain rfl : v = .bl true := q
        obtain rfl : u = Value.bool true := rl
        refine ⟨rfl, OldK.of_keep fun b o e => ?_, os, bare⟩
        cases q : H0 b with
        | none => exact un.keep b o e q (fun z => absurd (show b ∈ ([] : List Addr) from z) (by simp)) (by simp)
        | some u =>
          rcases hO b with z | ⟨ob, xs, z⟩
          · rw [q] at z; cases z
          · obtain ⟨e1, _⟩ := hok b _ z
            obtain ⟨e2, _⟩ := ok2 b _ (un.frzs b ob _ z)
            rw [e] at e1; cases e1
            exact e2
  cases hk : K.lookup a with
  | some o =>
    have e := KX a o hk
    rw [ha] at e
    cases e
    exact core (fun _ => none) (fun _ => .inl rfl) (.inr ⟨_, vs.toArray, _, hk, rfl, rfl, rfl, by rw [List.size_toArray, lv]; exact hl, by simpa using rv⟩) (fun b u z => by have y : (none : Option HO) = some u := z; cases y) (fun b z => absurd rfl z) fun z => absurd rfl z
  | none =>
    refine core (fun b => if b = a then some (.frz { cls := .type "list", data := .seq vs.toArray } (.lst (ns.map V.int))) else none) (fun b => ?_) (.inl (.inr ⟨{ cls := .type "list", data := .seq vs.toArray }, if_pos rfl⟩)) (fun b u z => ?_) (fun b z => ?_) fun _ => hk
    · by_cases q : b = a
      · exact .inr ⟨_, _, if_pos q⟩
      · exact .inl (if_neg q)
    · by_cases q : b = a
      · have y := (if_pos q).symm.trans z
        cases y
        subst q
        exact ⟨ha, by rw [List.length_map]; exact hl, vs, _, rv, ha⟩
      · have y := (if_neg q).symm.trans z
        cases y
    · by_cases q : b = a
      · exact q
      · exact absurd (if_neg q) z
theorem walk_G {l : OpenLaw} {n k : Nat} {q : Program} {loose : List Str} {XP : (Str → Option Value) → Heap → Prop} {YP : World → Heap → Prop} {d : DefRec} {K : Params → Frag} {sp : World → Sp} {x : Str}
    (hn : l.most = some n) (hn2 : n ≤ sizeLine) (hdf : d.params.defaults = []) (hr : Room k callerA) (hY : ∀ (w : World) (h : Heap), YP w h → (K w.params).In h)
    (F : ∀ (w : World) (mg : Str → Option Value) (fa : Addr) (h : Heap), (K w.params).In h → h.Ns mainGlobals mg → XP mg h → mg d.name = some (.ref fa) →
      ∃ fd : FuncData, (∀ (s : Shared) (u : Value), BindsTo s fd ⟨[u], []⟩ [(x, u)]) ∧ ∀ base : Heap, (K w.params).In base → base.Ns mainGlobals mg → FnG l.prog w (K w.params) mg base k fa fd [x] (sp w))
    (hsp : ∀ (w : World) (H : Hp) (a : Addr) (ns : List Int), ns.length ≤ n → SqL (K w.params) H a (ns.map V.int) → sp w [.ref a] H (fun v _ => v = .bl true) fun _ _ _ => False) :
    WalkO q loose XP YP l.row.toRowW d [] (fun f vs => PySem.call f vs) := by
  refine Att.attach_call hn hdf fun w s₀ s₁ mg mb fa o pm cd doc a vs ns G Y ho hd hcd hmg hobj hints hlen hg => ?_
  obtain ⟨fd, hb, hF⟩ := F w mg fa _ (hY w _ Y) G.T.g G.X hmg
  exact law_G (hY w _ Y) G.T.g G.T.b G.T.builtins G.T.nolimit hg hobj hints (Nat.le_trans hlen hn2) hr hF hb (fun H hS => hsp w H a ns hlen hS)
end Fb
set_option Elab.async false
set_option linter.all false
set_option maxRecDepth 100000
set_option maxHeartbeats 2000000
/-! A layer over the rules' readings that speaks of data, not of heaps: what is read and never changed is plain data; what a def changes is its own. -/
namespace VL
open PySem PySem.Spec PyProof.Rows L2
inductive D : Type
  | non | bl (b : Bool) | int (i : Int) | str (s : Str)
  | tup (l : List D) | lst (l : List D) | dct (ks : List Key) (l : List D) | obj (C : Addr) (fs : List Str) (l : List D)
  | ref (a : Addr) | mem (as : List Addr) (l : List D)
/-- how a thing is held: as it is (nobody changes it), or one's own list, dict, instance -/
inductive Sh : Type
  | s | l (e : Sh) | d (f : Key → Sh) | o (f : Str → Sh)
abbrev Env := List (Option D)
def Fx : HO → Prop
  | .tup _ => True
  | .frz _ _ => True
  | .xd _ => True
  | _ => False
def ExtT (H H' : Hp) : Prop := ∀ b o, H b = some o → Fx o → H' b = some o
theorem ExtT.refl (H : Hp) : ExtT H H := fun _ _ e _ => e
theorem ExtT.trans {H H1 H2 : Hp} (a : ExtT H H1) (b : ExtT H1 H2) : ExtT H H2 := fun c o e f => b c o (a c o e f) f
theorem ExtT.same {H H' : Hp} (s : Same H H') : ExtT H H' := fun b o e _ => s b o e
theorem ExtT.upd {H : Hp} {a : Addr} {o : HO} (h : ∀ u, H a = some u → ¬ Fx u) : ExtT H (L2.upd H a o) := fun b u e f => by
  rw [upd_ne (show b ≠ a from fun z => h u (by rw [← z]; exact e) f)]
  exact e
theorem same_new {H : Hp} {p : Addr} {o : HO} (h : H p = none) : Same H (L2.upd H p o) := fun b x e => by
  rw [upd_ne (ne_of_none e h)]
  exact e
theorem sqT_ext {K : PySem.W.Frag} {H H' : Hp} {a : Addr} {xs : List V} (e : ExtT H H') (h : SqT K H a xs) : SqT K H' a xs := by
  rcases h with (h | ⟨o, h⟩) | h
  · exact .inl (.inl (e _ _ h True.intro))
  · exact .inl (.inr ⟨o, e _ _ h True.intro⟩)
  · exact .inr h
/-- a list of the module's own -/
def KLs (K : PySem.W.Frag) (a : Addr) (vs : List V) : Prop := ∃ (its : List Value) (n : Nat), K.lookup a = some { cls := .type "list", data := .seq its.toArray n } ∧ its.length ≤ sizeLine ∧ Vals vs its
def LsR (K : PySem.W.Frag) (H : Hp) (a : Addr) (vs : List V) : Prop := Rd H a (.lst vs) ∨ KLs K a vs
/-- a list that is read and that nobody changes -/
def LsS (K : PySem.W.Frag) (ow : Addr → Prop) (H : Hp) (a : Addr) (vs : List V) : Prop := (Rd H a (.lst vs) ∧ ¬ ow a) ∨ KLs K a vs
theorem LsR.sq {K : PySem.W.Frag} {H : Hp} {a : Addr} {vs : List V} (h : LsR K H a vs) : SqL K H a vs := by
  rcases h with h | ⟨its, n, h, z, r⟩
  · exact .inl h
  · exact .inr ⟨_, its.toArray, n, h, rfl, rfl, rfl, by rw [List.size_toArray]; exact z, by simpa using r⟩
theorem LsS.r {K : PySem.W.Frag} {ow : Addr → Prop} {H : Hp} {a : Addr} {vs : List V} (h : LsS K ow H a vs) : LsR K H a vs := by
  rcases h with h | h
  · exact .inl h.1
  · exact .inr h
theorem LsS.sq {K : PySem.W.Frag} {ow : Addr → Prop} {H : Hp} {a : Addr} {vs : List V} (h : LsS K ow H a vs) : SqL K H a vs := h.r.sq
mutual
def RS (K : PySem.W.Frag) (ow : Addr → Prop) (H : Hp) : D → V → Prop
  | .non, v => v = .non
  | .bl b, v => v = .bl b
  | .int i, v => v = .int i
  | .str s, v => v = .str s
  | .tup l, v => ∃ a vs, v = .ref a ∧ SqT K H a vs ∧ RSs K ow H l vs
  | .lst l, v => ∃ a vs, v = .ref a ∧ LsS K ow H a vs ∧ RSs K ow H l vs
  | .dct ks l, v => ∃ a vs, v = .ref a ∧ Rd H a (.dK (ks.zip vs)) ∧ ¬ ow a ∧ ks.length = vs.length ∧ RSs K ow H l vs
  | .obj C fs l, v => ∃ a dx vs, v = .ref a ∧ H a = some (.ins C dx (fs.zip vs)) ∧ ¬ ow a ∧ fs.length = vs.length ∧ RSs K ow H l vs
  | .ref a, v => v = .ref a
  | .mem _ _, _ => False
def RSs (K : PySem.W.Frag) (ow : Addr → Prop) (H : Hp) : List D → List V → Prop
  | [], vs => vs = []
  | d :: ds, vs => ∃ v r, vs = v :: r ∧ RS K ow H d v ∧ RSs K ow H ds r
end
mutual
def RO (K : PySem.W.Frag) (ow : Addr → Prop) (H : Hp) : D → Sh → V → List Addr → Prop
  | d, .s, v, fp => fp = [] ∧ RS K ow H d v
  | .lst l, .l e, v, fp => ∃ a vs fps, v = .ref a ∧ H a = some (.lst vs) ∧ ROs K ow H l (l.map fun _ => e) vs fps ∧ fp = a :: fps
  | .dct ks l, .d f, v, fp => ∃ a vs fps, v = .ref a ∧ H a = some (.dK (ks.zip vs)) ∧ ks.length = vs.length ∧ ROs K ow H l (ks.map f) vs fps ∧ fp = a :: fps
  | .obj C fs l, .o f, v, fp => ∃ a dx vs fps, v = .ref a ∧ H a = some (.ins C dx (fs.zip vs)) ∧ fs.length = vs.length ∧ ROs K ow H l (fs.map f) vs fps ∧ fp = a :: fps
  | _, _, _, _ => False
def ROs (K : PySem.W.Frag) (ow : Addr → Prop) (H : Hp) : List D → List Sh → List V → List Addr → Prop
  | [], shs, vs, fp => shs = [] ∧ vs = [] ∧ fp = []
  | d :: ds, shs, vs, fp => ∃ sh shs' v vs' f1 f2, shs = sh :: shs' ∧ vs = v :: vs' ∧ fp = f1 ++ f2 ∧ RO K ow H d sh v f1 ∧ ROs K ow H ds shs' vs' f2
end
section
variable {K : PySem.W.Frag} {ow ow' : Addr → Prop} {H H' : Hp}
theorem RO_s {d : D} {v : V} {fp : List Addr} : RO K ow H d .s v fp ↔ fp = [] ∧ RS K ow H d v := by
  cases d <;> simp only [RO]
/-! ### lists of data -/
theorem RSs.len : ∀ {ds : List D} {vs : List V}, RSs K ow H ds vs → vs.length = ds.length
  | [], _, h => by simp only [RSs] at h; rw [h]; rfl
  | d :: ds, _, h => by
    simp only [RSs] at h
    obtain ⟨v, r, rfl, _, h⟩ := h
    rw [List.length_cons, List.length_cons, RSs.len h]
theorem RSs.nil : RSs K ow H [] [] := by simp only [RSs]
theorem RSs.cons {d : D} {v : V} {ds : List D} {vs : List V} (h : RS K ow H d v) (t : RSs K ow H ds vs) : RSs K ow H (d :: ds) (v :: vs) := by
  simp only [RSs]
  exact ⟨v, vs, rfl, h, t⟩
theorem RSs.uncons {d : D} {v : V} {ds : List D} {vs : List V} (h : RSs K ow H (d :: ds) (v :: vs)) : RS K ow H d v ∧ RSs K ow H ds vs := by
  simp only [RSs] at h
  obtain ⟨v', r, e, h1, h2⟩ := h
  cases e
  exact ⟨h1, h2⟩
theorem RSs.app {es : List D} {ws : List V} (h2 : RSs K ow H es ws) : ∀ {ds : List D} {vs : List V}, RSs K ow H ds vs → RSs K ow H (ds ++ es) (vs ++ ws)
  | [], _, h => by simp only [RSs] at h; rw [h]; exact h2
  | d :: ds, _, h => by
    simp only [RSs] at h
    obtain ⟨v, r, rfl, h, t⟩ := h
    exact .cons h (RSs.app h2 t)
theorem RSs.take : ∀ {ds : List D} {vs : List V} (n : Nat), RSs K ow H ds vs → RSs K ow H (ds.take n) (vs.take n)
  | _, _, 0, _ => by rw [List.take_zero, List.take_zero]; exact .nil
  | [], _, n + 1, h => by simp only [RSs] at h; rw [h]; exact .nil
  | d :: ds, _, n + 1, h => by
    simp only [RSs] at h
    obtain ⟨v, r, rfl, h, t⟩ := h
    exact .cons h (RSs.take n t)
theorem RSs.drop : ∀ {ds : List D} {vs : List V} (n : Nat), RSs K ow H ds vs → RSs K ow H (ds.drop n) (vs.drop n)
  | _, _, 0, h => h
  | [], _, n + 1, h => by simp only [RSs] at h; rw [h]; exact .nil
  | d :: ds, _, n + 1, h => by
    simp only [RSs] at h
    obtain ⟨v, r, rfl, h, t⟩ := h
    exact RSs.drop n t
theorem RSs.get : ∀ {ds : List D} {vs : List V} {i : Nat} {d : D}, RSs K ow H ds vs → ds[i]? = some d → ∃ v, vs[i]? = some v ∧ RS K ow H d v
  | [], _, i, d, _, e => by simp at e
  | d0 :: ds, _, 0, d, h, e => by
    simp only [RSs] at h
    obtain ⟨v, r, rfl, h, t⟩ := h
    simp only [List.getElem?_cons_zero, Option.some.injEq] at e
    subst e
    exact ⟨v, rfl, h⟩
  | d0 :: ds, _, i + 1, d, h, e => by
    simp only [RSs] at h
    obtain ⟨v, r, rfl, h, t⟩ := h
    simp only [List.getElem?_cons_succ] at e
    obtain ⟨u, h1, h2⟩ := RSs.get t e
    exact ⟨u, by simpa using h1, h2⟩
theorem RSs.getV {ds : List D} {vs : List V} {i : Nat} {v : V} (h : RSs K ow H ds vs) (e : vs[i]? = some v) : ∃ d, ds[i]? = some d ∧ RS K ow H d v := by
  have hl := h.len
  have hi : i < ds.length := by
    have := (List.getElem?_eq_some_iff.mp e).1
    omega
  obtain ⟨u, h1, h2⟩ := h.get (List.getElem?_eq_getElem hi)
  rw [e] at h1
  cases h1
  exact ⟨_, List.getElem?_eq_getElem hi, h2⟩
theorem RSs.set : ∀ {ds : List D} {vs : List V} {d : D} {v : V} (i : Nat), RSs K ow H ds vs → RS K ow H d v → RSs K ow H (ds.set i d) (vs.set i v)
  | [], _, _, _, _, h, _ => by simp only [RSs] at h; rw [h]; exact .nil
  | d0 :: ds, _, _, _, 0, h, r => by
    simp only [RSs] at h
    obtain ⟨v, r', rfl, h, t⟩ := h
    exact .cons r t
  | d0 :: ds, _, _, _, i + 1, h, r => by
    simp only [RSs] at h
    obtain ⟨v, r', rfl, h, t⟩ := h
    exact .cons h (RSs.set i t r)
/-! ### what stays -/
structure Fr (ow : Addr → Prop) (H H' : Hp) : Prop where
  kp : ∀ b o, H b = some o → ¬ ow b → H' b = some o
  tp : ExtT H H'
theorem Fr.rd {a : Addr} {u : HO} (F : Fr ow H H') (h : Rd H a u) (n : ¬ ow a) : Rd H' a u := by
  rcases h with h | ⟨o, h⟩
  · exact .inl (F.kp _ _ h n)
  · exact .inr ⟨o, F.kp _ _ h n⟩
theorem Rd.some {a : Addr} {u : HO} (h : Rd H a u) : H a ≠ none := by
  rcases h with h | ⟨o, h⟩ <;> (rw [h]; simp)
mutual
theorem RS.fr (F : Fr ow H H') (how : ∀ a, ow' a → ow a ∨ H a = none) : ∀ (d : D) (v : V), RS K ow H d v → RS K ow' H' d v
  | .non, _, h => by simp only [RS] at h ⊢; exact h
  | .bl b, _, h => by simp only [RS] at h ⊢; exact h
  | .int i, _, h => by simp only [RS] at h ⊢; exact h
  | .str s, _, h => by simp only [RS] at h ⊢; exact h
  | .tup l, _, h => by
    simp only [RS] at h ⊢
    obtain ⟨a, vs, e, q, t⟩ := h
    exact ⟨a, vs, e, sqT_ext F.tp q, RSs.fr F how l vs t⟩
  | .lst l, _, h => by
    simp only [RS] at h ⊢
    obtain ⟨a, vs, e, q, t⟩ := h
    refine ⟨a, vs, e, ?_, RSs.fr F how l vs t⟩
    rcases q with ⟨q, n⟩ | q
    · exact .inl ⟨F.rd q n, fun z => (how a z).elim n (Rd.some q)⟩
    · exact .inr q
  | .dct ks l, _, h => by
    simp only [RS] at h ⊢
    obtain ⟨a, vs, e, q, n, k, t⟩ := h
    exact ⟨a, vs, e, F.rd q n, fun z => (how a z).elim n (Rd.some q), k, RSs.fr F how l vs t⟩
  | .obj C fs l, _, h => by
    simp only [RS] at h ⊢
    obtain ⟨a, dx, vs, e, q, n, k, t⟩ := h
    exact ⟨a, dx, vs, e, F.kp _ _ q n, fun z => (how a z).elim n (by rw [q]; simp), k, RSs.fr F how l vs t⟩
  | .ref a, _, h => by simp only [RS] at h ⊢; exact h
  | .mem _ _, _, h => by simp only [RS] at h
theorem RSs.fr (F : Fr ow H H') (how : ∀ a, ow' a → ow a ∨ H a = none) : ∀ (ds : List D) (vs : List V), RSs K ow H ds vs → RSs K ow' H' ds vs
  | [], _, h => by simp only [RSs] at h ⊢; exact h
  | d :: ds, _, h => by
    simp only [RSs] at h
    obtain ⟨v, r, rfl, h, t⟩ := h
    exact .cons (RS.fr F how d v h) (RSs.fr F how ds r t)
end
theorem Fr.refl (ow : Addr → Prop) (H : Hp) : Fr ow H H := ⟨fun _ _ e _ => e, ExtT.refl H⟩
theorem Fr.same (s : Same H H') : Fr ow H H' := ⟨fun b o e _ => s b o e, ExtT.same s⟩
/-- fewer are avoided -/
theorem RS.less {d : D} {v : V} (h : RS K ow H d v) (how : ∀ a, ow' a → ow a) : RS K ow' H d v := RS.fr (Fr.refl _ _) (fun a z => .inl (how a z)) d v h
theorem RSs.less {ds : List D} {vs : List V} (h : RSs K ow H ds vs) (how : ∀ a, ow' a → ow a) : RSs K ow' H ds vs := RSs.fr (Fr.refl _ _) (fun a z => .inl (how a z)) ds vs h
mutual
theorem RO.fr (hk : ∀ b o, H b = some o → ¬ ow b → H' b = some o) (hT : ExtT H H') (how : ∀ a, ow' a → ow a ∨ H a = none) : ∀ (d : D) (sh : Sh) (v : V) (fp : List Addr), RO K ow H d sh v fp → (∀ b ∈ fp, ∀ o, H b = some o → H' b = some o) → RO K ow' H' d sh v fp
  | d, .s, v, fp, h, _ => by
    rw [RO_s] at h ⊢
    exact ⟨h.1, RS.fr ⟨hk, hT⟩ how d v h.2⟩
  | .lst l, .l e, v, fp, h, k => by
    simp only [RO] at h ⊢
    obtain ⟨a, vs, fps, rfl, q, t, rfl⟩ := h
    exact ⟨a, vs, fps, rfl, k a List.mem_cons_self _ q, ROs.fr hk hT how l _ vs fps t (fun b z => k b (List.mem_cons_of_mem _ z)), rfl⟩
  | .dct ks l, .d f, v, fp, h, k => by
    simp only [RO] at h ⊢
    obtain ⟨a, vs, fps, rfl, q, n, t, rfl⟩ := h
    exact ⟨a, vs, fps, rfl, k a List.mem_cons_self _ q, n, ROs.fr hk hT how l _ vs fps t (fun b z => k b (List.mem_cons_of_mem _ z)), rfl⟩
  | .obj C fs l, .o f, v, fp, h, k => by
    simp only [RO] at h ⊢
    obtain ⟨a, dx, vs, fps, rfl, q, n, t, rfl⟩ := h
    exact ⟨a, dx, vs, fps, rfl, k a List.mem_cons_self _ q, n, ROs.fr hk hT how l _ vs fps t (fun b z => k b (List.mem_cons_of_mem _ z)), rfl⟩
  | .non, .l _, _, _, h, _ | .bl _, .l _, _, _, h, _ | .int _, .l _, _, _, h, _ | .str _, .l _, _, _, h, _ | .tup _, .l _, _, _, h, _ | .dct _ _, .l _, _, _, h, _ | .obj _ _ _, .l _, _, _, h, _ | .ref _, .l _, _, _, h, _ | .mem _ _, .l _, _, _, h, _ => by simp only [RO] at h
  | .non, .d _, _, _, h, _ | .bl _, .d _, _, _, h, _ | .int _, .d _, _, _, h, _ | .str _, .d _, _, _, h, _ | .tup _, .d _, _, _, h, _ | .lst _, .d _, _, _, h, _ | .obj _ _ _, .d _, _, _, h, _ | .ref _, .d _, _, _, h, _ | .mem _ _, .d _, _, _, h, _ => by simp only [RO] at h
  | .non, .o _, _, _, h, _ | .bl _, .o _, _, _, h, _ | .int _, .o _, _, _, h, _ | .str _, .o _, _, _, h, _ | .tup _, .o _, _, _, h, _ | .lst _, .o _, _, _, h, _ | .dct _ _, .o _, _, _, h, _ | .ref _, .o _, _, _, h, _ | .mem _ _, .o _, _, _, h, _ => by simp only [RO] at h
theorem ROs.fr (hk : ∀ b o, H b = some o → ¬ ow b → H' b = some o) (hT : ExtT H H') (how : ∀ a, ow' a → ow a ∨ H a = none) : ∀ (ds : List D) (shs : List Sh) (vs : List V) (fp : List Addr), ROs K ow H ds shs vs fp → (∀ b ∈ fp, ∀ o, H b = some o → H' b = some o) → ROs K ow' H' ds shs vs fp
  | [], _, _, _, h, _ => by simp only [ROs] at h ⊢; exact h
  | d :: ds, _, _, _, h, k => by
    simp only [ROs] at h ⊢
    obtain ⟨sh, shs', v, vs', f1, f2, e1, e2, e3, h1, h2⟩ := h
    subst e3
    exact ⟨sh, shs', v, vs', f1, f2, e1, e2, rfl, RO.fr hk hT how d sh v f1 h1 (fun b z => k b (List.mem_append_left _ z)), ROs.fr hk hT how ds shs' vs' f2 h2 (fun b z => k b (List.mem_append_right _ z))⟩
end
/-! what is one's own stands, and is no tuple -/
mutual
theorem RO.at : ∀ (d : D) (sh : Sh) (v : V) (fp : List Addr), RO K ow H d sh v fp → ∀ a ∈ fp, ∃ o, H a = some o ∧ ¬ Fx o
  | d, .s, v, fp, h => by
    rw [RO_s] at h
    rw [h.1]
    intro a z
    cases z
  | .lst l, .l e, v, fp, h => by
    simp only [RO] at h
    obtain ⟨a, vs, fps, rfl, q, t, rfl⟩ := h
    intro b z
    rcases List.mem_cons.mp z with e | e
    · rw [e]; exact ⟨_, q, id⟩
    · exact ROs.at l _ vs fps t b e
  | .dct ks l, .d f, v, fp, h => by
    simp only [RO] at h
    obtain ⟨a, vs, fps, rfl, q, n, t, rfl⟩ := h
    intro b z
    rcases List.mem_cons.mp z with e | e
    · rw [e]; exact ⟨_, q, id⟩
    · exact ROs.at l _ vs fps t b e
  | .obj C fs l, .o f, v, fp, h => by
    simp only [RO] at h
    obtain ⟨a, dx, vs, fps, rfl, q, n, t, rfl⟩ := h
    intro b z
    rcases List.mem_cons.mp z with e | e
    · rw [e]; exact ⟨_, q, id⟩
    · exact ROs.at l _ vs fps t b e
  | .non, .l _, _, _, h | .bl _, .l _, _, _, h | .int _, .l _, _, _, h | .str _, .l _, _, _, h | .tup _, .l _, _, _, h | .dct _ _, .l _, _, _, h | .obj _ _ _, .l _, _, _, h | .ref _, .l _, _, _, h | .mem _ _, .l _, _, _, h => by simp only [RO] at h
  | .non, .d _, _, _, h | .bl _, .d _, _, _, h | .int _, .d _, _, _, h | .str _, .d _, _, _, h | .tup _, .d _, _, _, h | .lst _, .d _, _, _, h | .obj _ _ _, .d _, _, _, h | .ref _, .d _, _, _, h | .mem _ _, .d _, _, _, h => by simp only [RO] at h
  | .non, .o _, _, _, h | .bl _, .o _, _, _, h | .int _, .o _, _, _, h | .str _, .o _, _, _, h | .tup _, .o _, _, _, h | .lst _, .o _, _, _, h | .dct _ _, .o _, _, _, h | .ref _, .o _, _, _, h | .mem _ _, .o _, _, _, h => by simp only [RO] at h
theorem ROs.at : ∀ (ds : List D) (shs : List Sh) (vs : List V) (fp : List Addr), ROs K ow H ds shs vs fp → ∀ a ∈ fp, ∃ o, H a = some o ∧ ¬ Fx o
  | [], _, _, _, h => by
    simp only [ROs] at h
    rw [h.2.2]
    intro a z
    cases z
  | d :: ds, _, _, _, h => by
    simp only [ROs] at h
    obtain ⟨sh, shs', v, vs', f1, f2, e1, e2, e3, h1, h2⟩ := h
    subst e3
    intro a z
    rcases List.mem_append.mp z with e | e
    · exact RO.at d sh v f1 h1 a e
    · exact ROs.at ds shs' vs' f2 h2 a e
end
/-! one's own let go: from now on nobody changes it -/
mutual
theorem RO.let : ∀ (d : D) (sh : Sh) (v : V) (fp : List Addr), RO K ow H d sh v fp → (∀ a, ow' a → ow a ∧ a ∉ fp) → RS K ow' H d v
  | d, .s, v, fp, h, k => by
    rw [RO_s] at h
    exact h.2.less fun a z => (k a z).1
  | .lst l, .l e, v, fp, h, k => by
    simp only [RO] at h
    obtain ⟨a, vs, fps, rfl, q, t, rfl⟩ := h
    simp only [RS]
    exact ⟨a, vs, rfl, .inl ⟨.inl q, fun z => (k a z).2 List.mem_cons_self⟩, ROs.let l _ vs fps t fun b z => ⟨(k b z).1, fun y => (k b z).2 (List.mem_cons_of_mem _ y)⟩⟩
  | .dct ks l, .d f, v, fp, h, k => by
    simp only [RO] at h
    obtain ⟨a, vs, fps, rfl, q, n, t, rfl⟩ := h
    simp only [RS]
    exact ⟨a, vs, rfl, .inl q, fun z => (k a z).2 List.mem_cons_self, n, ROs.let l _ vs fps t fun b z => ⟨(k b z).1, fun y => (k b z).2 (List.mem_cons_of_mem _ y)⟩⟩
  | .obj C fs l, .o f, v, fp, h, k => by
    simp only [RO] at h
    obtain ⟨a, dx, vs, fps, rfl, q, n, t, rfl⟩ := h
    simp only [RS]
    exact ⟨a, dx, vs, rfl, q, fun z => (k a z).2 List.mem_cons_self, n, ROs.let l _ vs fps t fun b z => ⟨(k b z).1, fun y => (k b z).2 (List.mem_cons_of_mem _ y)⟩⟩
  | .non, .l _, _, _, h, _ | .bl _, .l _, _, _, h, _ | .int _, .l _, _, _, h, _ | .str _, .l _, _, _, h, _ | .tup _, .l _, _, _, h, _ | .dct _ _, .l _, _, _, h, _ | .obj _ _ _, .l _, _, _, h, _ | .ref _, .l _, _, _, h, _ | .mem _ _, .l _, _, _, h, _ => by simp only [RO] at h
  | .non, .d _, _, _, h, _ | .bl _, .d _, _, _, h, _ | .int _, .d _, _, _, h, _ | .str _, .d _, _, _, h, _ | .tup _, .d _, _, _, h, _ | .lst _, .d _, _, _, h, _ | .obj _ _ _, .d _, _, _, h, _ | .ref _, .d _, _, _, h, _ | .mem _ _, .d _, _, _, h, _ => by simp only [RO] at h
  | .non, .o _, _, _, h, _ | .bl _, .o _, _, _, h, _ | .int _, .o _, _, _, h, _ | .str _, .o _, _, _, h, _ | .tup _, .o _, _, _, h, _ | .lst _, .o _, _, _, h, _ | .dct _ _, .o _, _, _, h, _ | .ref _, .o _, _, _, h, _ | .mem _ _, .o _, _, _, h, _ => by simp only [RO] at h
theorem ROs.let : ∀ (ds : List D) (shs : List Sh) (vs : List V) (fp : List Addr), ROs K ow H ds shs vs fp → (∀ a, ow' a → ow a ∧ a ∉ fp) → RSs K ow' H ds vs
  | [], _, _, _, h, _ => by
    simp only [ROs] at h
    rw [h.2.1]
    exact .nil
  | d :: ds, _, _, _, h, k => by
    simp only [ROs] at h
    obtain ⟨sh, shs', v, vs', f1, f2, e1, e2, e3, h1, h2⟩ := h
    subst e2 e3
    exact .cons (RO.let d sh v f1 h1 fun b z => ⟨(k b z).1, fun y => (k b z).2 (List.mem_append_left _ y)⟩) (ROs.let ds shs' vs' f2 h2 fun b z => ⟨(k b z).1, fun y => (k b z).2 (List.mem_append_right _ y)⟩)
end
end
end VL
set_option Elab.async false
set_option linter.all false
set_option maxRecDepth 100000
set_option maxHeartbeats 2000000
namespace VL
open PySem PySem.Spec PyProof.Rows L2
/-! ### where a def stands: what it holds in hand, its names, the heap -/
abbrev Tm := Sh × V × D
structure Vc where
  K : PySem.W.Frag
  H0 : Hp
  io : Addr → Prop
  av : Addr → Prop
  M : List Sh
  rt : List (Nat × V)
section
variable (K : PySem.W.Frag) (ow : Addr → Prop) (H : Hp)
def RT : List Tm → List Addr → Prop
  | [], fp => fp = []
  | t :: T, fp => ∃ f1 f2, fp = f1 ++ f2 ∧ RO K ow H t.2.2 t.1 t.2.1 f1 ∧ RT T f2
def Slot (sh : Sh) (x : Option V) (y : Option D) (fp : List Addr) : Prop :=
  match y with
  | none => fp = []
  | some d => ∃ v, x = some v ∧ RO K ow H d sh v fp
def RV : List Sh → L2.St → Env → List Addr → Prop
  | [], σ, e, fp => σ = [] ∧ e = [] ∧ fp = []
  | sh :: M, σ, e, fp => ∃ x σ' y e' f1 f2, σ = x :: σ' ∧ e = y :: e' ∧ fp = f1 ++ f2 ∧ Slot K ow H sh x y f1 ∧ RV M σ' e' f2
/-- the things that several hold: a place behind the names -/
def cellSh : D → Sh
  | .lst _ => .l .s
  | .dct _ _ => .d fun _ => .s
  | .obj _ _ _ => .o fun _ => .s
  | _ => .s
def RM : List Addr → List D → Prop
  | [], [] => True
  | a :: as, d :: l => RO K ow H d (cellSh d) (.ref a) [a] ∧ RM as l
  | _, _ => False
def Tail (e : Env) (fp : List Addr) : Prop :=
  match e with
  | [] => fp = []
  | [none] => fp = []
  | [some (.mem as l)] => fp = as ∧ RM K ow H as l
  | _ => False
def RVT (M : List Sh) (σ : L2.St) (e : Env) (fp : List Addr) : Prop := ∃ e0 tl f0 ft, e = e0 ++ tl ∧ fp = f0 ++ ft ∧ RV K ow H M σ e0 f0 ∧ Tail K ow H tl ft
end
section
variable {K : PySem.W.Frag} {ow ow' : Addr → Prop} {H H' : Hp}
theorem RT.fr (hk : ∀ b o, H b = some o → ¬ ow b → H' b = some o) (hT : ExtT H H') (how : ∀ a, ow' a → ow a ∨ H a = none) : ∀ {T : List Tm} {fp : List Addr}, RT K ow H T fp → (∀ b ∈ fp, ∀ o, H b = some o → H' b = some o) → RT K ow' H' T fp
  | [], _, h, _ => h
  | t :: T, _, ⟨f1, f2, e, h1, h2⟩, k => by
    subst e
    exact ⟨f1, f2, rfl, RO.fr hk hT how _ _ _ _ h1 (fun b z => k b (List.mem_append_left _ z)), RT.fr hk hT how h2 (fun b z => k b (List.mem_append_right _ z))⟩
theorem Slot.fr (hk : ∀ b o, H b = some o → ¬ ow b → H' b = some o) (hT : ExtT H H') (how : ∀ a, ow' a → ow a ∨ H a = none) {sh : Sh} {x : Option V} {y : Option D} {fp : List Addr} (h : Slot K ow H sh x y fp) (k : ∀ b ∈ fp, ∀ o, H b = some o → H' b = some o) : Slot K ow' H' sh x y fp := by
  cases y with
  | none => exact h
  | some d =>
    obtain ⟨v, e, r⟩ := h
    exact ⟨v, e, RO.fr hk hT how _ _ _ _ r k⟩
theorem RV.fr (hk : ∀ b o, H b = some o → ¬ ow b → H' b = some o) (hT : ExtT H H') (how : ∀ a, ow' a → ow a ∨ H a = none) : ∀ {M : List Sh} {σ : L2.St} {e : Env} {fp : List Addr}, RV K ow H M σ e fp → (∀ b ∈ fp, ∀ o, H b = some o → H' b = some o) → RV K ow' H' M σ e fp
  | [], _, _, _, h, _ => h
  | sh :: M, _, _, _, ⟨x, σ', y, e', f1, f2, e1, e2, e3, h1, h2⟩, k => by
    subst e3
    exact ⟨x, σ', y, e', f1, f2, e1, e2, rfl, h1.fr hk hT how (fun b z => k b (List.mem_append_left _ z)), RV.fr hk hT how h2 (fun b z => k b (List.mem_append_right _ z))⟩
theorem RT.at : ∀ {T : List Tm} {fp : List Addr}, RT K ow H T fp → ∀ a ∈ fp, ∃ o, H a = some o ∧ ¬ Fx o
  | [], _, h, a, z => by
    have h : _ = [] := h
    rw [h] at z
    cases z
  | t :: T, _, ⟨f1, f2, e, h1, h2⟩, a, z => by
    subst e
    rcases List.mem_append.mp z with q | q
    · exact RO.at _ _ _ _ h1 a q
    · exact RT.at h2 a q
theorem Slot.at {sh : Sh} {x : Option V} {y : Option D} {fp : List Addr} (h : Slot K ow H sh x y fp) : ∀ a ∈ fp, ∃ o, H a = some o ∧ ¬ Fx o := by
  cases y with
  | none =>
    have h : fp = [] := h
    rw [h]
    intro a z
    cases z
  | some d =>
    obtain ⟨v, e, r⟩ := h
    exact RO.at _ _ _ _ r
theorem RV.at : ∀ {M : List Sh} {σ : L2.St} {e : Env} {fp : List Addr}, RV K ow H M σ e fp → ∀ a ∈ fp, ∃ o, H a = some o ∧ ¬ Fx o
  | [], _, _, _, h, a, z => by
    rw [h.2.2] at z
    cases z
  | sh :: M, _, _, _, ⟨x, σ', y, e', f1, f2, e1, e2, e3, h1, h2⟩, a, z => by
    subst e3
    rcases List.mem_append.mp z with q | q
    · exact h1.at a q
    · exact RV.at h2 a q
/-- one name among the others -/
theorem RV.split : ∀ {M : List Sh} {σ : L2.St} {e : Env} {fV : List Addr} {i : Nat} {sh : Sh}, RV K ow H M σ e fV → M[i]? = some sh →
    ∃ f1 fp f2 x y, σ[i]? = some x ∧ e[i]? = some y ∧ fV = f1 ++ (fp ++ f2) ∧ Slot K ow H sh x y fp ∧
      ∀ {H' : Hp} {ow' : Addr → Prop} {x' : Option V} {y' : Option D} {fp' : List Addr}, (∀ b o, H b = some o → ¬ ow b → H' b = some o) → ExtT H H' → (∀ a, ow' a → ow a ∨ H a = none) → (∀ b ∈ f1 ++ f2, ∀ o, H b = some o → H' b = some o) → Slot K ow' H' sh x' y' fp' →
        RV K ow' H' M (σ.set i x') (e.set i y') (f1 ++ (fp' ++ f2))
  | [], _, _, _, i, _, _, hM => by simp at hM
  | sh0 :: M, _, _, _, 0, sh, ⟨x, σ', y, e', f1, f2, e1, e2, e3, h1, h2⟩, hM => by
    subst e1 e2 e3
    simp only [List.getElem?_cons_zero, Option.some.injEq] at hM
    subst hM
    refine ⟨[], f1, f2, x, y, rfl, rfl, rfl, h1, fun {H' ow' x' y' fp'} hk hT how k s => ?_⟩
    exact ⟨x', σ', y', e', fp', f2, rfl, rfl, rfl, s, RV.fr hk hT how h2 (fun b z => k b z)⟩
  | sh0 :: M, _, _, _, i + 1, sh, ⟨x, σ', y, e', f1, f2, e1, e2, e3, h1, h2⟩, hM => by
    subst e1 e2 e3
    simp only [List.getElem?_cons_succ] at hM
    obtain ⟨g1, fp, g2, x2, y2, a1, a2, a3, a4, a5⟩ := RV.split h2 hM
    subst a3
    refine ⟨f1 ++ g1, fp, g2, x2, y2, by simpa using a1, by simpa using a2, by simp, a4, fun {H' ow' x' y' fp'} hk hT how k s => ?_⟩
    refine ⟨x, σ'.set i x', y, e'.set i y', f1, g1 ++ (fp' ++ g2), rfl, rfl, by simp, h1.fr hk hT how (fun b z => k b (by simp [z])), ?_⟩
    exact a5 hk hT how (fun b z => k b (by
      rcases List.mem_append.mp z with q | q
      · simp [q]
      · simp [q])) s
theorem RM.fr (hk : ∀ b o, H b = some o → ¬ ow b → H' b = some o) (hT : ExtT H H') (how : ∀ a, ow' a → ow a ∨ H a = none) : ∀ {as : List Addr} {l : List D}, RM K ow H as l → (∀ b ∈ as, ∀ o, H b = some o → H' b = some o) → RM K ow' H' as l
  | [], [], h, _ => h
  | a :: as, d :: l, ⟨h, t⟩, k => ⟨RO.fr hk hT how _ _ _ _ h (fun b z => k b (by rw [List.mem_singleton.mp z]; exact List.mem_cons_self)), RM.fr hk hT how t (fun b z => k b (List.mem_cons_of_mem _ z))⟩
  | [], _ :: _, h, _ => h.elim
  | _ :: _, [], h, _ => h.elim
theorem RM.at : ∀ {as : List Addr} {l : List D}, RM K ow H as l → ∀ a ∈ as, ∃ o, H a = some o ∧ ¬ Fx o
  | [], [], _, a, z => by cases z
  | a :: as, d :: l, ⟨h, t⟩, b, z => by
    rcases List.mem_cons.mp z with e | e
    · rw [e]; exact RO.at _ _ _ _ h a List.mem_cons_self
    · exact RM.at t b e
  | [], _ :: _, h, _, _ => h.elim
  | _ :: _, [], h, _, _ => h.elim
theorem Tail.cs {e : Env} {fp : List Addr} (h : Tail K ow H e fp) : (e = [] ∧ fp = []) ∨ (e = [none] ∧ fp = []) ∨ ∃ as l, e = [some (.mem as l)] ∧ fp = as ∧ RM K ow H as l := by
  unfold Tail at h
  split at h
  · exact .inl ⟨rfl, h⟩
  · exact .inr (.inl ⟨rfl, h⟩)
  · exact .inr (.inr ⟨_, _, rfl, h⟩)
  · exact h.elim
theorem Tail.fr (hk : ∀ b o, H b = some o → ¬ ow b → H' b = some o) (hT : ExtT H H') (how : ∀ a, ow' a → ow a ∨ H a = none) {e : Env} {fp : List Addr} (h : Tail K ow H e fp) (k : ∀ b ∈ fp, ∀ o, H b = some o → H' b = some o) : Tail K ow' H' e fp := by
  rcases h.cs with ⟨rfl, rfl⟩ | ⟨rfl, rfl⟩ | ⟨as, l, rfl, rfl, r⟩
  · rfl
  · rfl
  · exact ⟨rfl, r.fr hk hT how k⟩
theorem Tail.at {e : Env} {fp : List Addr} (h : Tail K ow H e fp) : ∀ a ∈ fp, ∃ o, H a = some o ∧ ¬ Fx o := by
  rcases h.cs with ⟨rfl, rfl⟩ | ⟨rfl, rfl⟩ | ⟨as, l, rfl, rfl, r⟩
  · intro a z
    cases z
  · intro a z
    cases z
  · exact r.at
theorem Tail.le {e : Env} {fp : List Addr} (h : Tail K ow H e fp) : e.length ≤ 1 := by
  rcases h.cs with ⟨rfl, rfl⟩ | ⟨rfl, rfl⟩ | ⟨as, l, rfl, rfl, r⟩ <;> simp
theorem RV.len : ∀ {M : List Sh} {σ : L2.St} {e : Env} {fp : List Addr}, RV K ow H M σ e fp → σ.length = M.length ∧ e.length = M.length
  | [], _, _, _, h => by rw [h.1, h.2.1]; exact ⟨rfl, rfl⟩
  | sh :: M, _, _, _, ⟨x, σ', y, e', f1, f2, e1, e2, e3, h1, h2⟩ => by
    subst e1 e2
    obtain ⟨a, b⟩ := RV.len h2
    exact ⟨by rw [List.length_cons, List.length_cons, a], by rw [List.length_cons, List.length_cons, b]⟩
section
variable {M : List Sh} {σ : L2.St} {e : Env} {fp : List Addr}
theorem RVT.of (h : RV K ow H M σ e fp) : RVT K ow H M σ e fp := ⟨e, [], fp, [], by simp, by simp, h, rfl⟩
theorem RVT.len (h : RVT K ow H M σ e fp) : σ.length = M.length ∧ M.length ≤ e.length ∧ e.length ≤ M.length + 1 := by
  obtain ⟨e0, tl, f0, ft, rfl, rfl, r, t⟩ := h
  have a := r.len
  have b := t.le
  rw [List.length_append]
  omega
theorem RVT.strict (h : RVT K ow H M σ e fp) (hl : e.length = M.length) : RV K ow H M σ e fp := by
  obtain ⟨e0, tl, f0, ft, rfl, rfl, r, t⟩ := h
  have a := r.len
  rw [List.length_append] at hl
  have z : tl = [] := List.length_eq_zero_iff.mp (by omega)
  subst z
  have t : ft = [] := t
  subst t
  simpa using r
theorem RVT.fr (hk : ∀ b o, H b = some o → ¬ ow b → H' b = some o) (hT : ExtT H H') (how : ∀ a, ow' a → ow a ∨ H a = none) (h : RVT K ow H M σ e fp) (k : ∀ b ∈ fp, ∀ o, H b = some o → H' b = some o) : RVT K ow' H' M σ e fp := by
  obtain ⟨e0, tl, f0, ft, rfl, rfl, r, t⟩ := h
  exact ⟨e0, tl, f0, ft, rfl, rfl, r.fr hk hT how (fun b z => k b (List.mem_append_left _ z)), t.fr hk hT how (fun b z => k b (List.mem_append_right _ z))⟩
theorem RVT.at (h : RVT K ow H M σ e fp) : ∀ a ∈ fp, ∃ o, H a = some o ∧ ¬ Fx o := by
  obtain ⟨e0, tl, f0, ft, rfl, rfl, r, t⟩ := h
  intro a z
  rcases List.mem_append.mp z with z | z
  · exact r.at a z
  · exact t.at a z
theorem RVT.split {i : Nat} {sh : Sh} (h : RVT K ow H M σ e fp) (hM : M[i]? = some sh) :
    ∃ f1 fq f2 x y, σ[i]? = some x ∧ e[i]? = some y ∧ fp = f1 ++ (fq ++ f2) ∧ Slot K ow H sh x y fq ∧
      ∀ {H' : Hp} {ow' : Addr → Prop} {x' : Option V} {y' : Option D} {fp' : List Addr}, (∀ b o, H b = some o → ¬ ow b → H' b = some o) → ExtT H H' → (∀ a, ow' a → ow a ∨ H a = none) → (∀ b ∈ f1 ++ f2, ∀ o, H b = some o → H' b = some o) → Slot K ow' H' sh x' y' fp' →
        RVT K ow' H' M (σ.set i x') (e.set i y') (f1 ++ (fp' ++ f2)) := by
  obtain ⟨e0, tl, f0, ft, rfl, rfl, r, t⟩ := h
  have hl := r.len
  obtain ⟨f1, fq, f2, x, y, a1, a2, a3, a4, a5⟩ := r.split hM
  subst a3
  have hi : i < e0.length := (List.getElem?_eq_some_iff.mp a2).1
  refine ⟨f1, fq, f2 ++ ft, x, y, a1, by rw [List.getElem?_append_left hi]; exact a2, by simp, a4, fun {H' ow' x' y' fp'} hk hT how k s => ?_⟩
  refine ⟨e0.set i y', tl, f1 ++ (fp' ++ f2), ft, by rw [List.set_append_left i y' hi], by simp, a5 hk hT how (fun b z => k b ?_) s, t.fr hk hT how (fun b z => k b (by simp [z]))⟩
  rcases List.mem_append.mp z with z | z <;> simp [z]
end
end
def owOf (c : Vc) (fT fV : List Addr) : Addr → Prop := fun a => a ∈ fT ++ fV ∨ c.av a
structure RX (c : Vc) (fT fV : List Addr) (T : List Tm) (σ : L2.St) (e : Env) (H : Hp) : Prop where
  tm : RT c.K (owOf c fT fV) H T fT
  vr : RVT c.K (owOf c fT fV) H c.M σ e fV
  nd : (fT ++ fV).Nodup
  fr : ∀ a ∈ fT ++ fV, c.io a ∨ c.H0 a = none
  kp : ∀ b o, c.H0 b = some o → ¬ c.io b → H b = some o
  tp : ExtT c.H0 H
  al : ∀ b, c.H0 b ≠ none → H b ≠ none
  ok : ∀ a, c.av a → c.H0 a ≠ none ∧ ¬ c.io a
  rt : ∀ p ∈ c.rt, σ[p.1]? = some (some p.2)
def R (c : Vc) (T : List Tm) (σ : L2.St) (e : Env) (H : Hp) : Prop := ∃ fT fV, RX c fT fV T σ e H
section
variable {c : Vc} {fT fV : List Addr} {T : List Tm} {σ : L2.St} {e : Env} {H H' : Hp}
theorem RX.at (h : RX c fT fV T σ e H) : ∀ a ∈ fT ++ fV, ∃ o, H a = some o ∧ ¬ Fx o := fun a z => by
  rcases List.mem_append.mp z with q | q
  · exact h.tm.at a q
  · exact h.vr.at a q
/-- what is new is not one's own yet -/
theorem RX.new (h : RX c fT fV T σ e H) {p : Addr} (hp : H p = none) : p ∉ fT ++ fV ∧ c.H0 p = none := by
  refine ⟨fun z => ?_, ?_⟩
  · obtain ⟨o, e, _⟩ := h.at p z
    rw [hp] at e
    cases e
  · cases q : c.H0 p with
    | none => rfl
    | some o => exact absurd hp (h.al p (by rw [q]; simp))
theorem RX.avn (h : RX c fT fV T σ e H) {a : Addr} (z : c.av a) : H a ≠ none := h.al a (h.ok a z).1
/-- what is avoided stands in the heap -/
theorem RX.owS (h : RX c fT fV T σ e H) {a : Addr} (z : owOf c fT fV a) : H a ≠ none := by
  rcases z with z | z
  · obtain ⟨o, q, _⟩ := h.at a z
    rw [q]
    simp
  · exact h.avn z
/-- nothing that stood is otherwise -/
theorem RX.same (h : RX c fT fV T σ e H) (s : Same H H') : RX c fT fV T σ e H' := by
  have hT := ExtT.same s
  exact ⟨h.tm.fr (fun b o q _ => s b o q) hT (fun _ z => .inl z) (fun b _ o q => s b o q), h.vr.fr (fun b o q _ => s b o q) hT (fun _ z => .inl z) (fun b _ o q => s b o q), h.nd, h.fr,
    fun b o q n => s b o (h.kp b o q n), h.tp.trans hT, fun b q z => (h.al b q) (by
      cases y : H b with
      | none => rfl
      | some o => rw [s b o y] at z; cases z), h.ok, h.rt⟩
theorem RX.pushS (h : RX c fT fV T σ e H) {v : V} {d : D} (r : RS c.K (owOf c fT fV) H d v) : RX c fT fV ((.s, v, d) :: T) σ e H :=
  ⟨⟨[], fT, rfl, RO_s.mpr ⟨rfl, r⟩, h.tm⟩, h.vr, h.nd, h.fr, h.kp, h.tp, h.al, h.ok, h.rt⟩
theorem ow_grow {fp : List Addr} (hf : ∀ a ∈ fp, H a = none) : ∀ a, owOf c (fp ++ fT) fV a → owOf c fT fV a ∨ H a = none := fun a z => by
  rcases z with z | z
  · simp only [List.append_assoc, List.mem_append] at z
    rcases z with z | z | z
    · exact .inr (hf a z)
    · exact .inl (.inl (List.mem_append_left _ z))
    · exact .inl (.inl (List.mem_append_right _ z))
  · exact .inl (.inr z)
/-- a new thing, one's own -/
theorem RX.pushO (h : RX c fT fV T σ e H) (s : Same H H') {sh : Sh} {v : V} {d : D} {fp : List Addr} (nd : fp.Nodup) (hf : ∀ a ∈ fp, H a = none) (r : RO c.K (owOf c (fp ++ fT) fV) H' d sh v fp) : RX c (fp ++ fT) fV ((sh, v, d) :: T) σ e H' := by
  have h' := h.same s
  have hT := ExtT.same s
  have how := ow_grow (c := c) (fT := fT) (fV := fV) hf
  refine ⟨⟨fp, fT, rfl, r, h.tm.fr (fun b o q _ => s b o q) hT how (fun b _ o q => s b o q)⟩, h.vr.fr (fun b o q _ => s b o q) hT how (fun b _ o q => s b o q), ?_, fun a z => ?_, h'.kp, h'.tp, h'.al, h.ok, h.rt⟩
  · rw [List.append_assoc]
    exact List.nodup_append.mpr ⟨nd, h.nd, fun a z b y q => by subst q; exact (h.new (hf a z)).1 y⟩
  · rw [List.append_assoc] at z
    rcases List.mem_append.mp z with z | z
    · exact .inr (h.new (hf a z)).2
    · exact h.fr a z
theorem ow_less {f1 : List Addr} : ∀ a, owOf c fT fV a → owOf c (f1 ++ fT) fV a := fun a z => by
  rcases z with z | z
  · exact .inl (by
      rw [List.append_assoc]
      exact List.mem_append_right _ z)
  · exact .inr z
theorem RX.pop {t : Tm} (h : RX c fT fV (t :: T) σ e H) : ∃ fT', RX c fT' fV T σ e H := by
  obtain ⟨f1, f2, e1, h1, h2⟩ := h.tm
  subst e1
  have n := h.nd
  rw [List.append_assoc] at n
  have how : ∀ a, owOf c f2 fV a → owOf c (f1 ++ f2) fV a ∨ H a = none := fun a z => .inl (ow_less a z)
  exact ⟨f2, h2.fr (fun _ _ q _ => q) (ExtT.refl H) how (fun _ _ _ q => q), h.vr.fr (fun _ _ q _ => q) (ExtT.refl H) how (fun _ _ _ q => q), (List.nodup_append.mp n).2.1, fun a z => h.fr a (by rw [List.append_assoc]; exact List.mem_append_right _ z), h.kp, h.tp, h.al, h.ok, h.rt⟩
theorem R.pop {t : Tm} (h : R c (t :: T) σ e H) : R c T σ e H := by
  obtain ⟨fT, fV, h⟩ := h
  obtain ⟨fT', h⟩ := h.pop
  exact ⟨fT', fV, h⟩
/-- .. let go -/
theorem RX.let {sh : Sh} {v : V} {d : D} (h : RX c fT fV ((sh, v, d) :: T) σ e H) : ∃ fT', RX c fT' fV ((.s, v, d) :: T) σ e H := by
  obtain ⟨fT', hp⟩ := h.pop
  obtain ⟨f1, f2, e1, h1, h2⟩ := h.tm
  subst e1
  have n := h.nd
  rw [List.append_assoc] at n
  obtain ⟨n1, n2, n3⟩ := List.nodup_append.mp n
  have how : ∀ a, owOf c f2 fV a → owOf c (f1 ++ f2) fV a ∨ H a = none := fun a z => .inl (ow_less a z)
  have hp : RX c f2 fV T σ e H := ⟨h2.fr (fun _ _ q _ => q) (ExtT.refl H) how (fun _ _ _ q => q), h.vr.fr (fun _ _ q _ => q) (ExtT.refl H) how (fun _ _ _ q => q), n2, fun a z => h.fr a (by rw [List.append_assoc]; exact List.mem_append_right _ z), h.kp, h.tp, h.al, h.ok, h.rt⟩
  refine ⟨f2, hp.pushS (RO.let _ _ _ _ h1 fun a z => ⟨ow_less a z, fun y => ?_⟩)⟩
  rcases z with z | z
  · exact n3 a y a z rfl
  · rcases h.fr a (List.mem_append_left _ (List.mem_append_left _ y)) with q | q
    · exact (h.ok a z).2 q
    · exact (h.ok a z).1 q
theorem R.let {sh : Sh} {v : V} {d : D} (h : R c ((sh, v, d) :: T) σ e H) : R c ((.s, v, d) :: T) σ e H := by
  obtain ⟨fT, fV, h⟩ := h
  obtain ⟨fT', h⟩ := h.let
  exact ⟨fT', fV, h⟩
/-- what is on top is given a name -/
theorem R.set {sh : Sh} {v : V} {d : D} {i : Nat} (h : R c ((sh, v, d) :: T) σ e H) (hM : c.M[i]? = some sh) (hr : ∀ p ∈ c.rt, p.1 ≠ i) : R c T (σ.set i (some v)) (e.set i (some d)) H := by
  obtain ⟨fT, fV, h⟩ := h
  obtain ⟨f1, f2, e1, h1, h2⟩ := h.tm
  subst e1
  obtain ⟨g1, fp, g2, x, y, a1, a2, a3, a4, a5⟩ := h.vr.split hM
  subst a3
  have n := h.nd
  have sub : ∀ a, a ∈ f2 ++ (g1 ++ (f1 ++ g2)) → a ∈ f1 ++ f2 ++ (g1 ++ (fp ++ g2)) := fun a z => by
    simp only [List.mem_append] at z ⊢
    rcases z with z | z | z | z <;> simp [z]
  have how : ∀ a, owOf c f2 (g1 ++ (f1 ++ g2)) a → owOf c (f1 ++ f2) (g1 ++ (fp ++ g2)) a ∨ H a = none := fun a z => by
    rcases z with z | z
    · exact .inl (.inl (sub a z))
    · exact .inl (.inr z)
  refine ⟨f2, g1 ++ (f1 ++ g2), h2.fr (fun _ _ q _ => q) (ExtT.refl H) how (fun _ _ _ q => q), a5 (fun _ _ q _ => q) (ExtT.refl H) how (fun _ _ _ q => q) ⟨v, rfl, RO.fr (fun _ _ q _ => q) (ExtT.refl H) how _ _ _ _ h1 (fun _ _ _ q => q)⟩, ?_, fun a z => h.fr a (sub a z), h.kp, h.tp, h.al, h.ok, fun p hp => ?_⟩
  · have n' : (f1 ++ (f2 ++ (g1 ++ (fp ++ g2)))).Nodup := by simpa using n
    have p1 : List.Perm (f1 ++ (f2 ++ (g1 ++ (fp ++ g2)))) (fp ++ (f2 ++ (g1 ++ (f1 ++ g2)))) := by
      rw [List.perm_iff_count]
      intro a
      simp only [List.count_append]
      omega
    exact (List.nodup_append.mp (p1.nodup n')).2.1
  · rw [List.getElem?_set_ne (by exact fun z => hr p hp z.symm)]
    exact h.rt p hp
/-- a name's own thing is changed -/
theorem RX.upd {i : Nat} {sh : Sh} {d : D} (h : RX c fT fV T σ e H) (hM : c.M[i]? = some sh) (hd : e[i]? = some (some d)) :
    ∃ v fp, σ[i]? = some (some v) ∧ RO c.K (owOf c fT fV) H d sh v fp ∧ (∀ a ∈ fp, a ∈ fT ++ fV) ∧ fp.Nodup ∧
      ∀ (H' : Hp) (d' : D) (fp' : List Addr), (∀ b o, H b = some o → b ∉ fp → H' b = some o) → ExtT H H' → (∀ b, H b ≠ none → H' b ≠ none) → fp'.Nodup → (∀ a ∈ fp', a ∈ fp ∨ H a = none) →
        (∀ ow', (∀ a, ow' a → owOf c fT fV a ∨ H a = none) → RO c.K ow' H' d' sh v fp') → ∃ fV', RX c fT fV' T σ (e.set i (some d')) H' := by
  obtain ⟨f1, fp, f2, x, y, a1, a2, a3, a4, a5⟩ := h.vr.split hM
  subst a3
  rw [hd] at a2
  cases a2
  obtain ⟨v, rfl, ro⟩ := a4
  have n := h.nd
  have hsub : ∀ a ∈ fp, a ∈ fT ++ (f1 ++ (fp ++ f2)) := fun a z => by simp [z]
  have nd1 : (fp ++ (fT ++ (f1 ++ f2))).Nodup := by
    have p1 : List.Perm (fT ++ (f1 ++ (fp ++ f2))) (fp ++ (fT ++ (f1 ++ f2))) := by
      rw [List.perm_iff_count]
      intro a
      simp only [List.count_append]
      omega
    exact p1.nodup n
  obtain ⟨nf, nr, nx⟩ := List.nodup_append.mp nd1
  refine ⟨v, fp, a1, ro, hsub, nf, fun H' d' fp' hk hT hal nd' hf' hro => ⟨f1 ++ (fp' ++ f2), ?_⟩⟩
  have how : ∀ a, owOf c fT (f1 ++ (fp' ++ f2)) a → owOf c fT (f1 ++ (fp ++ f2)) a ∨ H a = none := fun a z => by
    rcases z with z | z
    · simp only [List.mem_append] at z
      rcases z with z | z | z | z
      · exact .inl (.inl (by simp [z]))
      · exact .inl (.inl (by simp [z]))
      · rcases hf' a z with q | q
        · exact .inl (.inl (by simp [q]))
        · exact .inr q
      · exact .inl (.inl (by simp [z]))
    · exact .inl (.inr z)
  have kow : ∀ b o, H b = some o → ¬ owOf c fT (f1 ++ (fp ++ f2)) b → H' b = some o := fun b o q n => hk b o q fun z => n (.inl (hsub b z))
  have koth : ∀ b ∈ fT ++ (f1 ++ f2), ∀ o, H b = some o → H' b = some o := fun b z o q => hk b o q fun y => nx b y b z rfl
  have hs : σ.set i (some v) = σ := by
    apply List.ext_getElem?
    intro j
    by_cases e : i = j
    · subst e
      rw [a1]
      have : i < σ.length := (List.getElem?_eq_some_iff.mp a1).1
      simp [this]
    · rw [List.getElem?_set_ne e]
  have vr' := a5 (H' := H') (ow' := owOf c fT (f1 ++ (fp' ++ f2))) (x' := some v) (y' := some d') (fp' := fp') kow hT how (fun b z => koth b (List.mem_append_right _ z)) ⟨v, rfl, hro _ how⟩
  rw [hs] at vr'
  refine ⟨h.tm.fr kow hT how (fun b z => koth b (List.mem_append_left _ z)), vr', ?_, fun a z => ?_, fun b o q n => ?_, h.tp.trans hT, fun b q => hal b (h.al b q), h.ok, h.rt⟩
  · have nn : (fp' ++ (fT ++ (f1 ++ f2))).Nodup := List.nodup_append.mpr ⟨nd', nr, fun a z b y q => by
      subst q
      rcases hf' a z with q | q
      · exact nx a q a y rfl
      · obtain ⟨o, w, _⟩ := h.at a (by
          simp only [List.mem_append] at y ⊢
          rcases y with y | y | y <;> simp [y])
        rw [q] at w
        cases w⟩
    have p1 : List.Perm (fp' ++ (fT ++ (f1 ++ f2))) (fT ++ (f1 ++ (fp' ++ f2))) := by
      rw [List.perm_iff_count]
      intro a
      simp only [List.count_append]
      omega
    exact p1.nodup nn
  · simp only [List.mem_append] at z
    rcases z with z | z | z | z
    · exact h.fr a (by simp [z])
    · exact h.fr a (by simp [z])
    · rcases hf' a z with q | q
      · exact h.fr a (by simp [q])
      · exact .inr (h.new q).2
    · exact h.fr a (by simp [z])
  · refine hk b o (h.kp b o q n) fun z => ?_
    rcases h.fr b (hsub b z) with y | y
    · exact n y
    · rw [y] at q
      cases q
/-- a name that is only read -/
theorem RX.var {i : Nat} {d : D} (h : RX c fT fV T σ e H) (hM : c.M[i]? = some .s) (hd : e[i]? = some (some d)) : ∃ v, σ[i]? = some (some v) ∧ RS c.K (owOf c fT fV) H d v := by
  obtain ⟨v, fp, a1, ro, _⟩ := h.upd hM hd
  exact ⟨v, a1, (RO_s.mp ro).2⟩
end
end VL
set_option Elab.async false
set_option linter.all false
set_option maxRecDepth 100000
set_option maxHeartbeats 2000000
namespace VL
open PySem PySem.Spec PyProof.Rows L2
/-! ### readings over data -/
structure Exn where
  C : Addr
  fs : List Str
  ds : List D
abbrev QV := D → Env → Prop
abbrev QX := Exn → Env → Prop
abbrev VT := Env → QV → QX → Prop
abbrev VTB := Env → (Bool → Env → Prop) → QX → Prop
abbrev VTA := Env → (List D → Env → Prop) → QX → Prop
abbrev VTO := Env → (Option Int → Env → Prop) → QX → Prop
structure VEnds where
  nx : Env → Prop
  rt : D → Env → Prop
  bk : Env → Prop
  ct : Env → Prop
  ex : QX
abbrev VTS := VEnds → Env → Prop
abbrev XW := Value → Option Addr → L2.St → Hp → Prop
def scV : D → V
  | .bl b => .bl b
  | .int i => .int i
  | .str s => .str s
  | _ => .non
def isSc : D → Bool
  | .non | .bl _ | .int _ | .str _ => true
  | _ => false
def XAt (H : Hp) (x : Exn) (d : Option Addr) : Prop := (x.fs = [] ∧ x.ds = [] ∧ d = none) ∨ ∃ dd, d = some dd ∧ H dd = some (.xd (x.fs.zip (x.ds.map scV))) ∧ x.fs.length = x.ds.length ∧ x.ds.all isSc = true
inductive Md | n | e
def Post (m : Md) (H H' : Hp) (e e' : Env) : Prop := m = .n → Same H H'
theorem Post.refl (m : Md) (H : Hp) (e : Env) : Post m H H e e := fun _ => fun _ _ q => q
theorem Post.trans {m : Md} {H H1 H2 : Hp} {e e1 e2 : Env} (a : Post m H H1 e e1) (b : Post m H1 H2 e1 e2) : Post m H H2 e e2 := fun q => (a q).trans (b q)
theorem Post.same {m : Md} {H H' : Hp} {e e' : Env} (s : Same H H') : Post m H H' e e' := fun _ => s
theorem Post.e {H H' : Hp} {e e' : Env} : Post .e H H' e e' := fun q => by cases q
def VE (c : Vc) (W : XW) (m : Md) (te : TE) (sh : Sh) (f : VT) : Prop := ∀ (T : List Tm) (σ : L2.St) (e : Env) (H : Hp) (Q : VK) (Qv : QV) (Qx : QX), R c T σ e H → f e Qv Qx →
  (∀ v d e' H', R c ((sh, v, d) :: T) σ e' H' → Post m H H' e e' → Qv d e' → Q v H') → (∀ x d e' H', R c T σ e' H' → XAt H' x d → Qx x e' → W (.ref x.C) d σ H') → te σ H Q
/-- read on the spot: what is on top may be one's own, what is in it nobody changes -/
def RB (K : PySem.W.Frag) (ow : Addr → Prop) (H : Hp) : D → V → Prop
  | .lst l, v => ∃ a vs, v = .ref a ∧ LsR K H a vs ∧ RSs K ow H l vs
  | .dct ks l, v => ∃ a vs, v = .ref a ∧ Rd H a (.dK (ks.zip vs)) ∧ ks.length = vs.length ∧ RSs K ow H l vs
  | .obj C fs l, v => ∃ a dx vs, v = .ref a ∧ H a = some (.ins C dx (fs.zip vs)) ∧ fs.length = vs.length ∧ RSs K ow H l vs
  | d, v => RS K ow H d v
theorem RS.b {K : PySem.W.Frag} {ow : Addr → Prop} {H : Hp} {d : D} {v : V} (h : RS K ow H d v) : RB K ow H d v := by
  cases d with
  | lst l =>
    simp only [RS] at h
    obtain ⟨a, vs, e, q, t⟩ := h
    exact ⟨a, vs, e, q.r, t⟩
  | dct ks l =>
    simp only [RS] at h
    obtain ⟨a, vs, e, q, _, n, t⟩ := h
    exact ⟨a, vs, e, q, n, t⟩
  | obj C fs l =>
    simp only [RS] at h
    obtain ⟨a, dx, vs, e, q, _, n, t⟩ := h
    exact ⟨a, dx, vs, e, q, n, t⟩
  | _ => exact h
def VB (c : Vc) (te : TE) (f : VT) : Prop := ∀ (fT fV : List Addr) (T : List Tm) (σ : L2.St) (e : Env) (H : Hp) (Q : VK) (Qv : QV) (Qx : QX), RX c fT fV T σ e H → f e Qv Qx → (∀ v d, RB c.K (owOf c fT fV) H d v → Qv d e → Q v H) → te σ H Q
def VQ (c : Vc) (te : TE) (f : VT) : Prop := ∀ (fT fV : List Addr) (T : List Tm) (σ : L2.St) (e : Env) (H : Hp) (Q : VK) (Qv : QV) (Qx : QX), RX c fT fV T σ e H → f e Qv Qx → (∀ v d, RS c.K (owOf c fT fV) H d v → Qv d e → Q v H) → te σ H Q
def VBt (c : Vc) (W : XW) (m : Md) (tt : TT) (f : VTB) : Prop := ∀ (T : List Tm) (σ : L2.St) (e : Env) (H : Hp) (Q : Bool → Hp → Prop) (Qv : Bool → Env → Prop) (Qx : QX), R c T σ e H → f e Qv Qx →
  (∀ b e' H', R c T σ e' H' → Post m H H' e e' → Qv b e' → Q b H') → (∀ x d e' H', R c T σ e' H' → XAt H' x d → Qx x e' → W (.ref x.C) d σ H') → tt σ H Q
def VA (c : Vc) (W : XW) (m : Md) (ta : TA) (f : VTA) : Prop := ∀ (T : List Tm) (σ : L2.St) (e : Env) (H : Hp) (Q : List V → Hp → Prop) (Qv : List D → Env → Prop) (Qx : QX), R c T σ e H → f e Qv Qx →
  (∀ fT fV vs ds e' H', RX c fT fV T σ e' H' → RSs c.K (owOf c fT fV) H' ds vs → Post m H H' e e' → Qv ds e' → Q vs H') → (∀ x d e' H', R c T σ e' H' → XAt H' x d → Qx x e' → W (.ref x.C) d σ H') → ta σ H Q
def VBA (c : Vc) (ta : TA) (f : VTA) : Prop := ∀ (fT fV : List Addr) (T : List Tm) (σ : L2.St) (e : Env) (H : Hp) (Q : List V → Hp → Prop) (Qv : List D → Env → Prop) (Qx : QX), RX c fT fV T σ e H → f e Qv Qx → (∀ vs ds, Paired (RB c.K (owOf c fT fV) H) ds vs → Qv ds e → Q vs H) → ta σ H Q
def VO (c : Vc) (W : XW) (m : Md) (to : TO) (f : VTO) : Prop := ∀ (T : List Tm) (σ : L2.St) (e : Env) (H : Hp) (Q : Option Int → Hp → Prop) (Qv : Option Int → Env → Prop) (Qx : QX), R c T σ e H → f e Qv Qx →
  (∀ o e' H', R c T σ e' H' → Post m H H' e e' → Qv o e' → Q o H') → (∀ x d e' H', R c T σ e' H' → XAt H' x d → Qx x e' → W (.ref x.C) d σ H') → to σ H Q
section
variable {c : Vc} {W : XW} {m : Md}
theorem RX.topS {fT fV : List Addr} {T : List Tm} {σ : L2.St} {e : Env} {H : Hp} {v : V} {d : D} (h : RX c fT fV ((.s, v, d) :: T) σ e H) : RS c.K (owOf c fT fV) H d v ∧ RX c fT fV T σ e H := by
  obtain ⟨f1, f2, e1, h1, h2⟩ := h.tm
  have h1 := RO_s.mp h1
  have z : f1 = [] := h1.1
  subst z
  have z : fT = f2 := e1
  subst z
  exact ⟨h1.2, h2, h.vr, h.nd, h.fr, h.kp, h.tp, h.al, h.ok, h.rt⟩
theorem VQ.b {te : TE} {f : VT} (h : VQ c te f) : VB c te f := fun fT fV T σ e H Q Qv Qx hR hf hq => h fT fV T σ e H Q Qv Qx hR hf fun v d r q => hq v d r.b q
theorem VQ.e {te : TE} {f : VT} (h : VQ c te f) : VE c W m te .s f := fun T σ e H Q Qv Qx ⟨fT, fV, hR⟩ hf hn hx => h fT fV T σ e H Q Qv Qx hR hf fun v d r q => hn v d e H ⟨fT, fV, hR.pushS r⟩ (Post.refl _ _ _) q
/-- whatever it is, from now on nobody changes it -/
theorem VE.s {te : TE} {sh : Sh} {f : VT} (h : VE c W m te sh f) : VE c W m te .s f := fun T σ e H Q Qv Qx hR hf hn hx => h T σ e H Q Qv Qx hR hf (fun v d e' H' r p q => hn v d e' H' r.let p q) hx
/-! names, constants -/
def vVar (i : Nat) : VT := fun e Q _ => ∃ d, e[i]? = some (some d) ∧ Q d e
def vC (d : D) : VT := fun e Q _ => Q d e
theorem q_var {i : Nat} (hM : c.M[i]? = some .s) : VQ c (tVar i) (vVar i) := fun fT fV T σ e H Q Qv Qx hR ⟨d, hd, q⟩ hn => by
  obtain ⟨v, hv, r⟩ := hR.var hM hd
  exact ⟨v, hv, hn v d r q⟩
theorem q_int {i : Int} : VQ c (tC (.int i)) (vC (.int i)) := fun fT fV T σ e H Q Qv Qx hR q hn => hn _ _ (by simp only [RS]) q
theorem q_str {x : Str} : VQ c (tC (.str x)) (vC (.str x)) := fun fT fV T σ e H Q Qv Qx hR q hn => hn _ _ (by simp only [RS]) q
theorem q_bl {b : Bool} : VQ c (tC (.bl b)) (vC (.bl b)) := fun fT fV T σ e H Q Qv Qx hR q hn => hn _ _ (by simp only [RS]) q
theorem q_non : VQ c (tC .non) (vC .non) := fun fT fV T σ e H Q Qv Qx hR q hn => hn _ _ (by simp only [RS]) q
/-- a name of one's own list, read on the spot -/
theorem RO.bl {K : PySem.W.Frag} {ow : Addr → Prop} {H : Hp} {d : D} {v : V} {fp : List Addr} (h : RO K ow H d (.l .s) v fp) : RB K ow H d v ∧ ∃ l, d = .lst l := by
  cases d with
  | lst l =>
    simp only [RO] at h
    obtain ⟨a, vs, fps, rfl, q, t, rfl⟩ := h
    have r : RSs K ow H l vs := by
      clear q
      induction l generalizing vs fps with
      | nil =>
        simp only [List.map_nil, ROs] at t
        rw [t.2.1]
        exact .nil
      | cons x r ih =>
        simp only [List.map_cons, ROs] at t
        obtain ⟨sh, shs', v, vs', f1, f2, e1, e2, e3, h1, h2⟩ := t
        cases e1
        subst e2
        exact .cons (RO_s.mp h1).2 (ih vs' f2 h2)
    exact ⟨⟨a, vs, rfl, .inl (.inl q), r⟩, l, rfl⟩
  | _ => simp only [RO] at h
theorem b_varL {i : Nat} (hM : c.M[i]? = some (.l .s)) : VB c (tVar i) (vVar i) := fun fT fV T σ e H Q Qv Qx hR ⟨d, hd, q⟩ hn => by
  obtain ⟨v, fp, hv, r, _⟩ := hR.upd hM hd
  exact ⟨v, hv, hn v d r.bl.1 q⟩
/-! operators -/
abbrev G2 := D → D → (D → Prop) → Prop
abbrev GA := List D → (D → Prop) → Prop
abbrev G2L := D → D → (List D → Prop) → Prop
abbrev GAL := List D → (List D → Prop) → Prop
def OpD (K : PySem.W.Frag) (r : R2) (g : G2) : Prop := ∀ (ow : Addr → Prop) (H : Hp) (x y : V) (dx dy : D) (Q : VK) (Qd : D → Prop), RB K ow H dx x → RB K ow H dy y → g dx dy Qd → (∀ z v, RS K ow H z v → Qd z → Q v H) → r x y H Q
def OpL (K : PySem.W.Frag) (r : R2) (g : G2L) : Prop := ∀ (ow : Addr → Prop) (H : Hp) (x y : V) (dx dy : D) (Q : VK) (Qd : List D → Prop), RB K ow H dx x → RB K ow H dy y → g dx dy Qd → (∀ zs vs p, RSs K ow H zs vs → Qd zs → H p = none → Q (.ref p) (upd H p (.lst vs))) → r x y H Q
def OpT (K : PySem.W.Frag) (r : R2) (g : G2L) : Prop := ∀ (ow : Addr → Prop) (H : Hp) (x y : V) (dx dy : D) (Q : VK) (Qd : List D → Prop), RB K ow H dx x → RB K ow H dy y → g dx dy Qd → (∀ zs vs p H', RSs K ow H zs vs → Qd zs → Same H H' → SqT K H' p vs → Q (.ref p) H') → r x y H Q
def CaD (K : PySem.W.Frag) (r : List V → Hp → VK → Prop) (g : GA) : Prop := ∀ (ow : Addr → Prop) (H : Hp) (vs : List V) (ds : List D) (Q : VK) (Qd : D → Prop), Paired (RB K ow H) ds vs → g ds Qd → (∀ z v, RS K ow H z v → Qd z → Q v H) → r vs H Q
def CaL (K : PySem.W.Frag) (r : List V → Hp → VK → Prop) (g : GAL) : Prop := ∀ (ow : Addr → Prop) (H : Hp) (vs : List V) (ds : List D) (Q : VK) (Qd : List D → Prop), Paired (RB K ow H) ds vs → g ds Qd → (∀ zs ws p, RSs K ow H zs ws → Qd zs → H p = none → Q (.ref p) (upd H p (.lst ws))) → r vs H Q
def CaT (K : PySem.W.Frag) (r : List V → Hp → VK → Prop) (g : GAL) : Prop := ∀ (ow : Addr → Prop) (H : Hp) (vs : List V) (ds : List D) (Q : VK) (Qd : List D → Prop), Paired (RB K ow H) ds vs → g ds Qd → (∀ zs ws p H', RSs K ow H zs ws → Qd zs → Same H H' → SqT K H' p ws → Q (.ref p) H') → r vs H Q
theorem RSs.pb {K : PySem.W.Frag} {ow : Addr → Prop} {H : Hp} : ∀ {ds : List D} {vs : List V}, RSs K ow H ds vs → Paired (RB K ow H) ds vs
  | [], _, h => by simp only [RSs] at h; rw [h]; exact .nil
  | d :: ds, _, h => by
    simp only [RSs] at h
    obtain ⟨v, r, rfl, h, t⟩ := h
    exact .cons h.b (RSs.pb t)
def vOp2 (g : G2) (fa fb : VT) : VT := fun e Q Qx => fa e (fun x e1 => fb e1 (fun y e2 => g x y fun z => Q z e2) Qx) Qx
def vOp2L (g : G2L) (fa fb : VT) : VT := fun e Q Qx => fa e (fun x e1 => fb e1 (fun y e2 => g x y fun z => Q (.lst z) e2) Qx) Qx
def vOp2T (g : G2L) (fa fb : VT) : VT := fun e Q Qx => fa e (fun x e1 => fb e1 (fun y e2 => g x y fun z => Q (.tup z) e2) Qx) Qx
def vCa (g : GA) (fa : VTA) : VT := fun e Q Qx => fa e (fun xs e1 => g xs fun z => Q z e1) Qx
def vCaL (g : GAL) (fa : VTA) : VT := fun e Q Qx => fa e (fun xs e1 => g xs fun z => Q (.lst z) e1) Qx
def vCaT (g : GAL) (fa : VTA) : VT := fun e Q Qx => fa e (fun xs e1 => g xs fun z => Q (.tup z) e1) Qx
variable {ta tb te : TE} {fa fb f : VT} {tA : TA} {fA : VTA}
/-- two values, one behind the other -/
theorem two (ha : VE c W m ta .s fa) (hb : VE c W m tb .s fb) {T : List Tm} {σ : L2.St} {e : Env} {H : Hp} {Q : V → V → Hp → Prop} {Qv : D → D → Env → Prop} {Qx : QX} (hR : R c T σ e H) (hf : fa e (fun x e1 => fb e1 (fun y e2 => Qv x y e2) Qx) Qx)
    (hn : ∀ fT fV x y dx dy e' H', RX c fT fV T σ e' H' → RS c.K (owOf c fT fV) H' dx x → RS c.K (owOf c fT fV) H' dy y → Post m H H' e e' → Qv dx dy e' → Q x y H') (hx : ∀ x d e' H', R c T σ e' H' → XAt H' x d → Qx x e' → W (.ref x.C) d σ H') :
    ta σ H fun x H1 => tb σ H1 fun y H2 => Q x y H2 := by
  refine ha T σ e H _ _ Qx hR hf (fun x dx e1 H1 R1 P1 h1 => ?_) hx
  refine hb ((.s, x, dx) :: T) σ e1 H1 _ _ Qx R1 h1 (fun y dy e2 H2 R2 P2 h2 => ?_) (fun xn d e' H' R' X' q' => hx xn d e' H' R'.pop X' q')
  obtain ⟨fT, fV, R2⟩ := R2
  obtain ⟨ry, R2⟩ := R2.topS
  obtain ⟨rx, R2⟩ := R2.topS
  exact hn fT fV x y dx dy e2 H2 R2 rx ry (P1.trans P2) h2
theorem v_op {r : R2} {g : G2} (ha : VE c W m ta .s fa) (hb : VE c W m tb .s fb) (ho : OpD c.K r g) : VE c W m (tOp r ta tb) .s (vOp2 g fa fb) := fun T σ e H Q Qv Qx hR hf hn hx =>
  two ha hb hR hf (fun fT fV x y dx dy e' H' hR rx ry p q => ho _ H' x y dx dy Q _ rx.b ry.b q fun z v rz qz => hn v z e' H' ⟨fT, fV, hR.pushS rz⟩ p qz) hx
theorem q_op {r : R2} {g : G2} (ha : VB c ta fa) (hb : VB c tb fb) (ho : OpD c.K r g) : VQ c (tOp r ta tb) (vOp2 g fa fb) := fun fT fV T σ e H Q Qv Qx hR hf hn =>
  ha fT fV T σ e H _ _ Qx hR hf fun x dx rx h1 => hb fT fV T σ e H _ _ Qx hR h1 fun y dy ry h2 => ho _ H x y dx dy Q _ rx ry h2 fun z v rz qz => hn v z rz qz
/-- a new list on top -/
theorem RX.newL {fT fV : List Addr} {T : List Tm} {σ : L2.St} {e : Env} {H : Hp} {p : Addr} {zs : List D} {vs : List V} (h : RX c fT fV T σ e H) (hp : H p = none) (r : RSs c.K (owOf c fT fV) H zs vs) : R c ((.l .s, .ref p, .lst zs) :: T) σ e (L2.upd H p (.lst vs)) := by
  refine ⟨[p] ++ fT, fV, h.pushO (same_new hp) (by simp) (fun a z => by rw [List.mem_singleton.mp z]; exact hp) ?_⟩
  simp only [RO]
  refine ⟨p, vs, [], rfl, upd_same, ?_, rfl⟩
  have r' : RSs c.K (owOf c ([p] ++ fT) fV) (L2.upd H p (.lst vs)) zs vs := RSs.fr (Fr.same (same_new hp)) (ow_grow (fp := [p]) (fun a z => by rw [List.mem_singleton.mp z]; exact hp)) _ _ r
  clear r
  generalize L2.upd H p (HO.lst vs) = H2 at r'
  generalize owOf c ([p] ++ fT) fV = ow at r'
  clear h hp
  induction zs generalizing vs with
  | nil =>
    simp only [RSs] at r'
    simp only [List.map_nil, ROs]
    exact ⟨trivial, r', trivial⟩
  | cons z zs ih =>
    simp only [RSs] at r'
    obtain ⟨v, w, rfl, h1, h2⟩ := r'
    simp only [List.map_cons, ROs]
    exact ⟨.s, _, v, w, [], [], rfl, rfl, rfl, RO_s.mpr ⟨rfl, h1⟩, ih h2⟩
theorem RX.newT {fT fV : List Addr} {T : List Tm} {σ : L2.St} {e : Env} {H H' : Hp} {p : Addr} {zs : List D} {vs : List V} (h : RX c fT fV T σ e H) (s : Same H H') (q : SqT c.K H' p vs) (r : RSs c.K (owOf c fT fV) H zs vs) : R c ((.s, .ref p, .tup zs) :: T) σ e H' := by
  refine ⟨fT, fV, (h.same s).pushS ?_⟩
  simp only [RS]
  exact ⟨p, vs, rfl, q, RSs.fr (Fr.same s) (fun _ z => .inl z) _ _ r⟩
theorem v_opL {r : R2} {g : G2L} (ha : VE c W m ta .s fa) (hb : VE c W m tb .s fb) (ho : OpL c.K r g) : VE c W m (tOp r ta tb) (.l .s) (vOp2L g fa fb) := fun T σ e H Q Qv Qx hR hf hn hx =>
  two ha hb hR hf (fun fT fV x y dx dy e' H' hR rx ry p q => ho _ H' x y dx dy Q _ rx.b ry.b q fun zs vs a rz qz ha => hn _ _ e' _ (hR.newL ha rz) (p.trans (Post.same (same_new ha))) qz) hx
theorem v_opLq {r : R2} {g : G2L} (ha : VB c ta fa) (hb : VB c tb fb) (ho : OpL c.K r g) : VE c W m (tOp r ta tb) (.l .s) (vOp2L g fa fb) := fun T σ e H Q Qv Qx ⟨fT, fV, hR⟩ hf hn hx =>
  ha fT fV T σ e H _ _ Qx hR hf fun x dx rx h1 => hb fT fV T σ e H _ _ Qx hR h1 fun y dy ry h2 => ho _ H x y dx dy Q _ rx ry h2 fun zs vs a rz qz ha => hn _ _ e _ (hR.newL ha rz) (Post.same (same_new ha)) qz
theorem v_opT {r : R2} {g : G2L} (ha : VE c W m ta .s fa) (hb : VE c W m tb .s fb) (ho : OpT c.K r g) : VE c W m (tOp r ta tb) .s (vOp2T g fa fb) := fun T σ e H Q Qv Qx hR hf hn hx =>
  two ha hb hR hf (fun fT fV x y dx dy e' H' hR rx ry p q => ho _ H' x y dx dy Q _ rx.b ry.b q fun zs vs a H2 rz qz s sq => hn _ _ e' _ (hR.newT s sq rz) (p.trans (Post.same s)) qz) hx
/-! arguments -/
def vNil : VTA := fun e Q _ => Q [] e
def vCons (fa : VT) (fr : VTA) : VTA := fun e Q Qx => fa e (fun x e1 => fr e1 (fun xs e2 => Q (x :: xs) e2) Qx) Qx
theorem va_nil : VA c W m tNil vNil := fun T σ e H Q Qv Qx ⟨fT, fV, hR⟩ hf hn hx => hn fT fV [] [] e H hR .nil (Post.refl _ _ _) hf
theorem va_cons (ha : VE c W m ta .s fa) (hr : VA c W m tA fA) : VA c W m (tCons ta tA) (vCons fa fA) := fun T σ e H Q Qv Qx hR hf hn hx => by
  refine ha T σ e H _ _ Qx hR hf (fun x dx e1 H1 R1 P1 h1 => ?_) hx
  refine hr ((.s, x, dx) :: T) σ e1 H1 _ _ Qx R1 h1 (fun fT fV vs ds e2 H2 R2 rs P2 h2 => ?_) (fun xn d e' H' R' X' q' => hx xn d e' H' R'.pop X' q')
  obtain ⟨rx, R2⟩ := R2.topS
  exact hn fT fV _ _ e2 H2 R2 (.cons rx rs) (P1.trans P2) h2
theorem vba_nil : VBA c tNil vNil := fun fT fV T σ e H Q Qv Qx hR hf hn => hn [] [] .nil hf
theorem vba_cons (ha : VB c ta fa) (hr : VBA c tA fA) : VBA c (tCons ta tA) (vCons fa fA) := fun fT fV T σ e H Q Qv Qx hR hf hn =>
  ha fT fV T σ e H _ _ Qx hR hf fun x dx rx h1 => hr fT fV T σ e H _ _ Qx hR h1 fun vs ds rs h2 => hn _ _ (.cons rx rs) h2
theorem v_ca {r : List V → Hp → VK → Prop} {g : GA} (ha : VA c W m tA fA) (ho : CaD c.K r g) : VE c W m (tCB r tA) .s (vCa g fA) := fun T σ e H Q Qv Qx hR hf hn hx =>
  ha T σ e H _ _ Qx hR hf (fun fT fV vs ds e1 H1 R1 rs p q => ho _ H1 vs ds Q _ rs.pb q fun z v rz qz => hn v z e1 H1 ⟨fT, fV, R1.pushS rz⟩ p qz) hx
theorem q_ca {r : List V → Hp → VK → Prop} {g : GA} (ha : VBA c tA fA) (ho : CaD c.K r g) : VQ c (tCB r tA) (vCa g fA) := fun fT fV T σ e H Q Qv Qx hR hf hn =>
  ha fT fV T σ e H _ _ Qx hR hf fun vs ds rs q => ho _ H vs ds Q _ rs q fun z v rz qz => hn v z rz qz
theorem v_caL {r : List V → Hp → VK → Prop} {g : GAL} (ha : VA c W m tA fA) (ho : CaL c.K r g) : VE c W m (tCB r tA) (.l .s) (vCaL g fA) := fun T σ e H Q Qv Qx hR hf hn hx =>
  ha T σ e H _ _ Qx hR hf (fun fT fV vs ds e1 H1 R1 rs p q => ho _ H1 vs ds Q _ rs.pb q fun zs ws a rz qz ha => hn _ _ e1 _ (R1.newL ha rz) (p.trans (Post.same (same_new ha))) qz) hx
theorem v_caLq {r : List V → Hp → VK → Prop} {g : GAL} (ha : VBA c tA fA) (ho : CaL c.K r g) : VE c W m (tCB r tA) (.l .s) (vCaL g fA) := fun T σ e H Q Qv Qx ⟨fT, fV, hR⟩ hf hn hx =>
  ha fT fV T σ e H _ _ Qx hR hf fun vs ds rs q => ho _ H vs ds Q _ rs q fun zs ws a rz qz ha => hn _ _ e _ (hR.newL ha rz) (Post.same (same_new ha)) qz
theorem v_caT {r : List V → Hp → VK → Prop} {g : GAL} (ha : VA c W m tA fA) (ho : CaT c.K r g) : VE c W m (tCB r tA) .s (vCaT g fA) := fun T σ e H Q Qv Qx hR hf hn hx =>
  ha T σ e H _ _ Qx hR hf (fun fT fV vs ds e1 H1 R1 rs p q => ho _ H1 vs ds Q _ rs.pb q fun zs ws a H2 rz qz s sq => hn _ _ e1 _ (R1.newT s sq rz) (p.trans (Post.same s)) qz) hx
theorem v_caTq {r : List V → Hp → VK → Prop} {g : GAL} (ha : VBA c tA fA) (ho : CaT c.K r g) : VE c W m (tCB r tA) .s (vCaT g fA) := fun T σ e H Q Qv Qx ⟨fT, fV, hR⟩ hf hn hx =>
  ha fT fV T σ e H _ _ Qx hR hf fun vs ds rs q => ho _ H vs ds Q _ rs q fun zs ws a H2 rz qz s sq => hn _ _ e _ (hR.newT s sq rz) (Post.same s) qz
/-! displays -/
def vTup (fA : VTA) : VT := fun e Q Qx => fA e (fun xs e1 => xs.length ≤ sizeLine ∧ Q (.tup xs) e1) Qx
def vLst (fA : VTA) : VT := fun e Q Qx => fA e (fun xs e1 => xs.length ≤ sizeLine ∧ Q (.lst xs) e1) Qx
theorem v_tup (ha : VA c W m tA fA) : VE c W m (tTup tA) .s (vTup fA) := fun T σ e H Q Qv Qx hR hf hn hx =>
  ha T σ e H _ _ Qx hR hf (fun fT fV vs ds e1 H1 R1 rs p ⟨hl, q⟩ => ⟨by rw [rs.len]; exact hl, fun a ha => hn _ _ e1 _ (R1.newT (same_new ha) (SqT.of upd_same) rs) (p.trans (Post.same (same_new ha))) q⟩) hx
theorem v_lst (ha : VA c W m tA fA) : VE c W m (tLst tA) (.l .s) (vLst fA) := fun T σ e H Q Qv Qx hR hf hn hx =>
  ha T σ e H _ _ Qx hR hf (fun fT fV vs ds e1 H1 R1 rs p ⟨hl, q⟩ => ⟨by rw [rs.len]; exact hl, fun a ha => hn _ _ e1 _ (R1.newL ha rs) (p.trans (Post.same (same_new ha))) q⟩) hx
/-! tests -/
def vTest (f : VT) : VTB := fun e Q Qx => f e (fun d e1 => ∃ b, d = .bl b ∧ Q b e1) Qx
theorem RS.bl_of {K : PySem.W.Frag} {ow : Addr → Prop} {H : Hp} {b : Bool} {v : V} (h : RS K ow H (.bl b) v) : v = .bl b := by simpa only [RS] using h
theorem vt_test (h : VE c W m te .s f) : VBt c W m (tTest te) (vTest f) := fun T σ e H Q Qv Qx hR hf hn hx =>
  h T σ e H _ _ Qx hR hf (fun v d e1 H1 R1 p ⟨b, hb, q⟩ => by
    subst hb
    obtain ⟨fT, fV, R1⟩ := R1
    obtain ⟨r, R1⟩ := R1.topS
    exact ⟨b, r.bl_of, hn b e1 H1 ⟨fT, fV, R1⟩ p q⟩) hx
theorem vt_b (h : VE c W m te .s f) : VBt c W m (tB te) (vTest f) := vt_test h
variable {t1 t2 : TT} {g1 g2 : VTB}
def vAnd (g1 g2 : VTB) : VTB := fun e Q Qx => g1 e (fun b e1 => if b = true then g2 e1 Q Qx else Q false e1) Qx
def vOr (g1 g2 : VTB) : VTB := fun e Q Qx => g1 e (fun b e1 => if b = true then Q true e1 else g2 e1 Q Qx) Qx
def vNot (g1 : VTB) : VTB := fun e Q Qx => g1 e (fun b e1 => Q (!b) e1) Qx
theorem vt_and (h1 : VBt c W m t1 g1) (h2 : VBt c W m t2 g2) : VBt c W m (tAnd t1 t2) (vAnd g1 g2) := fun T σ e H Q Qv Qx hR hf hn hx =>
  h1 T σ e H _ _ Qx hR hf (fun b e1 H1 R1 p q => by
    cases b with
    | true => exact h2 T σ e1 H1 Q Qv Qx R1 q (fun b2 e2 H2 R2 p2 q2 => hn b2 e2 H2 R2 (p.trans p2) q2) hx
    | false => exact hn false e1 H1 R1 p q) hx
theorem vt_or (h1 : VBt c W m t1 g1) (h2 : VBt c W m t2 g2) : VBt c W m (tOr t1 t2) (vOr g1 g2) := fun T σ e H Q Qv Qx hR hf hn hx =>
  h1 T σ e H _ _ Qx hR hf (fun b e1 H1 R1 p q => by
    cases b with
    | false => exact h2 T σ e1 H1 Q Qv Qx R1 q (fun b2 e2 H2 R2 p2 q2 => hn b2 e2 H2 R2 (p.trans p2) q2) hx
    | true => exact hn true e1 H1 R1 p q) hx
theorem vt_not (h1 : VBt c W m t1 g1) : VBt c W m (tNot t1) (vNot g1) := fun T σ e H Q Qv Qx hR hf hn hx =>
  h1 T σ e H _ _ Qx hR hf (fun b e1 H1 R1 p q => hn (!b) e1 H1 R1 p q) hx
def vIf (g1 : VTB) (fa fb : VT) : VT := fun e Q Qx => g1 e (fun b e1 => if b = true then fa e1 Q Qx else fb e1 Q Qx) Qx
theorem v_if {sh : Sh} (h1 : VBt c W m t1 g1) (ha : VE c W m ta sh fa) (hb : VE c W m tb sh fb) : VE c W m (tIf t1 ta tb) sh (vIf g1 fa fb) := fun T σ e H Q Qv Qx hR hf hn hx =>
  h1 T σ e H _ _ Qx hR hf (fun b e1 H1 R1 p q => by
    cases b with
    | true => exact ha T σ e1 H1 Q Qv Qx R1 q (fun v d e2 H2 R2 p2 q2 => hn v d e2 H2 R2 (p.trans p2) q2) hx
    | false => exact hb T σ e1 H1 Q Qv Qx R1 q (fun v d e2 H2 R2 p2 q2 => hn v d e2 H2 R2 (p.trans p2) q2) hx) hx
def vAndV (fa fb : VT) : VT := fun e Q Qx => fa e (fun x e1 => ∃ b, x = .bl b ∧ if b = true then fb e1 Q Qx else Q (.bl false) e1) Qx
def vOrV (fa fb : VT) : VT := fun e Q Qx => fa e (fun x e1 => ∃ b, x = .bl b ∧ if b = true then Q (.bl true) e1 else fb e1 Q Qx) Qx
def vNotV (fa : VT) : VT := fun e Q Qx => fa e (fun x e1 => ∃ b, x = .bl b ∧ Q (.bl (!b)) e1) Qx
theorem R.pushBl {T : List Tm} {σ : L2.St} {e : Env} {H : Hp} {b : Bool} (h : R c T σ e H) : R c ((.s, .bl b, .bl b) :: T) σ e H := by
  obtain ⟨fT, fV, h⟩ := h
  exact ⟨fT, fV, h.pushS (by simp only [RS])⟩
theorem R.topBl {T : List Tm} {σ : L2.St} {e : Env} {H : Hp} {b : Bool} {v : V} (h : R c ((.s, v, .bl b) :: T) σ e H) : v = .bl b ∧ R c T σ e H := by
  obtain ⟨fT, fV, h⟩ := h
  obtain ⟨r, h⟩ := h.topS
  exact ⟨r.bl_of, fT, fV, h⟩
theorem v_and (ha : VE c W m ta .s fa) (hb : VE c W m tb .s fb) : VE c W m (tAndV ta tb) .s (vAndV fa fb) := fun T σ e H Q Qv Qx hR hf hn hx =>
  ha T σ e H _ _ Qx hR hf (fun v d e1 H1 R1 p ⟨b, hb', q⟩ => by
    subst hb'
    obtain ⟨hv, R2⟩ := R1.topBl
    subst hv
    refine ⟨b, rfl, ?_⟩
    cases b with
    | true => exact hb T σ e1 H1 Q Qv Qx R2 q (fun v d e2 H2 R2 p2 q2 => hn v d e2 H2 R2 (p.trans p2) q2) hx
    | false => exact hn _ _ e1 H1 R2.pushBl p q) hx
theorem v_or (ha : VE c W m ta .s fa) (hb : VE c W m tb .s fb) : VE c W m (tOrV ta tb) .s (vOrV fa fb) := fun T σ e H Q Qv Qx hR hf hn hx =>
  ha T σ e H _ _ Qx hR hf (fun v d e1 H1 R1 p ⟨b, hb', q⟩ => by
    subst hb'
    obtain ⟨hv, R2⟩ := R1.topBl
    subst hv
    refine ⟨b, rfl, ?_⟩
    cases b with
    | false => exact hb T σ e1 H1 Q Qv Qx R2 q (fun v d e2 H2 R2 p2 q2 => hn v d e2 H2 R2 (p.trans p2) q2) hx
    | true => exact hn _ _ e1 H1 R2.pushBl p q) hx
theorem v_not (ha : VE c W m ta .s fa) : VE c W m (tNotV ta) .s (vNotV fa) := fun T σ e H Q Qv Qx hR hf hn hx =>
  ha T σ e H _ _ Qx hR hf (fun v d e1 H1 R1 p ⟨b, hb', q⟩ => by
    subst hb'
    obtain ⟨hv, R2⟩ := R1.topBl
    subst hv
    exact ⟨b, rfl, hn _ _ e1 H1 R2.pushBl p q⟩) hx
/-! slices -/
def vNo : VTO := fun e Q _ => Q none e
def vPart (f : VT) : VTO := fun e Q Qx => f e (fun d e1 => ∃ i, d = .int i ∧ Q (some i) e1) Qx
theorem vo_none : VO c W m tNoPart vNo := fun T σ e H Q Qv Qx hR hf hn hx => hn none e H hR (Post.refl _ _ _) hf
theorem vo_some (h : VE c W m te .s f) : VO c W m (tPart te) (vPart f) := fun T σ e H Q Qv Qx hR hf hn hx =>
  h T σ e H _ _ Qx hR hf (fun v d e1 H1 R1 p ⟨i, hi, q⟩ => by
    subst hi
    obtain ⟨fT, fV, R1⟩ := R1
    obtain ⟨r, R1⟩ := R1.topS
    simp only [RS] at r
    exact ⟨i, r, hn (some i) e1 H1 ⟨fT, fV, R1⟩ p q⟩) hx
abbrev RSl := V → Option Int → Option Int → Hp → VK → Prop
def SlD (K : PySem.W.Frag) (r : RSl) (g : D → Option Int → Option Int → (D → Prop) → Prop) : Prop := ∀ (ow : Addr → Prop) (H : Hp) (x : V) (dx : D) (lo hi : Option Int) (Q : VK) (Qd : D → Prop), RB K ow H dx x → g dx lo hi Qd → (∀ z v, RS K ow H z v → Qd z → Q v H) → r x lo hi H Q
def SlL (K : PySem.W.Frag) (r : RSl) (g : D → Option Int → Option Int → (List D → Prop) → Prop) : Prop := ∀ (ow : Addr → Prop) (H : Hp) (x : V) (dx : D) (lo hi : Option Int) (Q : VK) (Qd : List D → Prop), RB K ow H dx x → g dx lo hi Qd → (∀ zs vs p, RSs K ow H zs vs → Qd zs → H p = none → Q (.ref p) (upd H p (.lst vs))) → r x lo hi H Q
def SlT (K : PySem.W.Frag) (r : RSl) (g : D → Option Int → Option Int → (List D → Prop) → Prop) : Prop := ∀ (ow : Addr → Prop) (H : Hp) (x : V) (dx : D) (lo hi : Option Int) (Q : VK) (Qd : List D → Prop), RB K ow H dx x → g dx lo hi Qd → (∀ zs vs p H', RSs K ow H zs vs → Qd zs → Same H H' → SqT K H' p vs → Q (.ref p) H') → r x lo hi H Q
def vSl (g : D → Option Int → Option Int → (D → Prop) → Prop) (f : VT) (fl fh : VTO) : VT := fun e Q Qx => f e (fun x e1 => fl e1 (fun lo e2 => fh e2 (fun hi e3 => g x lo hi fun z => Q z e3) Qx) Qx) Qx
def vSlL (g : D → Option Int → Option Int → (List D → Prop) → Prop) (f : VT) (fl fh : VTO) : VT := fun e Q Qx => f e (fun x e1 => fl e1 (fun lo e2 => fh e2 (fun hi e3 => g x lo hi fun z => Q (.lst z) e3) Qx) Qx) Qx
def vSlT (g : D → Option Int → Option Int → (List D → Prop) → Prop) (f : VT) (fl fh : VTO) : VT := fun e Q Qx => f e (fun x e1 => fl e1 (fun lo e2 => fh e2 (fun hi e3 => g x lo hi fun z => Q (.tup z) e3) Qx) Qx) Qx
variable {tl th : TO} {fl fh : VTO}
theorem sl3 (h : VE c W m te .s f) (hl : VO c W m tl fl) (hh : VO c W m th fh) {T : List Tm} {σ : L2.St} {e : Env} {H : Hp} {Q : V → Option Int → Option Int → Hp → Prop} {Qv : D → Option Int → Option Int → Env → Prop} {Qx : QX} (hR : R c T σ e H)
    (hf : f e (fun x e1 => fl e1 (fun lo e2 => fh e2 (fun hi e3 => Qv x lo hi e3) Qx) Qx) Qx) (hn : ∀ fT fV x dx lo hi e' H', RX c fT fV T σ e' H' → RS c.K (owOf c fT fV) H' dx x → Post m H H' e e' → Qv dx lo hi e' → Q x lo hi H') (hx : ∀ x d e' H', R c T σ e' H' → XAt H' x d → Qx x e' → W (.ref x.C) d σ H') :
    te σ H fun x H1 => tl σ H1 fun lo H2 => th σ H2 fun hi H3 => Q x lo hi H3 := by
  refine h T σ e H _ _ Qx hR hf (fun x dx e1 H1 R1 P1 h1 => ?_) hx
  have hx' : ∀ xn d e' H', R c ((.s, x, dx) :: T) σ e' H' → XAt H' xn d → Qx xn e' → W (.ref xn.C) d σ H' := fun xn d e' H' R' X' q' => hx xn d e' H' R'.pop X' q'
  refine hl _ σ e1 H1 _ _ Qx R1 h1 (fun lo e2 H2 R2 P2 h2 => hh _ σ e2 H2 _ _ Qx R2 h2 (fun hi e3 H3 R3 P3 h3 => ?_) hx') hx'
  obtain ⟨fT, fV, R3⟩ := R3
  obtain ⟨rx, R3⟩ := R3.topS
  exact hn fT fV x dx lo hi e3 H3 R3 rx (P1.trans (P2.trans P3)) h3
theorem v_sl {r : RSl} {g : D → Option Int → Option Int → (D → Prop) → Prop} (h : VE c W m te .s f) (hl : VO c W m tl fl) (hh : VO c W m th fh) (ho : SlD c.K r g) : VE c W m (tSl r te tl th) .s (vSl g f fl fh) := fun T σ e H Q Qv Qx hR hf hn hx =>
  sl3 h hl hh hR hf (fun fT fV x dx lo hi e' H' R' rx p q => ho _ H' x dx lo hi Q _ rx.b q fun z v rz qz => hn v z e' H' ⟨fT, fV, R'.pushS rz⟩ p qz) hx
theorem v_slL {r : RSl} {g : D → Option Int → Option Int → (List D → Prop) → Prop} (h : VE c W m te .s f) (hl : VO c W m tl fl) (hh : VO c W m th fh) (ho : SlL c.K r g) : VE c W m (tSl r te tl th) (.l .s) (vSlL g f fl fh) := fun T σ e H Q Qv Qx hR hf hn hx =>
  sl3 h hl hh hR hf (fun fT fV x dx lo hi e' H' R' rx p q => ho _ H' x dx lo hi Q _ rx.b q fun zs vs a rz qz ha => hn _ _ e' _ (R'.newL ha rz) (p.trans (Post.same (same_new ha))) qz) hx
theorem v_slT {r : RSl} {g : D → Option Int → Option Int → (List D → Prop) → Prop} (h : VE c W m te .s f) (hl : VO c W m tl fl) (hh : VO c W m th fh) (ho : SlT c.K r g) : VE c W m (tSl r te tl th) .s (vSlT g f fl fh) := fun T σ e H Q Qv Qx hR hf hn hx =>
  sl3 h hl hh hR hf (fun fT fV x dx lo hi e' H' R' rx p q => ho _ H' x dx lo hi Q _ rx.b q fun zs vs a H2 rz qz s sq => hn _ _ e' _ (R'.newT s sq rz) (p.trans (Post.same s)) qz) hx
end
end VL
set_option Elab.async false
set_option linter.all false
set_option maxRecDepth 100000
set_option maxHeartbeats 2000000
namespace VL
open PySem PySem.Spec PyProof.Rows L2
/-! ### lists of whatever sort, put together -/
section
variable {X : Cx} {pins : List (Addr × Obj)} {σ : L2.St} {H : Hp} {s : Shared} {a : Addr} {xs : List V}
theorem lsR_at (I : Inv X pins σ H s) (h : LsR X.K H a xs) : xs.length ≤ sizeLine ∧ ∃ (its : List Value) (n : Nat), Vals xs its ∧ xs.length = its.length ∧ s.heap.get? a = some { cls := .type "list", data := .seq its.toArray n } := by
  rcases h with h | ⟨its, n, h, z, r⟩
  · obtain ⟨z, its, n, r, e⟩ := h.ok I.hok
    exact ⟨z, its, n, r, r.length, e⟩
  · exact ⟨by rw [r.length]; exact z, its, n, r, r.length, I.kIn a _ h⟩
def rCatR (K : PySem.W.Frag) : R2 := fun x y H Q => ∃ l b xs zs, x = .ref l ∧ y = .ref b ∧ LsR K H l xs ∧ LsR K H b zs ∧ xs.length + zs.length ≤ sizeLine ∧ ∀ p, H p = none → Q (.ref p) (upd H p (.lst (xs ++ zs)))
theorem catR (K0 : PySem.W.Frag) (hK : X.K = K0) : OpR X (binaryOp .Add) (rCatR K0) := by
  subst hK
  intro pins s σ H x y v u Q I rx ry h
  obtain ⟨l, b, xs, zs, rfl, rfl, hH, hB, hz, q⟩ := h
  cases rx
  cases ry
  obtain ⟨z, its, n, r, hl, e⟩ := lsR_at I hH
  obtain ⟨z2, its2, n2, r2, hl2, e2⟩ := lsR_at I hB
  refine PySem.P.add_list e e2 ?_ (by rw [List.size_toArray, List.size_toArray]; omega)
  have ea : its.toArray ++ its2.toArray = (its ++ its2).toArray := by simp
  rw [ea]
  exact ⟨.ref _, _, I.lnew (t' := s.toks) (r.append r2) (by rw [List.length_append]; omega), rfl, q _ I.fresh⟩
def rExtR (K : PySem.W.Frag) : V → List V → Hp → VK → Prop := fun x vs H Q => ∃ l b xs zs, x = .ref l ∧ vs = [.ref b] ∧ H l = some (.lst xs) ∧ LsR K H b zs ∧ xs.length + zs.length ≤ sizeLine ∧ Q .non (upd H l (.lst (xs ++ zs)))
theorem extR (K0 : PySem.W.Frag) (hK : X.K = K0) : MtM X "list.extend" (rExtR K0) := by
  subst hK
  intro pins s σ H x vs v us Q I rx rv h
  obtain ⟨l, b, xs, zs, rfl, rfl, hH, hB, hz, q⟩ := h
  cases rx
  obtain ⟨u, rfl, ru⟩ := rv.one
  cases ru
  obtain ⟨z, its, n, r, hl, e⟩ := I.lstM hH
  obtain ⟨z2, its2, n2, r2, hl2, e2⟩ := lsR_at I hB
  have hsz : its.toArray.size + its2.toArray.size ≤ sizeLine := by rw [List.size_toArray, List.size_toArray]; omega
  have hlong : ¬ (!its.toArray.isEmpty && Builtin.List.listTooLong (its.toArray.size + its2.toArray.size)) = true := by
    rw [notLongL hsz, Bool.and_false]
    exact Bool.false_ne_true
  refine call_meets F.slot_list_extend ⟨_, e, rfl⟩ F.entry_list_extend (F.args_list_extend_2 _ _)
    (AutoSeq1.list_extend_list_list_0 l its.toArray n b its2.toArray n2 hlong (by rw [List.size_toArray]; omega) (by omega)) ⟨e, e2, ?_⟩
  refine ⟨.non, _, I.lset (its' := its ++ its2) hH e (by simp) (r.append r2) ?_, rfl, q⟩
  rw [List.length_append]
  omega
/-- t + u, whatever they are -/
def rCatU (K : PySem.W.Frag) : R2 := fun x y H Q => ∃ a b xs ys, x = .ref a ∧ y = .ref b ∧ SqT K H a xs ∧ SqT K H b ys ∧ xs.length + ys.length ≤ sizeLine ∧ ∀ p H', SqT K H' p (xs ++ ys) → Same H H' → Q (.ref p) H'
theorem catU (K0 : PySem.W.Frag) (hK : X.K = K0) : OpR X (binaryOp .Add) (rCatU K0) := by
  subst hK
  intro pins s σ H x y v u Q I rx ry h
  obtain ⟨a, b, xs, ys, rfl, rfl, ha, hb, hz, q⟩ := h
  refine op_catA pins s σ H _ _ v u Q I rx ry ⟨a, b, xs, ys, rfl, rfl, ha, hb, hz, fun e => ?_, fun _ e => ?_, fun _ _ p np => q p _ (SqT.of upd_same) (same_new np)⟩
  · subst e
    exact q b H hb fun _ _ e => e
  · subst e
    exact q a H (by rw [List.append_nil]; exact ha) fun _ _ e => e
/-- t[lo:hi], whatever it is -/
def rSlU (K : PySem.W.Frag) : V → Option Int → Option Int → Hp → VK → Prop := fun x lo hi H Q => ∃ a xs, x = .ref a ∧ SqT K H a xs ∧ ∀ p H', SqT K H' p (cutV xs lo hi) → Same H H' → Q (.ref p) H'
theorem slU (K0 : PySem.W.Frag) (hK : X.K = K0) : SlR X (rSlU K0) := by
  subst hK
  intro pins s σ H x v vl vu lo hi sl Q I rx hs pl pu h
  obtain ⟨a, xs, rfl, hx, q⟩ := h
  refine sl_tupA pins s σ H _ v vl vu lo hi sl Q I rx hs pl pu ⟨a, xs, rfl, hx, fun e => q a H ?_ fun _ _ e => e, fun _ p np => q p _ (SqT.of upd_same) (same_new np)⟩
  unfold cutV
  rw [e.1, e.2, List.drop_zero, Nat.sub_zero, List.take_length]
  exact hx
end
/-! rules that name the written part (for the blocks of comprehensions) -/
section
variable {X : Cx} (K0 : PySem.W.Frag) (hK : X.K = K0)
include hK
theorem ixL : IxR X (rIxL K0) := by subst hK; exact ix_list
theorem ixT : IxR X (rIxT K0) := by subst hK; exact ix_tup
theorem slL : SlR X (rSlL K0) := by subst hK; exact sl_list
theorem lenK : CallR X (.builtin "len") (fun xs H Q => ∃ p ys, xs = [.ref p] ∧ (SqL K0 H p ys ∨ SqT K0 H p ys) ∧ Q (.int ys.length) H) := by subst hK; exact call_len_seq
theorem inK : OpR X (compareOp .In) (rIn K0 false) := by subst hK; exact op_in_seq
theorem notInK : OpR X (compareOp .NotIn) (rIn K0 true) := by subst hK; exact op_notIn_seq
theorem sumK (hc : X.calm = true) : CallR X (.builtin "sum") (rSum K0) := by subst hK; exact cr_sum hc
theorem allK (hc : X.calm = true) : CallR X (.builtin "all") (rAll K0) := by subst hK; exact cr_all hc
theorem anyK (hc : X.calm = true) : CallR X (.builtin "any") (rAny K0) := by subst hK; exact cr_any hc
theorem listK : CallR X (.type "list") (fun xs H Q => ∃ p ys, xs = [.ref p] ∧ (SqL K0 H p ys ∨ SqT K0 H p ys) ∧ ∀ l, H l = none → Q (.ref l) (upd H l (.lst ys))) := by subst hK; exact call_list_of
theorem tupleK : CallR X (.type "tuple") (fun xs H Q => ∃ p ys, xs = [.ref p] ∧ ((SqL K0 H p ys ∧ ∀ l, H l = none → Q (.ref l) (upd H l (.tup ys))) ∨ (SqT K0 H p ys ∧ Q (.ref p) H))) := by subst hK; exact call_tuple_of
theorem eqDK (hu : X.A.units + 64 < cLine) : OpR X (compareOp .Eq) (rEqD K0) := by subst hK; exact op_eqD hu
theorem neDK (hu : X.A.units + 64 < cLine) : OpR X (compareOp .NotEq) (rNeD K0) := by subst hK; exact op_neD hu
theorem inDK (hu : X.A.units + 65 < cLine) : OpR X (compareOp .In) (rInD K0) := by subst hK; exact op_inD hu
theorem notInDK (hu : X.A.units + 65 < cLine) : OpR X (compareOp .NotIn) (rNotInD K0) := by subst hK; exact op_notInD hu
theorem indexDK (hu : X.A.units + 65 < cLine) : MtR X "list.index" (rIndexD K0) := by subst hK; exact mt_indexD hu
theorem reprK (gd : X.A.guards = some []) (hu : X.A.units + 64 < cLine) : CallR X (.builtin "repr") (Fb.rReprD K0) := by subst hK; exact Fb.call_reprD gd hu
theorem piLK {tg l : Expr} {tl : TE} (hl : PE X l tl) : PI X tg l (iList K0 tl) := by subst hK; exact pi_list hl
theorem piTK {tg l : Expr} {tl : TE} (hl : PE X l tl) : PI X tg l (iTup K0 tl) := by subst hK; exact pi_tup hl
theorem fldK {e : Expr} {ta : TE} {f : Str} {pos : Pos} (he : PE X e ta) (hb : attributeBase e f X.env (eval e X.env) = eval e X.env) : PE X (.Attribute e f pos) (tFld K0 ta f) := by subst hK; exact pe_fld he hb
theorem tupTK {es : List Expr} {k : Nat} {pos : Pos} {n : Nat} {t : TGs} (hc : X.calm = true) (h : PGs X es t) (hn : (assignEach es X.env).length = n := by rfl) (hst : (assignEach es X.env).findIdx? (·.1) = none := by rfl) : PG X (.Tuple es k pos) (gTup K0 n t) := by subst hK; exact pg_tup hc h hn hst
end
/-! ### what is read off data -/
section
variable {K : PySem.W.Frag} {ow : Addr → Prop} {H : Hp} {x : V}
theorem RB.int {i : Int} (h : RB K ow H (.int i) x) : x = .int i := by simpa only [RB, RS] using h
theorem RB.str {i : Str} (h : RB K ow H (.str i) x) : x = .str i := by simpa only [RB, RS] using h
theorem RB.bl {i : Bool} (h : RB K ow H (.bl i) x) : x = .bl i := by simpa only [RB, RS] using h
theorem RB.non (h : RB K ow H .non x) : x = .non := by simpa only [RB, RS] using h
theorem RB.tup {l : List D} (h : RB K ow H (.tup l) x) : ∃ a vs, x = .ref a ∧ SqT K H a vs ∧ RSs K ow H l vs := by simpa only [RB, RS] using h
theorem RB.lst {l : List D} (h : RB K ow H (.lst l) x) : ∃ a vs, x = .ref a ∧ LsR K H a vs ∧ RSs K ow H l vs := h
theorem RB.dct {ks : List Key} {l : List D} (h : RB K ow H (.dct ks l) x) : ∃ a vs, x = .ref a ∧ Rd H a (.dK (ks.zip vs)) ∧ ks.length = vs.length ∧ RSs K ow H l vs := h
theorem rs_int {i : Int} : RS K ow H (.int i) (.int i) := by simp only [RS]
theorem rs_str {i : Str} : RS K ow H (.str i) (.str i) := by simp only [RS]
theorem rs_bl {i : Bool} : RS K ow H (.bl i) (.bl i) := by simp only [RS]
theorem rs_non : RS K ow H .non .non := by simp only [RS]
theorem RB.sc {d : D} (h : RB K ow H d x) (s : isSc d = true) : x = scV d := by
  cases d with
  | non => exact h.non
  | bl b => exact h.bl
  | int i => exact h.int
  | str z => exact h.str
  | _ => cases s
theorem rs_sc {d : D} (s : isSc d = true) : RS K ow H d (scV d) := by
  cases d with
  | non => exact rs_non
  | bl b => exact rs_bl
  | int i => exact rs_int
  | str z => exact rs_str
  | _ => cases s
theorem RSs.sc : ∀ {ds : List D} {vs : List V}, RSs K ow H ds vs → ds.all isSc = true → vs = ds.map scV
  | [], _, h, _ => by simp only [RSs] at h; rw [h]; rfl
  | d :: ds, _, h, s => by
    simp only [RSs] at h
    obtain ⟨v, r, rfl, h, t⟩ := h
    rw [List.all_cons, Bool.and_eq_true] at s
    rw [List.map_cons, RSs.sc t s.2, h.b.sc s.1]
theorem RSs.at {l : List D} {vs : List V} {i : Int} {d : D} (h : RSs K ow H l vs) (e : atI l i = some d) : ∃ v, atI vs i = some v ∧ RS K ow H d v := by
  unfold atI at e ⊢
  rw [h.len]
  cases q : ixN l.length i with
  | none =>
    rw [q] at e
    cases e
  | some j =>
    rw [q] at e
    exact h.get e
theorem RSs.cut {l : List D} {vs : List V} (h : RSs K ow H l vs) (lo hi : Option Int) : RSs K ow H ((l.drop (HT.sIx l.length 0 lo)).take (HT.sIx l.length l.length hi - HT.sIx l.length 0 lo)) (cutV vs lo hi) := by
  unfold cutV
  rw [h.len]
  exact (h.drop _).take _
end
def cuD (l : List D) (lo hi : Option Int) : List D := (l.drop (HT.sIx l.length 0 lo)).take (HT.sIx l.length l.length hi - HT.sIx l.length 0 lo)
/-! whole numbers, texts -/
def gI (C : Int → Int → Prop) (h : Int → Int → D) : G2
  | .int i, .int j, Q => C i j ∧ Q (h i j)
  | _, _, _ => False
def gI0 (h : Int → Int → D) : G2
  | .int i, .int j, Q => Q (h i j)
  | _, _, _ => False
section
variable {K : PySem.W.Frag}
theorem od_i {C : Int → Int → Prop} {k : Int → Int → Int} : OpD K (rI C fun i j => .int (k i j)) (gI C fun i j => .int (k i j)) := fun ow H x y dx dy Q Qd rx ry hg hn => by
  cases dx <;> first | exact hg.elim | skip
  cases dy <;> first | exact hg.elim | skip
  exact ⟨_, _, rx.int, ry.int, hg.1, hn _ _ rs_int hg.2⟩
theorem od_i0 {k : Int → Int → Int} : OpD K (rI0 fun i j => .int (k i j)) (gI0 fun i j => .int (k i j)) := fun ow H x y dx dy Q Qd rx ry hg hn => by
  cases dx <;> first | exact hg.elim | skip
  cases dy <;> first | exact hg.elim | skip
  exact ⟨_, _, rx.int, ry.int, hn _ _ rs_int hg⟩
theorem od_b0 {k : Int → Int → Bool} : OpD K (rI0 fun i j => .bl (k i j)) (gI0 fun i j => .bl (k i j)) := fun ow H x y dx dy Q Qd rx ry hg hn => by
  cases dx <;> first | exact hg.elim | skip
  cases dy <;> first | exact hg.elim | skip
  exact ⟨_, _, rx.int, ry.int, hn _ _ rs_bl hg⟩
def gAddS : G2
  | .str a, .str b, Q => a.length + b.length ≤ sizeLine ∧ Q (.str (a ++ b))
  | _, _, _ => False
theorem od_addS : OpD K (fun x y H Q => ∃ i j, x = .str i ∧ y = .str j ∧ i.length + j.length ≤ sizeLine ∧ Q (.str (i ++ j)) H) gAddS := fun ow H x y dx dy Q Qd rx ry hg hn => by
  cases dx <;> first | exact hg.elim | skip
  cases dy <;> first | exact hg.elim | skip
  exact ⟨_, _, rx.str, ry.str, hg.1, hn _ _ rs_str hg.2⟩
def gS (p : Str → Str → Bool) : G2
  | .str a, .str b, Q => Q (.bl (p a b))
  | _, _, _ => False
theorem od_s {p : Str → Str → Bool} : OpD K (fun x y H Q => ∃ i j, x = .str i ∧ y = .str j ∧ Q (.bl (p i j)) H) (gS p) := fun ow H x y dx dy Q Qd rx ry hg hn => by
  cases dx <;> first | exact hg.elim | skip
  cases dy <;> first | exact hg.elim | skip
  exact ⟨_, _, rx.str, ry.str, hn _ _ rs_bl hg⟩
def gSg (p : Nat → Str → Bool) : G2
  | .str a, .str b, Q => ∃ c, a = ⟨#[c]⟩ ∧ Q (.bl (p c b))
  | _, _, _ => False
theorem od_sg {p : Nat → Str → Bool} : OpD K (fun x y H Q => ∃ (c : Nat) (z : Str), x = .str ⟨#[c]⟩ ∧ y = .str z ∧ Q (.bl (p c z)) H) (gSg p) := fun ow H x y dx dy Q Qd rx ry hg hn => by
  cases dx <;> first | exact hg.elim | skip
  cases dy <;> first | exact hg.elim | skip
  obtain ⟨c, rfl, q⟩ := hg
  exact ⟨c, _, rx.str, ry.str, hn _ _ rs_bl q⟩
/-! ==, !=, is None -/
def scalD (x y : D) : Bool := isSc x && isSc y && scal (scV x) (scV y)
def eqD : D → D → Bool
  | .non, .non => true
  | .bl a, .bl b => decide (a = b)
  | .int a, .int b => decide (a = b)
  | .str a, .str b => decide (a = b)
  | _, _ => false
def gEq : G2 := fun x y Q => scalD x y = true ∧ Q (.bl (eqD x y))
def gNe : G2 := fun x y Q => scalD x y = true ∧ Q (.bl (!eqD x y))
theorem eqD_dec {x y : D} (h : scalD x y = true) : decide (scV x = scV y) = eqD x y := by
  unfold scalD at h
  rw [Bool.and_eq_true, Bool.and_eq_true] at h
  cases x <;> first | (simp [isSc] at h; done) | skip
  all_goals (cases y <;> first | (simp [isSc] at h; done) | simp [scV, eqD])
theorem od_eq : OpD K rEq gEq := fun ow H x y dx dy Q Qd rx ry hg hn => by
  obtain ⟨h, q⟩ := hg
  have z := h
  unfold scalD at z
  rw [Bool.and_eq_true, Bool.and_eq_true] at z
  rw [rx.sc z.1.1, ry.sc z.1.2]
  exact ⟨z.2, by rw [eqD_dec h]; exact hn _ _ rs_bl q⟩
theorem od_ne : OpD K rNe gNe := fun ow H x y dx dy Q Qd rx ry hg hn => by
  obtain ⟨h, q⟩ := hg
  have z := h
  unfold scalD at z
  rw [Bool.and_eq_true, Bool.and_eq_true] at z
  rw [rx.sc z.1.1, ry.sc z.1.2]
  exact ⟨z.2, by rw [eqD_dec h]; exact hn _ _ rs_bl q⟩
def isNon : D → Bool
  | .non => true
  | _ => false
theorem RB.isNon {ow : Addr → Prop} {H : Hp} {d : D} {x : V} (h : RB K ow H d x) : decide (x = .non) = VL.isNon d := by
  cases d with
  | non => rw [h.non]; rfl
  | bl b => rw [h.bl]; rfl
  | int i => rw [h.int]; rfl
  | str z => rw [h.str]; rfl
  | tup l => obtain ⟨a, vs, rfl, _⟩ := h.tup; rfl
  | lst l => obtain ⟨a, vs, rfl, _⟩ := h.lst; rfl
  | dct ks l => obtain ⟨a, vs, rfl, _⟩ := h.dct; rfl
  | obj C fs l =>
    obtain ⟨a, dx, vs, rfl, _⟩ := h
    rfl
  | ref a =>
    have z : x = .ref a := by simpa only [RB, RS] using h
    rw [z]; rfl
  | mem as l =>
    simp only [RB, RS] at h
def gIsN : G2
  | x, .non, Q => Q (.bl (isNon x))
  | _, _, _ => False
def gNotN : G2
  | x, .non, Q => Q (.bl (!isNon x))
  | _, _, _ => False
theorem od_isN : OpD K (fun x y H Q => y = .non ∧ Q (.bl (decide (x = .non))) H) gIsN := fun ow H x y dx dy Q Qd rx ry hg hn => by
  cases dy <;> first | (simp [gIsN] at hg; done) | skip
  exact ⟨ry.non, by rw [rx.isNon]; exact hn _ _ rs_bl (by simpa only [gIsN] using hg)⟩
theorem od_notN : OpD K (fun x y H Q => y = .non ∧ Q (.bl (!decide (x = .non))) H) gNotN := fun ow H x y dx dy Q Qd rx ry hg hn => by
  cases dy <;> first | (simp [gNotN] at hg; done) | skip
  exact ⟨ry.non, by rw [rx.isNon]; exact hn _ _ rs_bl (by simpa only [gNotN] using hg)⟩
/-! items -/
def gIxL : G2
  | .lst l, .int i, Q => ∃ d, atI l i = some d ∧ Q d
  | _, _, _ => False
def gIxT : G2
  | .tup l, .int i, Q => ∃ d, atI l i = some d ∧ Q d
  | _, _, _ => False
def gIxS : G2
  | .str z, .int i, Q => z.length ≤ sizeLine ∧ ∃ c, atI z.cps.toList i = some c ∧ Q (.str ⟨#[c]⟩)
  | _, _, _ => False
theorem od_ixL : OpD K (rIxL K) gIxL := fun ow H x y dx dy Q Qd rx ry hg hn => by
  cases dx <;> first | exact hg.elim | skip
  cases dy <;> first | exact hg.elim | skip
  obtain ⟨d, e, q⟩ := hg
  obtain ⟨a, vs, rfl, s, r⟩ := rx.lst
  obtain ⟨v, ev, rv⟩ := r.at e
  exact ⟨a, vs, _, v, rfl, ry.int, s.sq, ev, hn _ _ rv q⟩
theorem od_ixT : OpD K (rIxT K) gIxT := fun ow H x y dx dy Q Qd rx ry hg hn => by
  cases dx <;> first | exact hg.elim | skip
  cases dy <;> first | exact hg.elim | skip
  obtain ⟨d, e, q⟩ := hg
  obtain ⟨a, vs, rfl, s, r⟩ := rx.tup
  obtain ⟨v, ev, rv⟩ := r.at e
  exact ⟨a, vs, _, v, rfl, ry.int, s, ev, hn _ _ rv q⟩
theorem od_ixS : OpD K rIxS gIxS := fun ow H x y dx dy Q Qd rx ry hg hn => by
  cases dx <;> first | exact hg.elim | skip
  cases dy <;> first | exact hg.elim | skip
  obtain ⟨hz, c, e, q⟩ := hg
  exact ⟨_, _, c, rx.str, ry.int, hz, e, hn _ _ rs_str q⟩
/-! in, of flat things -/
def gIn (neg : Bool) : G2
  | x, .lst l, Q => isSc x = true ∧ l.all isSc = true ∧ Q (.bl (if neg then !inV (scV x) (l.map scV) else inV (scV x) (l.map scV)))
  | x, .tup l, Q => isSc x = true ∧ l.all isSc = true ∧ Q (.bl (if neg then !inV (scV x) (l.map scV) else inV (scV x) (l.map scV)))
  | _, _, _ => False
theorem flat_sc (d : D) : flatV (scV d) = true := by cases d <;> rfl
theorem flats_sc (l : List D) : (l.map scV).all flatV = true := by
  rw [List.all_eq_true]
  intro v hv
  obtain ⟨d, _, rfl⟩ := List.mem_map.mp hv
  exact flat_sc d
theorem od_in {neg : Bool} : OpD K (rIn K neg) (gIn neg) := fun ow H x y dx dy Q Qd rx ry hg hn => by
  cases dy <;> first | (simp only [gIn] at hg; done) | skip
  · simp only [gIn] at hg
    obtain ⟨h1, h2, q⟩ := hg
    obtain ⟨a, vs, rfl, s, r⟩ := ry.tup
    have e := r.sc h2
    subst e
    rw [rx.sc h1]
    exact ⟨a, _, rfl, .inr s, flat_sc _, flats_sc _, hn _ _ rs_bl q⟩
  · simp only [gIn] at hg
    obtain ⟨h1, h2, q⟩ := hg
    obtain ⟨a, vs, rfl, s, r⟩ := ry.lst
    have e := r.sc h2
    subst e
    rw [rx.sc h1]
    exact ⟨a, _, rfl, .inl s.sq, flat_sc _, flats_sc _, hn _ _ rs_bl q⟩
/-! lists, tuples put together, cut -/
def gCat : G2L
  | .lst a, .lst b, Q => a.length + b.length ≤ sizeLine ∧ Q (a ++ b)
  | _, _, _ => False
theorem ol_cat : OpL K (rCatR K) gCat := fun ow H x y dx dy Q Qd rx ry hg hn => by
  cases dx <;> first | exact hg.elim | skip
  cases dy <;> first | exact hg.elim | skip
  obtain ⟨a, vs, rfl, s, r⟩ := rx.lst
  obtain ⟨b, ws, rfl, s2, r2⟩ := ry.lst
  exact ⟨a, b, vs, ws, rfl, rfl, s, s2, by rw [r.len, r2.len]; exact hg.1, fun p hp => hn _ _ p (RSs.app r2 r) hg.2 hp⟩
def gCatT : G2L
  | .tup a, .tup b, Q => a.length + b.length ≤ sizeLine ∧ Q (a ++ b)
  | _, _, _ => False
theorem ot_cat : OpT K (rCatU K) gCatT := fun ow H x y dx dy Q Qd rx ry hg hn => by
  cases dx <;> first | exact hg.elim | skip
  cases dy <;> first | exact hg.elim | skip
  obtain ⟨a, vs, rfl, s, r⟩ := rx.tup
  obtain ⟨b, ws, rfl, s2, r2⟩ := ry.tup
  exact ⟨a, b, vs, ws, rfl, rfl, s, s2, by rw [r.len, r2.len]; exact hg.1, fun p H' sq sm => hn _ _ p H' (RSs.app r2 r) hg.2 sm sq⟩
def gSlL : D → Option Int → Option Int → (List D → Prop) → Prop
  | .lst l, lo, hi, Q => Q (cuD l lo hi)
  | _, _, _, _ => False
def gSlT : D → Option Int → Option Int → (List D → Prop) → Prop
  | .tup l, lo, hi, Q => Q (cuD l lo hi)
  | _, _, _, _ => False
def gSlS : D → Option Int → Option Int → (D → Prop) → Prop
  | .str z, lo, hi, Q => z.length ≤ sizeLine ∧ Q (.str (cutS z lo hi))
  | _, _, _, _ => False
theorem ol_sl : SlL K (rSlL K) gSlL := fun ow H x dx lo hi Q Qd rx hg hn => by
  cases dx <;> first | exact hg.elim | skip
  obtain ⟨a, vs, rfl, s, r⟩ := rx.lst
  exact ⟨a, vs, rfl, s.sq, fun p hp => hn _ _ p (r.cut lo hi) hg hp⟩
theorem ot_sl : SlT K (rSlU K) gSlT := fun ow H x dx lo hi Q Qd rx hg hn => by
  cases dx <;> first | exact hg.elim | skip
  obtain ⟨a, vs, rfl, s, r⟩ := rx.tup
  exact ⟨a, vs, rfl, s, fun p H' sq sm => hn _ _ p H' (r.cut lo hi) hg sm sq⟩
theorem od_sl : SlD K rSlS gSlS := fun ow H x dx lo hi Q Qd rx hg hn => by
  cases dx <;> first | exact hg.elim | skip
  exact ⟨_, rx.str, hg.1, hn _ _ rs_str hg.2⟩
/-! data of any depth -/
mutual
def py : D → PyData
  | .non => .none
  | .bl b => .bool b
  | .int i => .int i
  | .str s => .str s
  | .tup l => .tuple (pys l)
  | .lst l => .list (pys l)
  | .dct _ _ => .none
  | .obj _ _ _ => .none
  | .ref _ => .none
  | .mem _ _ => .none
def pys : List D → List PyData
  | [] => []
  | d :: ds => py d :: pys ds
end
mutual
def plain : D → Bool
  | .tup l => plains l
  | .lst l => plains l
  | .dct _ _ => false
  | .obj _ _ _ => false
  | .ref _ => false
  | .mem _ _ => false
  | _ => true
def plains : List D → Bool
  | [] => true
  | d :: ds => plain d && plains ds
end
theorem pys_map : ∀ l : List D, pys l = l.map py
  | [] => by rw [pys]; rfl
  | d :: r => by rw [pys, pys_map r]; rfl
mutual
theorem RS.dp {ow : Addr → Prop} {H : Hp} : ∀ (d : D) (v : V), RS K ow H d v → plain d = true → Dp K H v (py d)
  | .non, _, h, _ => by simp only [RS] at h; rw [h, py]; exact .non
  | .bl b, _, h, _ => by simp only [RS] at h; rw [h, py]; exact .bl b
  | .int i, _, h, _ => by simp only [RS] at h; rw [h, py]; exact .int i
  | .str s, _, h, _ => by simp only [RS] at h; rw [h, py]; exact .str s
  | .tup l, _, h, p => by
    simp only [RS] at h
    obtain ⟨a, vs, rfl, q, t⟩ := h
    rw [py]
    exact .tup q (RSs.dp l vs t (by simpa only [plain] using p))
  | .lst l, _, h, p => by
    simp only [RS] at h
    obtain ⟨a, vs, rfl, q, t⟩ := h
    rw [py]
    exact .lst q.sq (RSs.dp l vs t (by simpa only [plain] using p))
  | .dct _ _, _, _, p => by simp [plain] at p
  | .obj _ _ _, _, _, p => by simp [plain] at p
  | .ref _, _, _, p => by simp [plain] at p
  | .mem _ _, _, _, p => by simp [plain] at p
theorem RSs.dp {ow : Addr → Prop} {H : Hp} : ∀ (ds : List D) (vs : List V), RSs K ow H ds vs → plains ds = true → DpAll K H vs (pys ds)
  | [], _, h, _ => by simp only [RSs] at h; rw [h, pys]; exact .nil
  | d :: ds, _, h, p => by
    simp only [RSs] at h
    obtain ⟨v, r, rfl, h, t⟩ := h
    simp only [plains, Bool.and_eq_true] at p
    rw [pys]
    exact .cons (RS.dp d v h p.1) (RSs.dp ds r t p.2)
end
theorem RB.dp {ow : Addr → Prop} {H : Hp} {d : D} {v : V} (h : RB K ow H d v) (p : plain d = true) : Dp K H v (py d) := by
  cases d with
  | lst l =>
    obtain ⟨a, vs, rfl, s, r⟩ := h.lst
    rw [py]
    exact .lst s.sq (RSs.dp l vs r (by simpa only [plain] using p))
  | dct ks l => simp [plain] at p
  | obj C fs l => simp [plain] at p
  | ref a => simp [plain] at p
  | mem as l => simp [plain] at p
  | non => exact RS.dp _ _ (by simpa only [RB] using h) p
  | bl b => exact RS.dp _ _ (by simpa only [RB] using h) p
  | int i => exact RS.dp _ _ (by simpa only [RB] using h) p
  | str z => exact RS.dp _ _ (by simpa only [RB] using h) p
  | tup l => exact RS.dp _ _ (by simpa only [RB] using h) p
def gEqD : G2 := fun x y Q => plain x = true ∧ plain y = true ∧ SeqAt.shaped (py x) = true ∧ SeqAt.shaped (py y) = true ∧ Q (.bl (PyData.eqv (py x) (py y)))
def gNeD : G2 := fun x y Q => plain x = true ∧ plain y = true ∧ SeqAt.shaped (py x) = true ∧ SeqAt.shaped (py y) = true ∧ Q (.bl (!PyData.eqv (py x) (py y)))
theorem od_eqD : OpD K (rEqD K) gEqD := fun ow H x y dx dy Q Qd rx ry ⟨h1, h2, h3, h4, q⟩ hn => ⟨_, _, rx.dp h1, ry.dp h2, h3, h4, hn _ _ rs_bl q⟩
theorem od_neD : OpD K (rNeD K) gNeD := fun ow H x y dx dy Q Qd rx ry ⟨h1, h2, h3, h4, q⟩ hn => ⟨_, _, rx.dp h1, ry.dp h2, h3, h4, hn _ _ rs_bl q⟩
def gInD (neg : Bool) : G2
  | x, .lst l, Q => plain x = true ∧ plains l = true ∧ SeqAt.shaped (py x) = true ∧ SeqAt.shaped (.list (pys l)) = true ∧ Q (.bl (if neg then !(pys l).any fun z => PyData.eqv z (py x) else (pys l).any fun z => PyData.eqv z (py x)))
  | _, _, _ => False
theorem od_inD : OpD K (rInD K) (gInD false) := fun ow H x y dx dy Q Qd rx ry hg hn => by
  cases dy <;> first | (simp only [gInD] at hg; done) | skip
  simp only [gInD] at hg
  obtain ⟨h1, h2, h3, h4, q⟩ := hg
  have z := ry.dp (by simpa only [plain] using h2)
  rw [py] at z
  exact ⟨_, _, rx.dp h1, z, h3, h4, hn _ _ rs_bl q⟩
theorem od_notInD : OpD K (rNotInD K) (gInD true) := fun ow H x y dx dy Q Qd rx ry hg hn => by
  cases dy <;> first | (simp only [gInD] at hg; done) | skip
  simp only [gInD] at hg
  obtain ⟨h1, h2, h3, h4, q⟩ := hg
  have z := ry.dp (by simpa only [plain] using h2)
  rw [py] at z
  exact ⟨_, _, rx.dp h1, z, h3, h4, hn _ _ rs_bl q⟩
/-! calls of builtins -/
def gLen : GA
  | [.lst l], Q => Q (.int l.length)
  | [.tup l], Q => Q (.int l.length)
  | _, _ => False
theorem pr1 {α β : Type} {F : α → β → Prop} {x : α} {ys : List β} (h : Paired F [x] ys) : ∃ y, ys = [y] ∧ F x y := by
  cases h with
  | cons a t => cases t; exact ⟨_, rfl, a⟩
theorem pr2 {α β : Type} {F : α → β → Prop} {x1 x2 : α} {ys : List β} (h : Paired F [x1, x2] ys) : ∃ y1 y2, ys = [y1, y2] ∧ F x1 y1 ∧ F x2 y2 := by
  cases h with
  | cons a t =>
    obtain ⟨y, rfl, b⟩ := pr1 t
    exact ⟨_, _, rfl, a, b⟩
theorem cd_len : CaD K (fun xs H Q => ∃ p ys, xs = [.ref p] ∧ (SqL K H p ys ∨ SqT K H p ys) ∧ Q (.int ys.length) H) gLen := fun ow H vs ds Q Qd rs hg hn => by
  unfold gLen at hg
  split at hg
  · obtain ⟨v, rfl, r⟩ := pr1 rs
    obtain ⟨a, ws, rfl, s, t⟩ := r.lst
    exact ⟨a, ws, rfl, .inl s.sq, hn _ _ (by rw [t.len]; exact rs_int) hg⟩
  · obtain ⟨v, rfl, r⟩ := pr1 rs
    obtain ⟨a, ws, rfl, s, t⟩ := r.tup
    exact ⟨a, ws, rfl, .inr s, hn _ _ (by rw [t.len]; exact rs_int) hg⟩
  · exact hg.elim
def gLenS : GA
  | [.str z], Q => z.length ≤ sizeLine ∧ Q (.int z.length)
  | _, _ => False
theorem cd_lenS : CaD K (fun xs H Q => ∃ z, xs = [.str z] ∧ z.length ≤ sizeLine ∧ Q (.int z.length) H) gLenS := fun ow H vs ds Q Qd rs hg hn => by
  unfold gLenS at hg
  split at hg
  · obtain ⟨v, rfl, r⟩ := pr1 rs
    exact ⟨_, by rw [r.str], hg.1, hn _ _ rs_int hg.2⟩
  · exact hg.elim
def gSum : GA
  | [.lst l], Q => ∃ ns : List Int, l = ns.map D.int ∧ Q (.int ns.sum)
  | _, _ => False
theorem ints_sc (ns : List Int) : (ns.map D.int).all isSc = true := by
  rw [List.all_eq_true]
  intro d hd
  obtain ⟨n, _, rfl⟩ := List.mem_map.mp hd
  rfl
theorem RSs.ints {ow : Addr → Prop} {H : Hp} {ns : List Int} {vs : List V} (h : RSs K ow H (ns.map D.int) vs) : vs = ns.map V.int := by
  rw [h.sc (ints_sc ns), List.map_map]
  rfl
theorem cd_sum : CaD K (rSum K) gSum := fun ow H vs ds Q Qd rs hg hn => by
  unfold gSum at hg
  split at hg
  · obtain ⟨ns, rfl, q⟩ := hg
    obtain ⟨v, rfl, r⟩ := pr1 rs
    obtain ⟨a, ws, rfl, s, t⟩ := r.lst
    have e := t.ints
    subst e
    exact ⟨a, ns, rfl, s.sq, hn _ _ rs_int q⟩
  · exact hg.elim
def gI1 (h : Int → D) : GA
  | [.int i], Q => Q (h i)
  | _, _ => False
def gI2 (h : Int → Int → D) : GA
  | [.int i, .int j], Q => Q (h i j)
  | _, _ => False
theorem cd_i2 {k : Int → Int → Int} : CaD K (fun xs H Q => ∃ i j, xs = [.int i, .int j] ∧ Q (.int (k i j)) H) (gI2 fun i j => .int (k i j)) := fun ow H vs ds Q Qd rs hg hn => by
  unfold gI2 at hg
  split at hg
  · obtain ⟨v, w, rfl, r1, r2⟩ := pr2 rs
    exact ⟨_, _, by rw [r1.int, r2.int], hn _ _ rs_int hg⟩
  · exact hg.elim
def gInt1 : GA
  | [.int i], Q => Q (.int i)
  | [.bl b], Q => Q (.int (if b then 1 else 0))
  | _, _ => False
theorem cd_int1 : CaD K (fun xs H Q => (∃ i, xs = [.int i] ∧ Q (.int i) H) ∨ ∃ k, xs = [.bl k] ∧ Q (.int (if k then 1 else 0)) H) gInt1 := fun ow H vs ds Q Qd rs hg hn => by
  unfold gInt1 at hg
  split at hg
  · obtain ⟨v, rfl, r⟩ := pr1 rs
    exact .inl ⟨_, by rw [r.int], hn _ _ rs_int hg⟩
  · obtain ⟨v, rfl, r⟩ := pr1 rs
    exact .inr ⟨_, by rw [r.bl], hn _ _ rs_int hg⟩
  · exact hg.elim
def gStrI : GA
  | [.int i], Q => i.natAbs.log2 < 1920 ∧ Q (.str (toString i))
  | _, _ => False
theorem cd_strI : CaD K (fun xs H Q => ∃ i, xs = [.int i] ∧ i.natAbs.log2 < 1920 ∧ Q (.str (toString i)) H) gStrI := fun ow H vs ds Q Qd rs hg hn => by
  unfold gStrI at hg
  split at hg
  · obtain ⟨v, rfl, r⟩ := pr1 rs
    exact ⟨_, by rw [r.int], hg.1, hn _ _ rs_str hg.2⟩
  · exact hg.elim
def gAll : GA
  | [.lst l], Q => ∃ bs : List Bool, l = bs.map D.bl ∧ Q (.bl (bs.all id))
  | _, _ => False
theorem RSs.bls {ow : Addr → Prop} {H : Hp} {bs : List Bool} {vs : List V} (h : RSs K ow H (bs.map D.bl) vs) : vs = bs.map V.bl := by
  rw [h.sc (by
    rw [List.all_eq_true]
    intro d hd
    obtain ⟨n, _, rfl⟩ := List.mem_map.mp hd
    rfl), List.map_map]
  rfl
theorem cd_all : CaD K (rAll K) gAll := fun ow H vs ds Q Qd rs hg hn => by
  unfold gAll at hg
  split at hg
  · obtain ⟨bs, rfl, q⟩ := hg
    obtain ⟨v, rfl, r⟩ := pr1 rs
    obtain ⟨a, ws, rfl, s, t⟩ := r.lst
    have e := t.bls
    subst e
    exact ⟨a, bs, rfl, s.sq, hn _ _ rs_bl q⟩
  · exact hg.elim
def gRepr : GA
  | [d], Q => ((∃ l, d = .lst l) ∨ ∃ l, d = .tup l) ∧ plain d = true ∧ (py d).showable = true ∧ (py d).hasDict = false ∧ (py d).depth ≤ 60 ∧ (py d).shown.length ≤ sizeLine ∧ Q (.str (py d).shown)
  | _, _ => False
theorem cd_repr : CaD K (Fb.rReprD K) gRepr := fun ow H vs ds Q Qd rs hg hn => by
  unfold gRepr at hg
  split at hg
  · obtain ⟨h0, h1, h2, h3, h4, h5, q⟩ := hg
    obtain ⟨v, rfl, r⟩ := pr1 rs
    have z := r.dp h1
    have ev : ∃ a, v = .ref a := by
      rcases h0 with ⟨l, rfl⟩ | ⟨l, rfl⟩
      · obtain ⟨a, _, e, _⟩ := r.lst; exact ⟨a, e⟩
      · obtain ⟨a, _, e, _⟩ := r.tup; exact ⟨a, e⟩
    obtain ⟨a, rfl⟩ := ev
    exact ⟨a, _, rfl, z, h2, h3, h4, h5, hn _ _ rs_str q⟩
  · exact hg.elim
def gSeq : GAL
  | [.lst l], Q => Q l
  | [.tup l], Q => Q l
  | _, _ => False
theorem cl_list : CaL K (fun xs H Q => ∃ p ys, xs = [.ref p] ∧ (SqL K H p ys ∨ SqT K H p ys) ∧ ∀ l, H l = none → Q (.ref l) (upd H l (.lst ys))) gSeq := fun ow H vs ds Q Qd rs hg hn => by
  unfold gSeq at hg
  split at hg
  · obtain ⟨v, rfl, r⟩ := pr1 rs
    obtain ⟨a, ws, rfl, s, t⟩ := r.lst
    exact ⟨a, ws, rfl, .inl s.sq, fun l hl => hn _ _ l t hg hl⟩
  · obtain ⟨v, rfl, r⟩ := pr1 rs
    obtain ⟨a, ws, rfl, s, t⟩ := r.tup
    exact ⟨a, ws, rfl, .inr s, fun l hl => hn _ _ l t hg hl⟩
  · exact hg.elim
theorem ct_tuple : CaT K (fun xs H Q => ∃ p ys, xs = [.ref p] ∧ ((SqL K H p ys ∧ ∀ l, H l = none → Q (.ref l) (upd H l (.tup ys))) ∨ (SqT K H p ys ∧ Q (.ref p) H))) gSeq := fun ow H vs ds Q Qd rs hg hn => by
  unfold gSeq at hg
  split at hg
  · obtain ⟨v, rfl, r⟩ := pr1 rs
    obtain ⟨a, ws, rfl, s, t⟩ := r.lst
    exact ⟨a, ws, rfl, .inl ⟨s.sq, fun l hl => hn _ _ l _ t hg (same_new hl) (SqT.of upd_same)⟩⟩
  · obtain ⟨v, rfl, r⟩ := pr1 rs
    obtain ⟨a, ws, rfl, s, t⟩ := r.tup
    exact ⟨a, ws, rfl, .inr ⟨s, hn _ _ a H t hg (fun _ _ e => e) s⟩⟩
  · exact hg.elim
end
end VL
set_option Elab.async false
set_option linter.all false
set_option maxRecDepth 100000
set_option maxHeartbeats 2000000
namespace VL
open PySem PySem.Spec PyProof.Rows L2
/-! ### statements -/
structure Ln (c : Vc) (W : XW) (rsh : Sh) (T : List Tm) (D : Ends) (Dv : VEnds) : Prop where
  nx : ∀ σ e H, R c T σ e H → Dv.nx e → D.nx σ H
  rt : ∀ v d σ e H, R c ((rsh, v, d) :: T) σ e H → Dv.rt d e → D.rt v H
  bk : ∀ σ e H, R c T σ e H → Dv.bk e → D.bk σ H
  ct : ∀ σ e H, R c T σ e H → Dv.ct e → D.ct σ H
  ex : ∀ x d σ e H, R c T σ e H → XAt H x d → Dv.ex x e → W (.ref x.C) d σ H
def VS (c : Vc) (W : XW) (rsh : Sh) (ts : TS) (f : VTS) : Prop := ∀ (T : List Tm) (σ : L2.St) (e : Env) (H : Hp) (D : Ends) (Dv : VEnds), R c T σ e H → f Dv e → Ln c W rsh T D Dv → ts D σ H
section
variable {c : Vc} {W : XW} {m : Md} {rsh : Sh} {t u : TS} {f g : VTS} {te : TE} {fe : VT} {tt : TT} {ft : VTB}
def vSeq (f g : VTS) : VTS := fun D e => f { D with nx := g D } e
theorem vs_seq (h1 : VS c W rsh t f) (h2 : VS c W rsh u g) : VS c W rsh (tSeq t u) (vSeq f g) := fun T σ e H D Dv hR hf L =>
  h1 T σ e H _ { Dv with nx := g Dv } hR hf ⟨fun σ' e' H' r q => h2 T σ' e' H' D Dv r q L, L.rt, L.bk, L.ct, L.ex⟩
def vNext : VTS := fun D e => D.nx e
theorem vs_next : VS c W rsh tNext vNext := fun T σ e H D Dv hR hf L => L.nx σ e H hR hf
def vBreak : VTS := fun D e => D.bk e
def vCont : VTS := fun D e => D.ct e
theorem vs_break : VS c W rsh tBreak vBreak := fun T σ e H D Dv hR hf L => L.bk σ e H hR hf
theorem vs_cont : VS c W rsh tCont vCont := fun T σ e H D Dv hR hf L => L.ct σ e H hR hf
def vSet (i : Nat) (fe : VT) : VTS := fun D e => fe e (fun d e1 => D.nx (e1.set i (some d))) D.ex
theorem vs_set {i : Nat} {sh : Sh} (h : VE c W .e te sh fe) (hM : c.M[i]? = some sh) (hr : ∀ p ∈ c.rt, p.1 ≠ i) : VS c W rsh (tAsg te (gName i)) (vSet i fe) := fun T σ e H D Dv hR hf L =>
  h T σ e H _ _ Dv.ex hR hf (fun v d e1 H1 R1 _ q => L.nx _ _ H1 (R1.set hM hr) q) (fun x d e' H' r y q => L.ex x d σ e' H' r y q)
def vRet (fe : VT) : VTS := fun D e => fe e D.rt D.ex
theorem vs_ret (h : VE c W .e te rsh fe) : VS c W rsh (tRet te) (vRet fe) := fun T σ e H D Dv hR hf L =>
  h T σ e H _ _ Dv.ex hR hf (fun v d e1 H1 R1 _ q => L.rt v d σ e1 H1 R1 q) (fun x d e' H' r y q => L.ex x d σ e' H' r y q)
def vRetN : VTS := fun D e => D.rt .non e
theorem vs_retN : VS c W .s tRetN vRetN := fun T σ e H D Dv ⟨fT, fV, hR⟩ hf L => L.rt .non .non σ e H ⟨fT, fV, hR.pushS rs_non⟩ hf
def vDrop (fe : VT) : VTS := fun D e => fe e (fun _ e1 => D.nx e1) D.ex
theorem vs_drop {sh : Sh} (h : VE c W .e te sh fe) : VS c W rsh (tDrop te) (vDrop fe) := fun T σ e H D Dv hR hf L =>
  h T σ e H _ _ Dv.ex hR hf (fun v d e1 H1 R1 _ q => L.nx σ e1 H1 R1.pop q) (fun x d e' H' r y q => L.ex x d σ e' H' r y q)
def vIfS (ft : VTB) (f g : VTS) : VTS := fun D e => ft e (fun b e1 => if b = true then f D e1 else g D e1) D.ex
theorem vs_if (h : VBt c W .e tt ft) (h1 : VS c W rsh t f) (h2 : VS c W rsh u g) : VS c W rsh (tIfS tt t u) (vIfS ft f g) := fun T σ e H D Dv hR hf L =>
  h T σ e H _ _ Dv.ex hR hf (fun b e1 H1 R1 _ q => by
    cases b with
    | true => exact h1 T σ e1 H1 D Dv R1 q L
    | false => exact h2 T σ e1 H1 D Dv R1 q L) (fun x d e' H' r y q => L.ex x d σ e' H' r y q)
/-! while -/
def vWhileN (ft : VTB) (f : VTS) (D : VEnds) : Nat → Env → Prop
  | 0, _ => False
  | n + 1, e => ft e (fun b e1 => if b = true then f { D with nx := vWhileN ft f D n, ct := vWhileN ft f D n, bk := D.nx } e1 else D.nx e1) D.ex
def vWhile (ft : VTB) (f : VTS) : VTS := fun D e => ∃ n, vWhileN ft f D n e
theorem vs_while (h : VBt c W .e tt ft) (h1 : VS c W rsh t f) : VS c W rsh (tWhile tt t) (vWhile ft f) := fun T σ e H D Dv hR ⟨n, hn⟩ L => by
  refine ⟨fun k σ' H' => ∃ e', R c T σ' e' H' ∧ vWhileN ft f Dv k e', ⟨n, e, hR, hn⟩, ?_⟩
  rintro k σ1 H1 ⟨e1, R1, q1⟩
  cases k with
  | zero => exact q1.elim
  | succ k =>
    refine h T σ1 e1 H1 _ _ Dv.ex R1 q1 (fun b e2 H2 R2 _ q2 => ?_) (fun x d e' H' r y q => L.ex x d σ1 e' H' r y q)
    cases b with
    | false => exact L.nx σ1 e2 H2 R2 q2
    | true =>
      have nxt : ∀ σ' e' H', R c T σ' e' H' → vWhileN ft f Dv k e' → ∃ e', R c T σ' e' H' ∧ vWhileN ft f Dv k e' := fun σ' e' H' r q => ⟨e', r, q⟩
      exact ⟨fun σ' H' => ∃ e', R c T σ' e' H' ∧ vWhileN ft f Dv k e', fun σ' H' z => ⟨k, Nat.lt_succ_self k, z⟩, h1 T σ1 e2 H2 _ { Dv with nx := vWhileN ft f Dv k, ct := vWhileN ft f Dv k, bk := Dv.nx } R2 q2 ⟨nxt, L.rt, L.nx, nxt, L.ex⟩⟩
/-! what is walked -/
theorem RX.mem {fT fV : List Addr} {σ : L2.St} {e : Env} {H : Hp} {t : Tm} : ∀ {T : List Tm}, RX c fT fV T σ e H → t ∈ T → t.1 = .s → RS c.K (owOf c fT fV) H t.2.2 t.2.1 := fun {T} h ht hs => by
  have z : ∀ (T : List Tm) (fp : List Addr), RT c.K (owOf c fT fV) H T fp → t ∈ T → RS c.K (owOf c fT fV) H t.2.2 t.2.1 := fun T => by
    induction T with
    | nil => intro fp _ q; cases q
    | cons t0 T ih =>
      rintro fp ⟨f1, f2, e1, h1, h2⟩ q
      rcases List.mem_cons.mp q with q | q
      · subst q
        rw [hs] at h1
        exact (RO_s.mp h1).2
      · exact ih f2 h2 q
  exact z T fT h.tm ht
structure ItOk (c : Vc) (J : It) (hs : List Tm) (ds : List D) : Prop where
  sh : ∀ t ∈ hs, t.1 = .s
  go : ∀ fT fV T σ e H i, RX c fT fV T σ e H → (∀ t ∈ hs, t ∈ T) → i < ds.length → J.go i H
  yld : ∀ fT fV T σ e H i x H', RX c fT fV T σ e H → (∀ t ∈ hs, t ∈ T) → i < ds.length → J.yld i H x H' → Same H H' ∧ ∃ d, ds[i]? = some d ∧ RS c.K (owOf c fT fV) H' d x
  stop : ∀ fT fV T σ e H i, RX c fT fV T σ e H → (∀ t ∈ hs, t ∈ T) → ds.length = i → J.stop i H
abbrev VTI := Env → (List D → Env → Prop) → QX → Prop
def VI (c : Vc) (W : XW) (m : Md) (wi : TI) (fi : VTI) : Prop := ∀ (T : List Tm) (σ : L2.St) (e : Env) (H : Hp) (Rk : It → Hp → Prop) (Qv : List D → Env → Prop) (Qx : QX), R c T σ e H → fi e Qv Qx →
  (∀ J hs ds e' H', ItOk c J hs ds → R c (hs ++ T) σ e' H' → Post m H H' e e' → Qv ds e' → Rk J H') → (∀ x d e' H', R c T σ e' H' → XAt H' x d → Qx x e' → W (.ref x.C) d σ H') → wi σ H Rk
def vLs (fe : VT) : VTI := fun e Q Qx => fe e (fun d e1 => ∃ l, d = .lst l ∧ Q l e1) Qx
def vTs (fe : VT) : VTI := fun e Q Qx => fe e (fun d e1 => ∃ l, d = .tup l ∧ Q l e1) Qx
theorem vi_list (h : VE c W m te .s fe) : VI c W m (iList c.K te) (vLs fe) := fun T σ e H Rk Qv Qx hR hf hn hx =>
  h T σ e H _ _ Qx hR hf (fun v d e1 H1 R1 p ⟨l, hl, q⟩ => by
    subst hl
    have key : ∀ fT fV T σ e H, RX c fT fV T σ e H → (∀ t ∈ [((.s, v, .lst l) : Tm)], t ∈ T) → ∃ a vs, v = .ref a ∧ LsS c.K (owOf c fT fV) H a vs ∧ RSs c.K (owOf c fT fV) H l vs := fun fT fV T σ e H hX hm => by
      have r := hX.mem (hm _ List.mem_cons_self) rfl
      simpa only [RS] using r
    obtain ⟨fT, fV, hX⟩ := R1
    obtain ⟨a, vs, rfl, s, r⟩ := key fT fV _ σ e1 H1 hX (fun t z => by rw [List.mem_singleton.mp z]; exact List.mem_cons_self)
    refine ⟨a, rfl, ⟨vs, s.sq⟩, hn (Itl c.K a) [(.s, .ref a, .lst l)] l e1 H1 ⟨fun t z => by rw [List.mem_singleton.mp z], ?_, ?_, ?_⟩ ⟨fT, fV, hX⟩ p q⟩
    · intro fT fV T σ e H i hX hm hi
      obtain ⟨a', vs, ea, s, r⟩ := key fT fV T σ e H hX hm
      cases ea
      have : i < vs.length := by rw [r.len]; exact hi
      exact ⟨vs, _, s.sq, List.getElem?_eq_getElem this⟩
    · rintro fT fV T σ e H i x H' hX hm hi ⟨rfl, hx⟩
      obtain ⟨a', vs, ea, s, r⟩ := key fT fV T σ e H' hX hm
      cases ea
      obtain ⟨d, e1, e2⟩ := r.getV (hx vs s.sq)
      exact ⟨fun _ _ q => q, d, e1, e2⟩
    · intro fT fV T σ e H i hX hm hi
      obtain ⟨a', vs, ea, s, r⟩ := key fT fV T σ e H hX hm
      cases ea
      exact ⟨vs, s.sq, by rw [r.len]; exact Nat.le_of_eq hi⟩) hx
theorem vi_tup (h : VE c W m te .s fe) : VI c W m (iTup c.K te) (vTs fe) := fun T σ e H Rk Qv Qx hR hf hn hx =>
  h T σ e H _ _ Qx hR hf (fun v d e1 H1 R1 p ⟨l, hl, q⟩ => by
    subst hl
    have key : ∀ fT fV T σ e H, RX c fT fV T σ e H → (∀ t ∈ [((.s, v, .tup l) : Tm)], t ∈ T) → ∃ a vs, v = .ref a ∧ SqT c.K H a vs ∧ RSs c.K (owOf c fT fV) H l vs := fun fT fV T σ e H hX hm => by
      have r := hX.mem (hm _ List.mem_cons_self) rfl
      simpa only [RS] using r
    obtain ⟨fT, fV, hX⟩ := R1
    obtain ⟨a, vs, rfl, s, r⟩ := key fT fV _ σ e1 H1 hX (fun t z => by rw [List.mem_singleton.mp z]; exact List.mem_cons_self)
    refine ⟨a, rfl, ⟨vs, s⟩, hn (Itt c.K a) [(.s, .ref a, .tup l)] l e1 H1 ⟨fun t z => by rw [List.mem_singleton.mp z], ?_, ?_, ?_⟩ ⟨fT, fV, hX⟩ p q⟩
    · intro fT fV T σ e H i hX hm hi
      obtain ⟨a', vs, ea, s, r⟩ := key fT fV T σ e H hX hm
      cases ea
      have : i < vs.length := by rw [r.len]; exact hi
      exact ⟨vs, _, s, List.getElem?_eq_getElem this⟩
    · rintro fT fV T σ e H i x H' hX hm hi ⟨rfl, hx⟩
      obtain ⟨a', vs, ea, s, r⟩ := key fT fV T σ e H' hX hm
      cases ea
      obtain ⟨d, e1, e2⟩ := r.getV (hx vs s)
      exact ⟨fun _ _ q => q, d, e1, e2⟩
    · intro fT fV T σ e H i hX hm hi
      obtain ⟨a', vs, ea, s, r⟩ := key fT fV T σ e H hX hm
      cases ea
      exact ⟨vs, s, by rw [r.len]; exact Nat.le_of_eq hi⟩) hx
def rngD (lo : Int) (n : Nat) : List D := (List.range n).map fun i => D.int (lo + (i : Nat))
theorem it_rng {lo : Int} {n : Nat} : ItOk c (Itr lo n) [] (rngD lo n) := by
  have hl : (rngD lo n).length = n := by simp [rngD]
  refine ⟨fun t z => (by cases z), fun fT fV T σ e H i _ _ hi => (by rw [hl] at hi; exact hi), ?_, fun fT fV T σ e H i _ _ hi => (by rw [hl] at hi; exact Nat.le_of_eq hi)⟩
  rintro fT fV T σ e H i x H' _ _ hi ⟨rfl, rfl⟩
  rw [hl] at hi
  refine ⟨fun _ _ q => q, .int (lo + i), ?_, rs_int⟩
  unfold rngD
  rw [List.getElem?_map, List.getElem?_range hi]
  rfl
variable {tA : TA} {fA : VTA}
def vRng1 (fA : VTA) : VTI := fun e Q Qx => fA e (fun ds e1 => ∃ j : Int, ds = [.int j] ∧ -(2 ^ 62) ≤ j ∧ j < 2 ^ 62 ∧ Q (rngD 0 j.toNat) e1) Qx
def vRng2 (fA : VTA) : VTI := fun e Q Qx => fA e (fun ds e1 => ∃ i j : Int, ds = [.int i, .int j] ∧ (-(2 ^ 62) ≤ i ∧ i < 2 ^ 62 ∧ -(2 ^ 62) ≤ j ∧ j < 2 ^ 62) ∧ Q (rngD i (j - i).toNat) e1) Qx
theorem RSs.i1 {K : PySem.W.Frag} {ow : Addr → Prop} {H : Hp} {i : Int} {vs : List V} (h : RSs K ow H [.int i] vs) : vs = [.int i] := by
  simp only [RSs, RS] at h
  obtain ⟨v, r, rfl, rfl, rfl⟩ := h
  rfl
theorem RSs.i2 {K : PySem.W.Frag} {ow : Addr → Prop} {H : Hp} {i j : Int} {vs : List V} (h : RSs K ow H [.int i, .int j] vs) : vs = [.int i, .int j] := by
  simp only [RSs, RS] at h
  obtain ⟨v, r, rfl, rfl, v2, r2, rfl, rfl, rfl⟩ := h
  rfl
theorem vi_rng1 (h : VA c W m tA fA) : VI c W m (iRng1 tA) (vRng1 fA) := fun T σ e H Rk Qv Qx hR hf hn hx =>
  h T σ e H _ _ Qx hR hf (fun fT fV vs ds e1 H1 R1 rs p ⟨j, hj, h1, h2, q⟩ => by
    subst hj
    exact ⟨j, rs.i1, h1, h2, hn _ [] _ e1 H1 it_rng ⟨fT, fV, R1⟩ p q⟩) hx
theorem vi_rng2 (h : VA c W m tA fA) : VI c W m (iRng2 tA) (vRng2 fA) := fun T σ e H Rk Qv Qx hR hf hn hx =>
  h T σ e H _ _ Qx hR hf (fun fT fV vs ds e1 H1 R1 rs p ⟨i, j, hj, h1, q⟩ => by
    subst hj
    exact ⟨i, j, rs.i2, h1, hn _ [] _ e1 H1 it_rng ⟨fT, fV, R1⟩ p q⟩) hx
def sgD (z : Str) : List D := z.cps.toList.map fun k => D.str ⟨#[k]⟩
def vSgs (fe : VT) : VTI := fun e Q Qx => fe e (fun d e1 => ∃ z, d = .str z ∧ Q (sgD z) e1) Qx
theorem it_str {z : Str} : ItOk c (Its z) [] (sgD z) := by
  have hl : (sgD z).length = z.cps.size := by simp [sgD]
  refine ⟨fun t y => (by cases y), fun fT fV T σ e H i _ _ hi => (by rw [hl] at hi; exact hi), ?_, fun fT fV T σ e H i _ _ hi => (by rw [hl] at hi; exact Nat.le_of_eq hi)⟩
  rintro fT fV T σ e H i x H' _ _ hi ⟨rfl, k, hk, rfl⟩
  refine ⟨fun _ _ q => q, .str ⟨#[k]⟩, ?_, rs_str⟩
  unfold sgD
  rw [List.getElem?_map, Array.getElem?_toList, hk]
  rfl
theorem vi_str (h : VE c W m te .s fe) : VI c W m (iStr te) (vSgs fe) := fun T σ e H Rk Qv Qx hR hf hn hx =>
  h T σ e H _ _ Qx hR hf (fun v d e1 H1 R1 p ⟨z, hz, q⟩ => by
    subst hz
    obtain ⟨fT, fV, R1⟩ := R1
    obtain ⟨r, R1⟩ := R1.topS
    simp only [RS] at r
    exact ⟨z, r, hn _ [] _ e1 H1 it_str ⟨fT, fV, R1⟩ p q⟩) hx
/-! targets -/
abbrev VTG := D → Env → (Env → Prop) → Prop
abbrev VTGs := List D → Env → (Env → Prop) → Prop
def pushR : List V → List D → List Tm → List Tm
  | x :: xs, d :: ds, T => (.s, x, d) :: pushR xs ds T
  | _, _, T => T
def VG (c : Vc) (tg : TG) (own : List Nat) (vg : VTG) : Prop := ∀ (T : List Tm) (σ : L2.St) (e : Env) (H : Hp) (x : V) (d : D) (Q : L2.St → Hp → Prop) (Qv : Env → Prop), R c ((.s, x, d) :: T) σ e H → vg d e Qv →
  (∀ σ' e', R c T σ' e' H → (∀ vs : List Nat, (∀ i ∈ own, i ∈ vs) → wipe σ' vs = wipe σ vs) → Qv e' → Q σ' H) → tg x σ H Q
def VGs (c : Vc) (tg : TGs) (own : List Nat) (vg : VTGs) : Prop := ∀ (T : List Tm) (σ : L2.St) (e : Env) (H : Hp) (xs : List V) (ds : List D) (Q : L2.St → Hp → Prop) (Qv : Env → Prop), xs.length = ds.length → R c (pushR xs ds T) σ e H → vg ds e Qv →
  (∀ σ' e', R c T σ' e' H → (∀ vs : List Nat, (∀ i ∈ own, i ∈ vs) → wipe σ' vs = wipe σ vs) → Qv e' → Q σ' H) → tg xs σ H Q
theorem wipe_get {σ : L2.St} {j : Nat} : ∀ {vs : List Nat}, (wipe σ vs)[j]? = if j ∈ vs then (if j < σ.length then some none else none) else σ[j]?
  | [] => by simp [wipe]
  | v :: vs => by
    unfold wipe
    by_cases e : v = j
    · subst e
      by_cases hl : v < σ.length
      · rw [List.getElem?_set_self (by rw [wipe_length]; exact hl)]
        simp [hl]
      · rw [List.getElem?_eq_none (by rw [List.length_set, wipe_length]; omega)]
        simp [hl]
    · rw [List.getElem?_set_ne e, wipe_get (vs := vs)]
      have : (j ∈ v :: vs) ↔ j ∈ vs := by
        simp only [List.mem_cons]
        exact ⟨fun h => h.elim (fun q => absurd q.symm e) id, .inr⟩
      by_cases hj : j ∈ vs
      · rw [if_pos hj, if_pos (this.mpr hj)]
      · rw [if_neg hj, if_neg (fun z => hj (this.mp z))]
theorem wipe_set {σ : L2.St} {i : Nat} {x : Option V} {vs : List Nat} (h : i ∈ vs) : wipe (σ.set i x) vs = wipe σ vs := by
  apply List.ext_getElem?
  intro j
  rw [wipe_get, wipe_get, List.length_set]
  by_cases e : j ∈ vs
  · rw [if_pos e, if_pos e]
  · rw [if_neg e, if_neg e, List.getElem?_set_ne (fun z => e (by rw [← z]; exact h))]
def vgName (i : Nat) : VTG := fun d e Q => Q (e.set i (some d))
theorem vg_name {i : Nat} (hM : c.M[i]? = some .s) (hr : ∀ p ∈ c.rt, p.1 ≠ i) : VG c (gName i) [i] (vgName i) := fun T σ e H x d Q Qv hR hv hn => hn _ _ (hR.set hM hr) (fun vs h => wipe_set (h i List.mem_cons_self)) hv
def vgNil : VTGs := fun ds e Q => ds = [] ∧ Q e
def vgCons (a : VTG) (r : VTGs) : VTGs
  | d :: ds, e, Q => a d e fun e1 => r ds e1 Q
  | _, _, _ => False
variable {tg : TG} {vg : VTG} {tgs : TGs} {vgs : VTGs} {own own2 : List Nat}
theorem vg_nil : VGs c gNil [] vgNil := fun T σ e H xs ds Q Qv hl hR ⟨hd, hv⟩ hn => by
  subst hd
  cases xs with
  | nil => exact ⟨rfl, hn σ e hR (fun _ _ => rfl) hv⟩
  | cons x xs => cases hl
theorem vg_cons (ha : VG c tg own vg) (hs : VGs c tgs own2 vgs) : VGs c (gCons tg tgs) (own ++ own2) (vgCons vg vgs) := fun T σ e H xs ds Q Qv hl hR hv hn => by
  cases ds with
  | nil => exact hv.elim
  | cons d ds =>
    cases xs with
    | nil => cases hl
    | cons x xs =>
      refine ⟨x, xs, rfl, ha (pushR xs ds T) σ e H x d _ _ hR hv fun σ1 e1 R1 w1 q1 => hs T σ1 e1 H xs ds Q Qv (Nat.succ.inj hl) R1 q1 fun σ2 e2 R2 w2 q2 => hn σ2 e2 R2 (fun vs h => ?_) q2⟩
      rw [w2 vs (fun i z => h i (List.mem_append_right _ z)), w1 vs (fun i z => h i (List.mem_append_left _ z))]
def vgTup (n : Nat) (r : VTGs) : VTG
  | .tup l, e, Q => l.length = n ∧ r l e Q
  | _, _, _ => False
theorem RX.pushR {fT fV : List Addr} {T : List Tm} {σ : L2.St} {e : Env} {H : Hp} (h : RX c fT fV T σ e H) : ∀ {ds : List D} {xs : List V}, RSs c.K (owOf c fT fV) H ds xs → RX c fT fV (VL.pushR xs ds T) σ e H
  | [], _, r => by simp only [RSs] at r; rw [r]; exact h
  | d :: ds, _, r => by
    simp only [RSs] at r
    obtain ⟨v, w, rfl, r1, r2⟩ := r
    exact (RX.pushR h r2).pushS r1
theorem vg_tup {n : Nat} (hs : VGs c tgs own vgs) : VG c (gTup c.K n tgs) own (vgTup n vgs) := fun T σ e H x d Q Qv hR hv hn => by
  cases d <;> first | exact hv.elim | skip
  obtain ⟨fT, fV, hR⟩ := hR
  obtain ⟨r, hR2⟩ := hR.topS
  simp only [RS] at r
  obtain ⟨a, vs, ex, s, r⟩ := r
  exact ⟨a, vs, ex, s, by rw [r.len]; exact hv.1, hs T σ e H vs _ Q Qv r.len ⟨fT, fV, hR2.pushR r⟩ hv.2 hn⟩
def vAsg (fe : VT) (vg : VTG) : VTS := fun D e => fe e (fun d e1 => vg d e1 D.nx) D.ex
theorem vs_asg (h : VE c W .e te .s fe) (hg : VG c tg own vg) : VS c W rsh (tAsg te tg) (vAsg fe vg) := fun T σ e H D Dv hR hf L =>
  h T σ e H _ _ Dv.ex hR hf (fun v d e1 H1 R1 _ q => hg T σ e1 H1 v d _ _ R1 q fun σ' e' R' _ q' => L.nx σ' e' H1 R' q') (fun x d e' H' r y q => L.ex x d σ e' H' r y q)
def vPar (i j : Nat) (fA : VTA) : VTS := fun D e => fA e (fun ds e1 => ∃ a b, ds = [a, b] ∧ D.nx ((e1.set i (some a)).set j (some b))) D.ex
theorem vs_par {i j : Nat} (h : VA c W .e tA fA) (hi : c.M[i]? = some .s) (hj : c.M[j]? = some .s) (ri : ∀ p ∈ c.rt, p.1 ≠ i) (rj : ∀ p ∈ c.rt, p.1 ≠ j) : VS c W rsh (tPar i j tA) (vPar i j fA) := fun T σ e H D Dv hR hf L =>
  h T σ e H _ _ Dv.ex hR hf (fun fT fV vs ds e1 H1 R1 rs _ ⟨a, b, hd, q⟩ => by
    subst hd
    simp only [RSs] at rs
    obtain ⟨v, r, rfl, ra, v2, r2, rfl, rb, rfl⟩ := rs
    have z : R c ((.s, v, a) :: (.s, v2, b) :: T) σ e1 H1 := ⟨fT, fV, (R1.pushS rb).pushS ra⟩
    exact ⟨v, v2, rfl, L.nx _ _ H1 ((z.set hi ri).set hj rj) q⟩) (fun x d e' H' r y q => L.ex x d σ e' H' r y q)
/-! for -/
def vForL (vg : VTG) (f : VTS) (V : VEnds) : List D → Env → Prop
  | [], e => V.nx e
  | d :: ds, e => vg d e fun e1 => f { V with nx := vForL vg f V ds, ct := vForL vg f V ds, bk := V.nx } e1
def vFor (fi : VTI) (vg : VTG) (f : VTS) : VTS := fun D e => fi e (fun ds e1 => vForL vg f D ds e1) D.ex
theorem R.drop2 {T : List Tm} {σ : L2.St} {e : Env} {H : Hp} {t : Tm} : ∀ {hs : List Tm}, R c (t :: (hs ++ T)) σ e H → R c (t :: T) σ e H
  | [], h => h
  | t2 :: hs, h => by
    refine R.drop2 (hs := hs) ?_
    obtain ⟨fT, fV, h⟩ := h
    obtain ⟨f1, g, e1, h1, f2, f3, e2, h2, h3⟩ := h.tm
    subst e1 e2
    have sub : ∀ a, a ∈ (f1 ++ f3) ++ fV → a ∈ (f1 ++ (f2 ++ f3)) ++ fV := fun a z => by
      simp only [List.mem_append] at z ⊢
      rcases z with (z | z) | z <;> simp [z]
    have how : ∀ a, owOf c (f1 ++ f3) fV a → owOf c (f1 ++ (f2 ++ f3)) fV a ∨ H a = none := fun a z => by
      rcases z with z | z
      · exact .inl (.inl (sub a z))
      · exact .inl (.inr z)
    refine ⟨f1 ++ f3, fV, ⟨f1, f3, rfl, RO.fr (fun _ _ q _ => q) (ExtT.refl H) how _ _ _ _ h1 (fun _ _ _ q => q), h3.fr (fun _ _ q _ => q) (ExtT.refl H) how (fun _ _ _ q => q)⟩, h.vr.fr (fun _ _ q _ => q) (ExtT.refl H) how (fun _ _ _ q => q), ?_, fun a z => h.fr a (sub a z), h.kp, h.tp, h.al, h.ok, h.rt⟩
    have p1 : List.Perm ((f1 ++ (f2 ++ f3)) ++ fV) (f2 ++ ((f1 ++ f3) ++ fV)) := by
      rw [List.perm_iff_count]
      intro a
      simp only [List.count_append]
      omega
    exact (List.nodup_append.mp (p1.nodup h.nd)).2.1
theorem R.drops {T : List Tm} {σ : L2.St} {e : Env} {H : Hp} : ∀ {hs : List Tm}, R c (hs ++ T) σ e H → R c T σ e H
  | [], h => h
  | _ :: hs, h => R.drops (hs := hs) h.pop
theorem vs_for {wi : TI} {fi : VTI} (hi : VI c W .e wi fi) (hg : VG c tg own vg) (hb : VS c W rsh t f) : VS c W rsh (tFor wi tg t) (vFor fi vg f) := fun T σ e H D Dv hR hf L => by
  refine hi T σ e H _ _ Dv.ex hR hf (fun J hs ds e1 H1 ok R1 _ q => ?_) (fun x d e' H' r y q => L.ex x d σ e' H' r y q)
  have hm : ∀ t ∈ hs, t ∈ hs ++ T := fun t z => List.mem_append_left _ z
  refine ⟨fun i k σ' H' => k = ds.length - i ∧ i ≤ ds.length ∧ ∃ e', R c (hs ++ T) σ' e' H' ∧ vForL vg f Dv (ds.drop i) e', ⟨ds.length, by simp, Nat.zero_le _, e1, R1, q⟩, ?_⟩
  rintro i k σ2 H2 ⟨rfl, hle, e2, ⟨fT, fV, R2⟩, q2⟩
  by_cases hlt : i < ds.length
  · refine .inr ⟨ok.go fT fV _ σ2 e2 H2 i R2 hm hlt, fun σ' H' => ∃ e', R c (hs ++ T) σ' e' H' ∧ vForL vg f Dv (ds.drop (i + 1)) e', fun σ' H' z => ⟨ds.length - (i + 1), by omega, rfl, hlt, z⟩, fun x H3 hy => ?_⟩
    obtain ⟨sm, d, hd, rd⟩ := ok.yld fT fV _ σ2 e2 H2 i x H3 R2 hm hlt hy
    have ed : ds.drop i = d :: ds.drop (i + 1) := by
      rw [List.drop_eq_getElem_cons hlt]
      rw [List.getElem?_eq_getElem hlt] at hd
      cases hd
      rfl
    rw [ed] at q2
    refine hg (hs ++ T) σ2 e2 H3 x d _ _ ⟨fT, fV, (R2.same sm).pushS rd⟩ q2 fun σ3 e3 R3 _ q3 => ?_
    have nxt : ∀ σ' e' H', R c (hs ++ T) σ' e' H' → vForL vg f Dv (ds.drop (i + 1)) e' → ∃ e', R c (hs ++ T) σ' e' H' ∧ vForL vg f Dv (ds.drop (i + 1)) e' := fun σ' e' H' r q => ⟨e', r, q⟩
    exact hb (hs ++ T) σ3 e3 H3 _ { Dv with nx := vForL vg f Dv (ds.drop (i + 1)), ct := vForL vg f Dv (ds.drop (i + 1)), bk := Dv.nx } R3 q3 ⟨nxt, fun v d σ' e' H' r q => L.rt v d σ' e' H' r.drop2 q, fun σ' e' H' r q => L.nx σ' e' H' r.drops q, nxt, fun x d σ' e' H' r y q => L.ex x d σ' e' H' r.drops y q⟩
  · have e : i = ds.length := by omega
    subst e
    rw [List.drop_length] at q2
    exact .inl ⟨ok.stop fT fV _ σ2 e2 H2 _ R2 hm rfl, L.nx σ2 e2 H2 (R.drops ⟨fT, fV, R2⟩) q2⟩
end
end VL
set_option Elab.async false
set_option linter.all false
set_option maxRecDepth 100000
set_option maxHeartbeats 2000000
namespace VL
open PySem PySem.Spec PyProof.Rows L2
def W0 : XW := fun _ _ _ _ => False
section
variable {K : PySem.W.Frag} {ow ow' : Addr → Prop} {H H' : Hp}
theorem ROs_s : ∀ {l : List D} {vs : List V} {fp : List Addr}, ROs K ow H l (l.map fun _ => .s) vs fp ↔ fp = [] ∧ RSs K ow H l vs
  | [], vs, fp => by
    simp only [List.map_nil, ROs, RSs]
    exact ⟨fun h => ⟨h.2.2, h.2.1⟩, fun h => ⟨trivial, h.2, h.1⟩⟩
  | d :: l, vs, fp => by
    simp only [List.map_cons, ROs, RSs]
    constructor
    · rintro ⟨sh, shs', v, vs', f1, f2, e1, e2, e3, h1, h2⟩
      cases e1
      have h1 := RO_s.mp h1
      have h2 := ROs_s.mp h2
      exact ⟨by rw [e3, h1.1, h2.1]; rfl, v, vs', e2, h1.2, h2.2⟩
    · rintro ⟨rfl, v, r, e, h1, h2⟩
      exact ⟨.s, _, v, r, [], [], rfl, e, rfl, RO_s.mpr ⟨rfl, h1⟩, ROs_s.mpr ⟨rfl, h2⟩⟩
theorem RO_l {d : D} {v : V} {fp : List Addr} : RO K ow H d (.l .s) v fp ↔ ∃ l a vs, d = .lst l ∧ v = .ref a ∧ H a = some (.lst vs) ∧ RSs K ow H l vs ∧ fp = [a] := by
  constructor
  · intro h
    cases d <;> first | (simp only [RO] at h; done) | skip
    simp only [RO] at h
    obtain ⟨a, vs, fps, e, q, t, ef⟩ := h
    have t := ROs_s.mp t
    exact ⟨_, a, vs, rfl, e, q, t.2, by rw [ef, t.1]⟩
  · rintro ⟨l, a, vs, rfl, rfl, q, t, rfl⟩
    simp only [RO]
    exact ⟨a, vs, [], rfl, q, ROs_s.mpr ⟨rfl, t⟩, rfl⟩
theorem RV.agree : ∀ {M : List Sh} {σ1 σ : L2.St} {e : Env} {fp : List Addr}, RV K ow H M σ1 e fp → σ.length = σ1.length → (∀ (i : Nat) (d : D), e[i]? = some (some d) → σ[i]? = σ1[i]?) → RV K ow H M σ e fp
  | [], _, σ, _, _, ⟨a, b, c⟩, hl, _ => by
    subst a
    exact ⟨List.length_eq_zero_iff.mp hl, b, c⟩
  | sh :: M, _, σ, _, _, ⟨x, σ', y, e', f1, f2, e1, e2, e3, h1, h2⟩, hl, k => by
    subst e1 e2
    cases σ with
    | nil => cases hl
    | cons z σ =>
      refine ⟨z, σ, y, e', f1, f2, rfl, rfl, e3, ?_, RV.agree h2 (Nat.succ.inj hl) fun i d q => by simpa using k (i + 1) d (by simpa using q)⟩
      cases y with
      | none => exact h1
      | some d =>
        have := k 0 d rfl
        simp only [List.getElem?_cons_zero, Option.some.injEq] at this
        obtain ⟨v, ev, r⟩ := h1
        exact ⟨v, this.trans ev, r⟩
theorem RVT.agree {M : List Sh} {σ1 σ : L2.St} {e : Env} {fp : List Addr} (h : RVT K ow H M σ1 e fp) (hl : σ.length = σ1.length) (k : ∀ (i : Nat) (d : D), i < M.length → e[i]? = some (some d) → σ[i]? = σ1[i]?) : RVT K ow H M σ e fp := by
  obtain ⟨e0, tl, f0, ft, rfl, rfl, r, t⟩ := h
  have z := r.len
  exact ⟨e0, tl, f0, ft, rfl, rfl, r.agree hl fun i d q => k i d (by rw [← z.2]; exact (List.getElem?_eq_some_iff.mp q).1) (by
    rw [List.getElem?_append_left (List.getElem?_eq_some_iff.mp q).1]
    exact q), t⟩
end
section
variable {c : Vc} {fT fV : List Addr} {T : List Tm} {σ : L2.St} {e : Env} {H H' : Hp}
theorem R.len (h : R c T σ e H) : σ.length = c.M.length ∧ c.M.length ≤ e.length ∧ e.length ≤ c.M.length + 1 := by
  obtain ⟨fT, fV, h⟩ := h
  exact h.vr.len
theorem R.agree {σ1 : L2.St} (h : R c T σ1 e H) (hl : σ.length = σ1.length) (k : ∀ (i : Nat) (d : D), e[i]? = some (some d) → σ[i]? = σ1[i]?) (hr : ∀ p ∈ c.rt, σ[p.1]? = some (some p.2)) : R c T σ e H := by
  obtain ⟨fT, fV, h⟩ := h
  exact ⟨fT, fV, h.tm, h.vr.agree hl fun i d _ q => k i d q, h.nd, h.fr, h.kp, h.tp, h.al, h.ok, hr⟩
/-- a name's thing let go -/
theorem R.forget {i : Nat} {x : Option V} (h : R c T σ e H) (hr : ∀ p ∈ c.rt, p.1 ≠ i) : R c T (σ.set i x) (e.set i none) H := by
  by_cases hi : i < c.M.length
  · obtain ⟨fT, fV, h⟩ := h
    obtain ⟨g1, fp, g2, x0, y0, a1, a2, a3, a4, a5⟩ := h.vr.split (List.getElem?_eq_getElem hi)
    subst a3
    have sub : ∀ a, a ∈ fT ++ (g1 ++ ([] ++ g2)) → a ∈ fT ++ (g1 ++ (fp ++ g2)) := fun a z => by
      simp only [List.mem_append, List.nil_append] at z ⊢
      rcases z with z | z | z <;> simp [z]
    have how : ∀ a, owOf c fT (g1 ++ ([] ++ g2)) a → owOf c fT (g1 ++ (fp ++ g2)) a ∨ H a = none := fun a z => by
      rcases z with z | z
      · exact .inl (.inl (sub a z))
      · exact .inl (.inr z)
    refine ⟨fT, g1 ++ ([] ++ g2), h.tm.fr (fun _ _ q _ => q) (ExtT.refl H) how (fun _ _ _ q => q), a5 (fun _ _ q _ => q) (ExtT.refl H) how (fun _ _ _ q => q) rfl, ?_, fun a z => h.fr a (sub a z), h.kp, h.tp, h.al, h.ok, fun p hp => ?_⟩
    · have p1 : List.Perm (fT ++ (g1 ++ (fp ++ g2))) (fp ++ (fT ++ (g1 ++ ([] ++ g2)))) := by
        rw [List.perm_iff_count]
        intro a
        simp only [List.count_append, List.count_nil]
        omega
      exact (List.nodup_append.mp (p1.nodup h.nd)).2.1
    · rw [List.getElem?_set_ne (fun z => hr p hp z.symm)]
      exact h.rt p hp
  · have hl := h.len
    rw [List.set_eq_of_length_le (show σ.length ≤ i by omega)]
    by_cases hi2 : e.length ≤ i
    · rw [List.set_eq_of_length_le hi2]
      exact h
    obtain ⟨fT, fV, h⟩ := h
    obtain ⟨e0, tl, f0, ft, rfl, rfl, r, t⟩ := h.vr
    have l0 := r.len
    have lt := t.le
    rw [List.length_append] at hi2
    have ei : i = e0.length := by omega
    have e1 : (e0 ++ tl).set i none = e0 ++ tl.set 0 none := by
      rw [ei, List.set_append_right _ _ (Nat.le_refl _), Nat.sub_self]
    have t1 : tl.set 0 none = [none] := by
      cases tl with
      | nil => simp at hi2; omega
      | cons a tl =>
        cases tl with
        | nil => rfl
        | cons b tl => simp at lt
    rw [e1, t1]
    have sub : ∀ a, a ∈ fT ++ (f0 ++ []) → a ∈ fT ++ (f0 ++ ft) := fun a z => by
      simp only [List.mem_append, List.append_nil] at z ⊢
      rcases z with z | z <;> simp [z]
    have how : ∀ a, owOf c fT (f0 ++ []) a → owOf c fT (f0 ++ ft) a ∨ H a = none := fun a z => by
      rcases z with z | z
      · exact .inl (.inl (sub a z))
      · exact .inl (.inr z)
    refine ⟨fT, f0 ++ [], h.tm.fr (fun _ _ q _ => q) (ExtT.refl H) how (fun _ _ _ q => q), ⟨e0, [none], f0, [], rfl, rfl, r.fr (fun _ _ q _ => q) (ExtT.refl H) how (fun _ _ _ q => q), rfl⟩, ?_, fun a z => h.fr a (sub a z), h.kp, h.tp, h.al, h.ok, h.rt⟩
    have n := h.nd
    rw [← List.append_assoc] at n
    rw [List.append_nil]
    exact (List.nodup_append.mp n).1
def wipeE (e : Env) : List Nat → Env
  | [] => e
  | v :: vs => (wipeE e vs).set v none
theorem R.wipe : ∀ {vs : List Nat}, R c T σ e H → (∀ i ∈ vs, ∀ p ∈ c.rt, p.1 ≠ i) → R c T (L2.wipe σ vs) (wipeE e vs) H
  | [], h, _ => h
  | v :: vs, h, hr => (R.wipe h fun i z => hr i (List.mem_cons_of_mem _ z)).forget (hr v List.mem_cons_self)
theorem wipeE_no {e : Env} {i : Nat} {d : D} : ∀ {vs : List Nat}, i ∈ vs → (wipeE e vs)[i]? ≠ some (some d)
  | [], h => by cases h
  | v :: vs, h => by
    unfold wipeE
    by_cases q : v = i
    · subst q
      rw [List.getElem?_set]
      simp only [if_true]
      split <;> simp
    · rw [List.getElem?_set_ne q]
      exact wipeE_no ((List.mem_cons.mp h).elim (fun z => absurd z.symm q) id)
/-- the thing on top is changed -/
theorem RX.updT {sh : Sh} {v : V} {d : D} (h : RX c fT fV ((sh, v, d) :: T) σ e H) :
    ∃ fp fT', fT = fp ++ fT' ∧ RO c.K (owOf c fT fV) H d sh v fp ∧ fp.Nodup ∧
      ∀ (H' : Hp) (d' : D) (fp' : List Addr), (∀ b o, H b = some o → b ∉ fp → H' b = some o) → ExtT H H' → (∀ b, H b ≠ none → H' b ≠ none) → fp'.Nodup → (∀ a ∈ fp', a ∈ fp ∨ H a = none) →
        (∀ ow', (∀ a, ow' a → owOf c fT fV a ∨ H a = none) → RO c.K ow' H' d' sh v fp') → RX c (fp' ++ fT') fV ((sh, v, d') :: T) σ e H' := by
  obtain ⟨fp, f2, e1, h1, h2⟩ := h.tm
  subst e1
  have n := h.nd
  rw [List.append_assoc] at n
  obtain ⟨nf, nr, nx⟩ := List.nodup_append.mp n
  refine ⟨fp, f2, rfl, h1, nf, fun H' d' fp' hk hT hal nd' hf' hro => ?_⟩
  have hsub : ∀ a ∈ fp, a ∈ (fp ++ f2) ++ fV := fun a z => by simp [z]
  have how : ∀ a, owOf c (fp' ++ f2) fV a → owOf c (fp ++ f2) fV a ∨ H a = none := fun a z => by
    rcases z with z | z
    · simp only [List.mem_append] at z
      rcases z with (z | z) | z
      · rcases hf' a z with q | q
        · exact .inl (.inl (by simp [q]))
        · exact .inr q
      · exact .inl (.inl (by simp [z]))
      · exact .inl (.inl (by simp [z]))
    · exact .inl (.inr z)
  have kow : ∀ b o, H b = some o → ¬ owOf c (fp ++ f2) fV b → H' b = some o := fun b o q n => hk b o q fun z => n (.inl (hsub b z))
  have koth : ∀ b ∈ f2 ++ fV, ∀ o, H b = some o → H' b = some o := fun b z o q => hk b o q fun y => nx b y b z rfl
  refine ⟨⟨fp', f2, rfl, hro _ how, h2.fr kow hT how (fun b z => koth b (List.mem_append_left _ z))⟩, h.vr.fr kow hT how (fun b z => koth b (List.mem_append_right _ z)), ?_, fun a z => ?_, fun b o q n => ?_, h.tp.trans hT, fun b q => hal b (h.al b q), h.ok, h.rt⟩
  · rw [List.append_assoc]
    exact List.nodup_append.mpr ⟨nd', nr, fun a z b y q => by
      subst q
      rcases hf' a z with q | q
      · exact nx a q a y rfl
      · obtain ⟨o, w, _⟩ := h.at a (by rw [List.append_assoc]; exact List.mem_append_right _ y)
        rw [q] at w
        cases w⟩
  · simp only [List.mem_append] at z
    rcases z with (z | z) | z
    · rcases hf' a z with q | q
      · exact h.fr a (by simp [q])
      · exact .inr (h.new q).2
    · exact h.fr a (by simp [z])
    · exact h.fr a (by simp [z])
  · refine hk b o (h.kp b o q n) fun z => ?_
    rcases h.fr b (hsub b z) with y | y
    · exact n y
    · rw [y] at q
      cases q
theorem al_upd {a : Addr} {o : HO} : ∀ b, H b ≠ none → (L2.upd H a o) b ≠ none := fun b q => by
  by_cases e : b = a
  · rw [e, upd_same]; simp
  · rw [upd_ne e]; exact q
/-- a thing more at the end of the list below -/
theorem R.append {y : V} {dy : D} {a : Addr} {l : List D} (h : R c ((.s, y, dy) :: (.l .s, .ref a, .lst l) :: T) σ e H) : ∃ vs, H a = some (.lst vs) ∧ vs.length = l.length ∧ R c ((.l .s, .ref a, .lst (l ++ [dy])) :: T) σ e (L2.upd H a (.lst (vs ++ [y]))) := by
  obtain ⟨fT, fV, h⟩ := h
  obtain ⟨ry, h⟩ := h.topS
  obtain ⟨fp, fT', e1, ro, nf, k⟩ := h.updT
  obtain ⟨l', a', vs, el, ea, ha, rs, ef⟩ := RO_l.mp ro
  cases el
  cases ea
  subst ef
  have nfx : ∀ u, H a = some u → ¬ Fx u := fun u q => by rw [ha] at q; cases q; exact id
  refine ⟨vs, ha, rs.len, _, fV, k (L2.upd H a (.lst (vs ++ [y]))) (.lst (l ++ [dy])) [a] (fun b o q n => ?_) (ExtT.upd nfx) al_upd (by simp) (fun b z => .inl z) fun ow' how => RO_l.mpr ⟨_, a, _, rfl, rfl, upd_same, ?_, rfl⟩⟩
  · rw [upd_ne (fun z => n (by rw [z]; exact List.mem_singleton_self a))]
    exact q
  · have F : Fr (owOf c fT fV) H (L2.upd H a (.lst (vs ++ [y]))) := ⟨fun b o q n => by
      rw [upd_ne (fun z => n (.inl (by rw [z, e1]; simp)))]
      exact q, ExtT.upd nfx⟩
    exact RSs.app (.cons (RS.fr F how _ _ ry) .nil) (RSs.fr F how _ _ rs)
end
/-! ### comprehensions -/
section
variable {c : Vc} {W : XW} {m : Md} {wi : TI} {fi : VTI} {tg : TG} {vg : VTG} {own vs : List Nat} {tt : TT} {ft : VTB} {te : TE} {fe : VT}
def vYes : VTB := fun e Q _ => Q true e
theorem vt_yes : VBt c W m tYes vYes := fun T σ e H Q Qv Qx hR hf hn hx => hn true e H hR (Post.refl _ _ _) hf
def vLcL (vs : List Nat) (vg : VTG) (ft : VTB) (fe : VT) (Q : List D → Env → Prop) : List D → List D → Env → Prop
  | [], acc, e => Q acc e
  | d :: ds, acc, e => vg d e fun e1 => ft e1 (fun b e2 => if b = true then fe e2 (fun y e3 => acc.length < sizeLine ∧ vLcL vs vg ft fe Q ds (acc ++ [y]) (wipeE e3 vs)) (fun _ _ => False) else vLcL vs vg ft fe Q ds acc (wipeE e2 vs)) (fun _ _ => False)
def vLc (fi : VTI) (vs : List Nat) (vg : VTG) (ft : VTB) (fe : VT) : VT := fun e Q Qx => fi e (fun ds e1 => vLcL vs vg ft fe (fun acc e2 => Q (.lst acc) e2) ds [] (wipeE e1 vs)) Qx
theorem v_lc {sh : Sh} (hi : VI c W m wi fi) (hg : VG c tg own vg) (ht : VBt c W0 m tt ft) (he : VE c W0 m te sh fe) (ho : ∀ i ∈ own, i ∈ vs) (hr : ∀ i ∈ vs, ∀ p ∈ c.rt, p.1 ≠ i) : VE c W m (tLc wi tg tt te vs) (.l .s) (vLc fi vs vg ft fe) := fun T σ e H Q Qv Qx hR hf hn hx => by
  have he := he.s
  refine hi T σ e H _ _ Qx hR hf (fun J hs ds e1 H1 ok R1 p1 q => ?_) hx
  intro a ha
  have hl0 := R1.len
  have hrt : ∀ p ∈ c.rt, σ[p.1]? = some (some p.2) := let ⟨_, _, z⟩ := R1; z.rt
  have start : R c ((.l .s, .ref a, .lst []) :: (hs ++ T)) (L2.wipe σ vs) (wipeE e1 vs) (upd H1 a (.lst [])) := by
    obtain ⟨fT, fV, z⟩ := R1.wipe hr
    exact z.newL ha .nil
  refine ⟨fun i k H' => k = ds.length - i ∧ i ≤ ds.length ∧ Post m H1 H' e1 e1 ∧ ∃ e' acc, R c ((.l .s, .ref a, .lst acc) :: (hs ++ T)) (L2.wipe σ vs) e' H' ∧ (∀ i ∈ vs, ∀ d, e'[i]? ≠ some (some d)) ∧ vLcL vs vg ft fe (fun acc e2 => Qv (.lst acc) e2) (ds.drop i) acc e', ⟨ds.length, by simp, Nat.zero_le _, Post.same (same_new ha), _, [], start, fun i z d => wipeE_no z, q⟩, ?_⟩
  rintro i k H2 ⟨rfl, hle, p2, e2, acc, R2, no2, q2⟩
  have hm : ∀ t ∈ hs, t ∈ ((.l .s, .ref a, .lst acc) : Tm) :: (hs ++ T) := fun t z => List.mem_cons_of_mem _ (List.mem_append_left _ z)
  by_cases hlt : i < ds.length
  · obtain ⟨fT, fV, X2⟩ := R2
    refine .inr ⟨ok.go fT fV _ _ e2 H2 i X2 hm hlt, fun H' => Post m H1 H' e1 e1 ∧ ∃ e' acc, R c ((.l .s, .ref a, .lst acc) :: (hs ++ T)) (L2.wipe σ vs) e' H' ∧ (∀ i ∈ vs, ∀ d, e'[i]? ≠ some (some d)) ∧ vLcL vs vg ft fe (fun acc e2 => Qv (.lst acc) e2) (ds.drop (i + 1)) acc e', fun H' z => ⟨ds.length - (i + 1), by omega, rfl, hlt, z.1, z.2⟩, fun x H3 hy => ?_⟩
    obtain ⟨sm, d, hd, rd⟩ := ok.yld fT fV _ _ e2 H2 i x H3 X2 hm hlt hy
    have ed : ds.drop i = d :: ds.drop (i + 1) := by
      rw [List.drop_eq_getElem_cons hlt]
      rw [List.getElem?_eq_getElem hlt] at hd
      cases hd
      rfl
    rw [ed] at q2
    have p2 := p2.trans (Post.same (e := e1) (e' := e1) sm)
    refine hg _ (L2.wipe σ vs) e2 H3 x d _ _ ⟨fT, fV, (X2.same sm).pushS rd⟩ q2 fun σ3 e3 R3 w3 q3 => ?_
    have w : L2.wipe σ3 vs = L2.wipe σ vs := by
      rw [w3 vs ho]
      apply List.ext_getElem?
      intro j
      rw [wipe_get, wipe_get, wipe_length]
      by_cases z : j ∈ vs
      · rw [if_pos z, if_pos z]
      · rw [if_neg z, if_neg z]
    refine ⟨?_, ht _ σ3 e3 H3 _ _ (fun _ _ => False) R3 q3 (fun b e4 H4 R4 p4 q4 => ?_) (fun x d e' H' r y q => q.elim)⟩
    · exact w
    cases b with
    | false =>
      have z := R4.wipe hr
      rw [w] at z
      exact ⟨p2.trans p4, _, acc, z, fun i y d => wipeE_no y, q4⟩
    | true =>
      refine he _ σ3 e4 H4 _ _ (fun _ _ => False) R4 q4 (fun y dy e5 H5 R5 p5 ⟨hz, q5⟩ => ?_) (fun x d e' H' r y q => q.elim)
      obtain ⟨ws, hw, lw, R6⟩ := R5.append
      have z := R6.wipe hr
      rw [w] at z
      refine ⟨ws, hw, by rw [lw]; exact hz, fun q => ?_, _, _, z, fun i y d => wipeE_no y, q5⟩
      intro b o eb
      have nb : b ≠ a := ne_of_none eb ha
      rw [upd_ne nb]
      exact ((p2.trans p4).trans p5) q b o eb
  · have eq : i = ds.length := by omega
    subst eq
    rw [List.drop_length] at q2
    obtain ⟨fT, fV, X2⟩ := R2
    refine .inl ⟨ok.stop fT fV _ _ e2 H2 _ X2 hm rfl, ?_⟩
    have z : R c ((.l .s, .ref a, .lst acc) :: T) (L2.wipe σ vs) e2 H2 := R.drop2 ⟨fT, fV, X2⟩
    refine hn _ _ e2 H2 (z.agree (by rw [wipe_length]) (fun i d q => ?_) hrt) (p1.trans (fun q => p2 q)) q2
    rw [wipe_get, if_neg (fun y => no2 i y d q)]
end
/-! ### one's own list: append, extend, pop -/
section
variable {c : Vc} {W : XW} {m : Md} {te : TE} {fe : VT}
theorem tyV_l {K : PySem.W.Frag} {H : Hp} {a : Addr} {vs : List V} (h : H a = some (.lst vs)) : tyV K "list" (.ref a) H := .inl ⟨rfl, vs, .inl (.inl h)⟩
/-- a name's own list, as it stands -/
theorem RX.ownL {fT fV : List Addr} {T : List Tm} {σ : L2.St} {e : Env} {H : Hp} {i : Nat} {l : List D} (h : RX c fT fV T σ e H) (hM : c.M[i]? = some (.l .s)) (hd : e[i]? = some (some (.lst l))) :
    ∃ a vs, σ[i]? = some (some (.ref a)) ∧ H a = some (.lst vs) ∧ RSs c.K (owOf c fT fV) H l vs ∧ ∀ (l' : List D) (vs' : List V) (H2 : Hp), Same H H2 → H2 a = some (.lst vs) → (∀ ow', (∀ b, ow' b → owOf c fT fV b ∨ H b = none) → RSs c.K ow' (L2.upd H2 a (.lst vs')) l' vs') → ∃ fV', RX c fT fV' T σ (e.set i (some (.lst l'))) (L2.upd H2 a (.lst vs')) := by
  obtain ⟨v, fp, hv, ro, sub, nf, k⟩ := h.upd hM hd
  obtain ⟨l0, a, vs, el, ea, ha, rs, ef⟩ := RO_l.mp ro
  cases el
  subst ea ef
  refine ⟨a, vs, hv, ha, rs, fun l' vs' H2 sm ha2 hr => ?_⟩
  have nfx : ∀ u, H2 a = some u → ¬ Fx u := fun u q => by rw [ha2] at q; cases q; exact id
  refine k (L2.upd H2 a (.lst vs')) (.lst l') [a] (fun b o q n => ?_) ((ExtT.same sm).trans (ExtT.upd nfx)) (fun b q => al_upd b ?_) (by simp) (fun b z => .inl z) fun ow' how => RO_l.mpr ⟨l', a, vs', rfl, rfl, upd_same, hr ow' how, rfl⟩
  · rw [upd_ne (fun z => n (by rw [z]; exact List.mem_singleton_self a))]
    exact sm b o q
  · cases z : H b with
    | none => exact absurd z q
    | some o => rw [sm b o z]; simp
def vAppend (i : Nat) (fe : VT) : VT := fun e Q Qx => (∃ l, e[i]? = some (some (.lst l))) ∧ fe e (fun d e1 => ∃ l, e1[i]? = some (some (.lst l)) ∧ l.length < sizeLine ∧ Q .non (e1.set i (some (.lst (l ++ [d]))))) Qx
theorem v_append {i : Nat} (hM : c.M[i]? = some (.l .s)) (he : VE c W .e te .s fe) : VE c W .e (tBM c.K "list" rAppend (tVar i) (tCons te tNil)) .s (vAppend i fe) := fun T σ e H Q Qv Qx hR ⟨⟨l0, hl0⟩, hf⟩ hn hx => by
  obtain ⟨fT, fV, hX⟩ := hR
  obtain ⟨a, vs0, hv, ha0, _⟩ := hX.ownL hM hl0
  refine ⟨_, hv, tyV_l ha0, ?_⟩
  refine he T σ e H _ _ Qx ⟨fT, fV, hX⟩ hf (fun y dy e1 H1 R1 _ ⟨l, hl, hz, q⟩ => ?_) hx
  obtain ⟨fT1, fV1, X1⟩ := R1
  obtain ⟨ry, X1⟩ := X1.topS
  obtain ⟨a1, vs, hv1, ha, rs, k⟩ := X1.ownL hM hl
  rw [hv] at hv1
  cases hv1
  obtain ⟨fV2, X2⟩ := k (l ++ [dy]) (vs ++ [y]) H1 (fun _ _ q => q) ha fun ow' how => by
    have nfx : ∀ u, H1 a = some u → ¬ Fx u := fun u q => by rw [ha] at q; cases q; exact id
    have oa : owOf c fT1 fV1 a := by
      obtain ⟨v, fp, hv', ro, sub, _⟩ := X1.upd hM hl
      obtain ⟨l0, a2, vs2, el, ea, ha2, rs2, ef⟩ := RO_l.mp ro
      rw [hv] at hv'
      cases hv'
      cases ea
      exact .inl (sub a (by rw [ef]; exact List.mem_singleton_self a))
    have F : Fr (owOf c fT1 fV1) H1 (L2.upd H1 a (.lst (vs ++ [y]))) := ⟨fun b o q n => by
      rw [upd_ne (fun z => n (by rw [z]; exact oa))]
      exact q, ExtT.upd nfx⟩
    exact RSs.app (.cons (RS.fr F how _ _ ry) .nil) (RSs.fr F how _ _ rs)
  exact ⟨a, vs, y, rfl, rfl, ha, by rw [rs.len]; exact hz, hn _ _ _ _ ⟨fT1, fV2, X2.pushS rs_non⟩ Post.e q⟩
end
end VL
set_option Elab.async false
set_option linter.all false
set_option maxRecDepth 100000
set_option maxHeartbeats 2000000
namespace VL
open PySem PySem.Spec PyProof.Rows L2
/-! ### promises over data -/
abbrev VSp := List D → (D → Env → Prop) → (Exn → Env → Prop) → Prop
def roots : List Sh → Nat → List V → List (Nat × V)
  | [], _, _ => []
  | _ :: _, _, [] => []
  | .s :: M, n, _ :: vs => roots M (n + 1) vs
  | .l _ :: M, n, v :: vs => (n, v) :: roots M (n + 1) vs
  | .d _ :: M, n, v :: vs => (n, v) :: roots M (n + 1) vs
  | .o _ :: M, n, v :: vs => (n, v) :: roots M (n + 1) vs
/-- what a def hands back of its parameters: those that are the caller's own -/
def ioP : List Sh → Env → Env
  | [], _ => []
  | _ :: _, [] => []
  | .s :: M, _ :: e => none :: ioP M e
  | .l _ :: M, y :: e => y :: ioP M e
  | .d _ :: M, y :: e => y :: ioP M e
  | .o _ :: M, y :: e => y :: ioP M e
def ioIx : List Sh → Nat → List Nat
  | [], _ => []
  | .s :: M, n => ioIx M (n + 1)
  | .l _ :: M, n => n :: ioIx M (n + 1)
  | .d _ :: M, n => n :: ioIx M (n + 1)
  | .o _ :: M, n => n :: ioIx M (n + 1)
theorem roots_ix : ∀ (M : List Sh) (n : Nat) (vs : List V), ∀ p ∈ roots M n vs, p.1 ∈ ioIx M n
  | [], _, _, p, h => by simp only [roots] at h; cases h
  | sh :: M, n, [], p, h => by cases sh <;> (simp only [roots] at h; cases h)
  | .s :: M, n, _ :: vs, p, h => by
    simp only [roots] at h
    simp only [ioIx]
    exact roots_ix M (n + 1) vs p h
  | .l _ :: M, n, v :: vs, p, h => by
    simp only [roots, List.mem_cons] at h
    simp only [ioIx, List.mem_cons]
    rcases h with h | h
    · exact .inl (by rw [h])
    · exact .inr (roots_ix M (n + 1) vs p h)
  | .d _ :: M, n, v :: vs, p, h => by
    simp only [roots, List.mem_cons] at h
    simp only [ioIx, List.mem_cons]
    rcases h with h | h
    · exact .inl (by rw [h])
    · exact .inr (roots_ix M (n + 1) vs p h)
  | .o _ :: M, n, v :: vs, p, h => by
    simp only [roots, List.mem_cons] at h
    simp only [ioIx, List.mem_cons]
    rcases h with h | h
    · exact .inl (by rw [h])
    · exact .inr (roots_ix M (n + 1) vs p h)
def spOf (K : PySem.W.Frag) (pM : List Sh) (rsh : Sh) (sp : VSp) : Sp := fun vs H Q E => ∃ (c : Vc) (ds : List D) (Qv : D → Env → Prop) (Qx : Exn → Env → Prop), c.K = K ∧ c.M = pM ∧ c.H0 = H ∧ c.rt = roots pM 0 vs ∧ (ds.length = pM.length ∧ R c [] (vs.map some) (ds.map some) H) ∧ sp ds Qv Qx ∧
  (∀ v r ps H', ps.length = pM.length → R c [(rsh, v, r)] (vs.map some) ps H' → Qv r ps → Q v H') ∧ (∀ x d ps H', ps.length = pM.length → R c [] (vs.map some) ps H' → XAt H' x d → Qx x ps → E (.ref x.C) d H')
theorem spOf.len {K : PySem.W.Frag} {pM : List Sh} {rsh : Sh} {sp : VSp} {vs : List V} {H : Hp} {Q : VK} {E : XK} (h : spOf K pM rsh sp vs H Q E) : vs.length = pM.length := by
  obtain ⟨c, ds, Qv, Qx, h1, h2, h3, h4, ⟨_, h5⟩, _⟩ := h
  have z := h5.len.1
  rw [List.length_map, h2] at z
  exact z
section
variable {K : PySem.W.Frag} {ow ow' : Addr → Prop} {H H' : Hp}
theorem RV.app {M2 : List Sh} {σ2 : L2.St} {e2 : Env} {f2 : List Addr} (h2 : RV K ow H M2 σ2 e2 f2) : ∀ {M : List Sh} {σ : L2.St} {e : Env} {fp : List Addr}, RV K ow H M σ e fp → RV K ow H (M ++ M2) (σ ++ σ2) (e ++ e2) (fp ++ f2)
  | [], _, _, _, ⟨a, b, c⟩ => by
    subst a b c
    exact h2
  | sh :: M, _, _, _, ⟨x, σ', y, e', g1, g2, e1, e2, e3, h1, h3⟩ => by
    subst e1 e2 e3
    exact ⟨x, σ' ++ σ2, y, _, g1, g2 ++ f2, rfl, rfl, by rw [List.append_assoc], h1, RV.app h2 h3⟩
theorem RV.unapp : ∀ {M M2 : List Sh} {σ : L2.St} {e : Env} {fp : List Addr}, RV K ow H (M ++ M2) σ e fp → ∃ σ1 σ2 e1 e2 f1 f2, σ = σ1 ++ σ2 ∧ e = e1 ++ e2 ∧ fp = f1 ++ f2 ∧ RV K ow H M σ1 e1 f1 ∧ RV K ow H M2 σ2 e2 f2
  | [], M2, σ, e, fp, h => ⟨[], σ, [], e, [], fp, rfl, rfl, rfl, ⟨rfl, rfl, rfl⟩, h⟩
  | sh :: M, M2, _, _, _, ⟨x, σ', y, e', g1, g2, e1, e2, e3, h1, h3⟩ => by
    subst e1 e2 e3
    obtain ⟨σ1, σ2, e1, e2, f1, f2, a, b, c, h4, h5⟩ := RV.unapp h3
    subst a b c
    exact ⟨x :: σ1, σ2, y :: e1, e2, g1 ++ f1, f2, rfl, rfl, by rw [List.append_assoc], ⟨x, σ1, y, e1, g1, f1, rfl, rfl, rfl, h1, h4⟩, h5⟩
theorem RV.nones : ∀ (M : List Sh), RV K ow H M (List.replicate M.length none) (List.replicate M.length none) []
  | [] => ⟨rfl, rfl, rfl⟩
  | sh :: M => ⟨none, _, none, _, [], [], rfl, rfl, rfl, rfl, RV.nones M⟩
theorem ioP_app : ∀ {M : List Sh} {e1 e2 : Env}, e1.length = M.length → ioP M (e1 ++ e2) = ioP M e1
  | [], e1, e2, h => by simp only [ioP]
  | sh :: M, [], e2, h => by cases h
  | sh :: M, y :: e1, e2, h => by
    have z := ioP_app (M := M) (e1 := e1) (e2 := e2) (Nat.succ.inj h)
    cases sh <;> simp only [List.cons_append, ioP, z]
theorem ioP_len : ∀ {M : List Sh} {e : Env}, M.length ≤ e.length → (ioP M e).length = M.length
  | [], _, _ => by simp [ioP]
  | sh :: M, [], h => by simp at h
  | sh :: M, y :: e, h => by
    have z := ioP_len (M := M) (e := e) (Nat.le_of_succ_le_succ h)
    cases sh <;> simp only [ioP, List.length_cons, z]
theorem Slot.io {sh : Sh} {x : Option V} {y : Option D} {v : V} {fp : List Addr} (h : Slot K ow H sh x y fp) (hx : x = some v) : Slot K ow H sh (some v) y fp := by
  rw [hx] at h
  exact h
theorem RV.io : ∀ {M : List Sh} {σ : L2.St} {e : Env} {fp : List Addr} {vs : List V} {n : Nat}, RV K ow H M σ e fp → vs.length = M.length → (∀ p ∈ roots M n vs, ∃ j, p.1 = n + j ∧ σ[j]? = some (some p.2)) → RV K ow H M (vs.map some) (ioP M e) fp
  | [], _, _, _, vs, _, ⟨a, b, c⟩, hl, _ => by
    cases vs with
    | nil => exact ⟨rfl, by simp only [ioP], c⟩
    | cons v vs => cases hl
  | sh :: M, _, _, _, [], _, _, hl, _ => by cases hl
  | sh :: M, _, _, _, v :: vs, n, ⟨x, σ', y, e', g1, g2, e1, e2, e3, h1, h3⟩, hl, hr => by
    subst e1 e2 e3
    have sub : ∀ q ∈ roots M (n + 1) vs, q ∈ roots (sh :: M) n (v :: vs) := fun q hq => by
      cases sh <;> simp only [roots] <;> first | exact hq | exact List.mem_cons_of_mem _ hq
    have rest : RV K ow H M (vs.map some) (ioP M e') g2 := RV.io (n := n + 1) h3 (Nat.succ.inj hl) fun q hq => by
      obtain ⟨j, a, b⟩ := hr q (sub q hq)
      have hj : 1 ≤ j := by
        have z : n + 1 ≤ q.1 := by
          have : ∀ (M : List Sh) (n : Nat) (i : Nat), i ∈ ioIx M n → n ≤ i := fun M => by
            induction M with
            | nil => intro n i h; simp only [ioIx] at h; cases h
            | cons sh M ih =>
              intro n i h
              cases sh <;> simp only [ioIx, List.mem_cons] at h <;> first | (have := ih (n + 1) i h; omega) | (rcases h with h | h; omega; have := ih (n + 1) i h; omega)
          exact this M (n + 1) q.1 (roots_ix M (n + 1) vs q hq)
        omega
      refine ⟨j - 1, by omega, ?_⟩
      rw [show j = (j - 1) + 1 by omega] at b
      simpa using b
    cases sh with
    | s =>
      simp only [ioP, List.map_cons]
      refine ⟨some v, vs.map some, none, ioP M e', [], g2, rfl, rfl, ?_, rfl, rest⟩
      cases y with
      | none =>
        have z : g1 = [] := h1
        rw [z]
      | some d =>
        obtain ⟨u, _, r⟩ := h1
        rw [(RO_s.mp r).1]
    | l q =>
      obtain ⟨j, a, b⟩ := hr (n, v) (by simp only [roots]; exact List.mem_cons_self)
      have : j = 0 := by simp at a; omega
      subst this
      simp only [List.getElem?_cons_zero, Option.some.injEq] at b
      simp only [ioP, List.map_cons]
      exact ⟨some v, vs.map some, y, ioP M e', g1, g2, rfl, rfl, rfl, h1.io b, rest⟩
    | d q =>
      obtain ⟨j, a, b⟩ := hr (n, v) (by simp only [roots]; exact List.mem_cons_self)
      have : j = 0 := by simp at a; omega
      subst this
      simp only [List.getElem?_cons_zero, Option.some.injEq] at b
      simp only [ioP, List.map_cons]
      exact ⟨some v, vs.map some, y, ioP M e', g1, g2, rfl, rfl, rfl, h1.io b, rest⟩
    | o q =>
      obtain ⟨j, a, b⟩ := hr (n, v) (by simp only [roots]; exact List.mem_cons_self)
      have : j = 0 := by simp at a; omega
      subst this
      simp only [List.getElem?_cons_zero, Option.some.injEq] at b
      simp only [ioP, List.map_cons]
      exact ⟨some v, vs.map some, y, ioP M e', g1, g2, rfl, rfl, rfl, h1.io b, rest⟩
theorem roots_at : ∀ (M : List Sh) (n : Nat) (vs : List V), ∀ p ∈ roots M n vs, ∃ j, p.1 = n + j ∧ vs[j]? = some p.2
  | [], _, _, p, h => by simp only [roots] at h; cases h
  | sh :: M, n, [], p, h => by cases sh <;> (simp only [roots] at h; cases h)
  | .s :: M, n, _ :: vs, p, h => by
    simp only [roots] at h
    obtain ⟨j, a, b⟩ := roots_at M (n + 1) vs p h
    exact ⟨j + 1, by omega, by simpa using b⟩
  | .l _ :: M, n, v :: vs, p, h => by
    simp only [roots, List.mem_cons] at h
    rcases h with h | h
    · exact ⟨0, by rw [h]; rfl, by rw [h]; rfl⟩
    · obtain ⟨j, a, b⟩ := roots_at M (n + 1) vs p h
      exact ⟨j + 1, by omega, by simpa using b⟩
  | .d _ :: M, n, v :: vs, p, h => by
    simp only [roots, List.mem_cons] at h
    rcases h with h | h
    · exact ⟨0, by rw [h]; rfl, by rw [h]; rfl⟩
    · obtain ⟨j, a, b⟩ := roots_at M (n + 1) vs p h
      exact ⟨j + 1, by omega, by simpa using b⟩
  | .o _ :: M, n, v :: vs, p, h => by
    simp only [roots, List.mem_cons] at h
    rcases h with h | h
    · exact ⟨0, by rw [h]; rfl, by rw [h]; rfl⟩
    · obtain ⟨j, a, b⟩ := roots_at M (n + 1) vs p h
      exact ⟨j + 1, by omega, by simpa using b⟩
end
def nones : List Sh → Env
  | [] => []
  | _ :: M => none :: nones M
theorem nones_eq : ∀ M : List Sh, nones M = List.replicate M.length none
  | [] => rfl
  | _ :: M => by rw [nones, nones_eq M]; rfl
/-- a def by its body -/
theorem fn_run {K : PySem.W.Frag} {pM M2 : List Sh} {rsh : Sh} {sp : VSp} {W : XW} {exV : (Exn → Env → Prop) → QX} {ts : TS} {f : VTS} {N : List Str} {vs : List V} {H : Hp} {Q : VK} {E : XK} (hN : N.length = (pM ++ M2).length)
    (hb : ∀ (H0 : Hp) (io av : Addr → Prop) (rt : List (Nat × V)), (∀ i, i ∉ ioIx pM 0 → ∀ p ∈ rt, p.1 ≠ i) → VS ⟨K, H0, io, av, pM ++ M2, rt⟩ W rsh ts f)
    (hx : ∀ (Qx : Exn → Env → Prop) (c : Vc) (T : List Tm) (x : Exn) (d : Option Addr) (σ : L2.St) (e : Env) (H' : Hp), c.M = pM ++ M2 → R c T σ e H' → XAt H' x d → exV Qx x e → (∀ ps, ps = ioP pM e → Qx x ps → E (.ref x.C) d H') → W (.ref x.C) d σ H')
    (hsp : ∀ (ds : List D) (Qv : D → Env → Prop) (Qx : Exn → Env → Prop), ds.length = pM.length → sp ds Qv Qx → f ⟨fun e => rsh = .s ∧ Qv .non (ioP pM e), fun r e => Qv r (ioP pM e), fun _ => False, fun _ => False, exV Qx⟩ (ds.map some ++ nones M2))
    (h : spOf K pM rsh sp vs H Q E) : ts { nx := fun _ H' => Q .non H', rt := Q } (L2.start N vs) H := by
  have hl := h.len
  obtain ⟨c, ds, Qv, Qx, rfl, rfl, rfl, h4, ⟨hdl, fT, fV, hX⟩, hs, hq, he⟩ := h
  have hr : ∀ i, i ∉ ioIx c.M 0 → ∀ p ∈ c.rt, p.1 ≠ i := fun i hi p hp z => hi (by
    rw [h4] at hp
    rw [← z]
    exact roots_ix _ _ _ p hp)
  have hst : L2.start N vs = vs.map some ++ List.replicate M2.length none := by
    unfold L2.start
    rw [hN, List.length_append, hl]
    congr 2
    omega
  have hfT : fT = [] := hX.tm
  subst hfT
  have start' : R ⟨c.K, c.H0, c.io, c.av, c.M ++ M2, c.rt⟩ [] (vs.map some ++ List.replicate M2.length none) (ds.map some ++ List.replicate M2.length none) c.H0 := by
    refine ⟨[], fV, rfl, ?_, hX.nd, hX.fr, hX.kp, hX.tp, hX.al, hX.ok, fun p hp => ?_⟩
    · have z := RV.app (RV.nones (K := c.K) (ow := owOf c [] fV) (H := c.H0) M2) (hX.vr.strict (by rw [List.length_map]; exact hdl))
      rw [List.append_nil] at z
      exact .of z
    · have z := hX.rt p hp
      rw [List.getElem?_append_left ((List.getElem?_eq_some_iff.mp z).1)]
      exact z
  have back : ∀ {T : List Tm} {σ : L2.St} {e : Env} {H' : Hp}, R ⟨c.K, c.H0, c.io, c.av, c.M ++ M2, c.rt⟩ T σ e H' → R c T (vs.map some) (ioP c.M e) H' := by
    rintro T σ e H' ⟨gT, gV, Y⟩
    obtain ⟨e0, tl, g0, gt, ee, eg, rv, _⟩ := Y.vr
    subst ee eg
    obtain ⟨σ1, σ2, e1, e2, f1, f2, a, b, cc, h6, h7⟩ := RV.unapp rv
    subst a b cc
    have sub : ∀ x, x ∈ gT ++ f1 → x ∈ gT ++ ((f1 ++ f2) ++ gt) := fun x z => by
      simp only [List.mem_append] at z ⊢
      rcases z with z | z <;> simp [z]
    have how : ∀ x, owOf c gT f1 x → owOf ⟨c.K, c.H0, c.io, c.av, c.M ++ M2, c.rt⟩ gT ((f1 ++ f2) ++ gt) x ∨ H' x = none := fun x z => by
      rcases z with z | z
      · exact .inl (.inl (sub x z))
      · exact .inl (.inr z)
    have l1 := h6.len
    rw [List.append_assoc, ioP_app l1.2]
    refine ⟨gT, f1, Y.tm.fr (fun _ _ q _ => q) (ExtT.refl H') how (fun _ _ _ q => q), .of ?_, ?_, fun x z => Y.fr x (sub x z), Y.kp, Y.tp, Y.al, Y.ok, fun p hp => ?_⟩
    · refine RV.io (n := 0) (h6.fr (fun _ _ q _ => q) (ExtT.refl H') how (fun _ _ _ q => q)) hl fun p hp => ?_
      have z := Y.rt p (by rw [h4]; exact hp)
      obtain ⟨j, a, b⟩ := roots_at _ _ _ p hp
      refine ⟨j, a, ?_⟩
      rw [Nat.zero_add] at a
      rw [a, List.getElem?_append_left (by
        rw [l1.1, ← hl]
        exact (List.getElem?_eq_some_iff.mp b).1)] at z
      exact z
    · have n := Y.nd
      rw [List.append_assoc, ← List.append_assoc] at n
      exact (List.nodup_append.mp n).1
    · have hp' := hp
      rw [h4] at hp'
      obtain ⟨j, a, b⟩ := roots_at _ _ _ p hp'
      rw [Nat.zero_add] at a
      rw [a, List.getElem?_map, b]
      rfl
  have lio : ∀ {T : List Tm} {σ : L2.St} {e : Env} {H' : Hp}, R ⟨c.K, c.H0, c.io, c.av, c.M ++ M2, c.rt⟩ T σ e H' → (ioP c.M e).length = c.M.length := fun r => ioP_len (by
    have z := r.len
    simp only [List.length_append] at z
    omega)
  rw [hst]
  have hsp' := hsp ds Qv Qx hdl hs
  rw [nones_eq] at hsp'
  refine hb c.H0 c.io c.av c.rt hr [] _ _ c.H0 _ _ start' hsp' ⟨fun σ e H' r q => ?_, fun v d σ e H' r q => hq v d _ H' (lio r) (back r) q, fun _ _ _ _ q => q.elim, fun _ _ _ _ q => q.elim, fun x d σ e H' r y q => hx Qx _ _ x d σ e H' rfl r y q fun ps ep z => ?_⟩
  · obtain ⟨e1, q⟩ := q
    subst e1
    obtain ⟨gT, gV, Y⟩ := r
    exact hq .non .non _ H' (lio ⟨gT, gV, Y⟩) (back ⟨gT, gV, Y.pushS rs_non⟩) q
  · subst ep
    exact he x d _ H' (lio r) (back r) y z
/-- .. of a def that raises nothing -/
theorem fn_run0 {K : PySem.W.Frag} {pM M2 : List Sh} {rsh : Sh} {sp : VSp} {ts : TS} {f : VTS} {N : List Str} {vs : List V} {H : Hp} {Q : VK} {E : XK} (hN : N.length = (pM ++ M2).length)
    (hb : ∀ (H0 : Hp) (io av : Addr → Prop) (rt : List (Nat × V)), (∀ i, i ∉ ioIx pM 0 → ∀ p ∈ rt, p.1 ≠ i) → VS ⟨K, H0, io, av, pM ++ M2, rt⟩ W0 rsh ts f)
    (hsp : ∀ (ds : List D) (Qv : D → Env → Prop) (Qx : Exn → Env → Prop), ds.length = pM.length → sp ds Qv Qx → f ⟨fun e => rsh = .s ∧ Qv .non (ioP pM e), fun r e => Qv r (ioP pM e), fun _ => False, fun _ => False, fun _ _ => False⟩ (ds.map some ++ nones M2))
    (h : spOf K pM rsh sp vs H Q E) : ts { nx := fun _ H' => Q .non H', rt := Q } (L2.start N vs) H :=
  fn_run (exV := fun _ _ _ => False) hN hb (fun _ _ _ _ _ _ _ _ _ _ _ z => z.elim) hsp h
/-! ### calls -/
section
variable {c : Vc} {W : XW} {m : Md} {tA : TA} {fA : VTA}
def vCall (n : Nat) (sp : VSp) (fA : VTA) : VT := fun e Q Qx => fA e (fun ds e1 => ds.length = n ∧ sp ds (fun r _ => Q r e1) fun _ _ => False) Qx
theorem RV.ofS {K : PySem.W.Frag} {ow : Addr → Prop} {H : Hp} : ∀ {pM : List Sh} {vs : List V} {ds : List D}, (∀ sh ∈ pM, sh = .s) → RSs K ow H ds vs → ds.length = pM.length → RV K ow H pM (vs.map some) (ds.map some) []
  | [], _, [], _, r, _ => by
    simp only [RSs] at r
    rw [r]
    exact ⟨rfl, rfl, rfl⟩
  | [], _, d :: ds, _, _, hl => by cases hl
  | sh :: pM, _, [], _, _, hl => by cases hl
  | sh :: pM, _, d :: ds, hs, r, hl => by
    simp only [RSs] at r
    obtain ⟨v, w, rfl, r1, r2⟩ := r
    have e := hs sh List.mem_cons_self
    subst e
    exact ⟨some v, w.map some, some d, ds.map some, [], [], rfl, rfl, rfl, ⟨v, rfl, RO_s.mpr ⟨rfl, r1⟩⟩, RV.ofS (fun sh z => hs sh (List.mem_cons_of_mem _ z)) r2 (Nat.succ.inj hl)⟩
theorem RV.fpS {K : PySem.W.Frag} {ow : Addr → Prop} {H : Hp} : ∀ {pM : List Sh} {σ : L2.St} {e : Env} {fp : List Addr}, (∀ sh ∈ pM, sh = .s) → RV K ow H pM σ e fp → fp = []
  | [], _, _, _, _, h => h.2.2
  | sh :: pM, _, _, _, hs, ⟨x, σ', y, e', g1, g2, e1, e2, e3, h1, h3⟩ => by
    have e := hs sh List.mem_cons_self
    subst e
    have z : g1 = [] := by
      cases y with
      | none => exact h1
      | some d =>
        obtain ⟨v, _, r⟩ := h1
        exact (RO_s.mp r).1
    rw [e3, z, RV.fpS (fun sh z => hs sh (List.mem_cons_of_mem _ z)) h3]
    rfl
theorem roots_s : ∀ {pM : List Sh} {n : Nat} {vs : List V}, (∀ sh ∈ pM, sh = .s) → roots pM n vs = []
  | [], _, _, _ => by simp only [roots]
  | sh :: pM, _, [], hs => by cases sh <;> simp only [roots]
  | sh :: pM, n, v :: vs, hs => by
    have e := hs sh List.mem_cons_self
    subst e
    simp only [roots]
    exact roots_s fun sh z => hs sh (List.mem_cons_of_mem _ z)
theorem v_call {pM : List Sh} {rsh : Sh} {sp : VSp} {E : XK} (hA : VA c W m tA fA) (hs : ∀ sh ∈ pM, sh = .s) : VE c W m (tCall (spOf c.K pM rsh sp) [] E tA) rsh (vCall pM.length sp fA) := fun T σ e H Q Qv Qx hR hf hn hx => by
  refine hA T σ e H _ _ Qx hR hf (fun fT fV vs ds e1 H1 X1 rs p ⟨hl, q⟩ => ?_) hx
  rw [List.append_nil]
  have how : ∀ a, (a ∈ ([] : List Addr) ++ [] ∨ owOf c fT fV a) → owOf c fT fV a := fun a z => z.elim (fun y => by cases y) id
  refine ⟨⟨c.K, H1, fun _ => False, owOf c fT fV, pM, roots pM 0 vs⟩, ds, fun r _ => Qv r e1, fun _ _ => False, rfl, rfl, rfl, rfl, ⟨hl, [], [], rfl, .of (RV.ofS hs (rs.less how) hl), by simp, fun a z => (by cases z), fun b o q _ => q, ExtT.refl H1, fun b q => q, fun a z => ⟨X1.owS z, id⟩, fun p hp => (by rw [roots_s hs] at hp; cases hp)⟩, q, ?_, fun x d ps H' _ _ _ z => z.elim⟩
  rintro v r ps H' hpl ⟨gT, gV, Y⟩ q
  have sm : Same H1 H' := fun b o z => Y.kp b o z id
  have hg : gV = [] := RV.fpS hs (Y.vr.strict hpl)
  subst hg
  obtain ⟨f1, f2, e2, r1, r2⟩ := Y.tm
  have r2 : f2 = [] := r2
  subst r2
  rw [List.append_nil] at e2
  subst e2
  have nd := Y.nd
  rw [List.append_nil] at nd
  have fr : ∀ a ∈ gT, H1 a = none := fun a z => (Y.fr a (by rw [List.append_nil]; exact z)).elim (fun y => y.elim) id
  refine hn v r e1 H' ⟨gT ++ fT, fV, X1.pushO sm nd fr (RO.fr (fun _ _ q _ => q) (ExtT.refl H') (fun a z => ?_) _ _ _ _ r1 (fun _ _ _ q => q))⟩ (p.trans (Post.same sm)) q
  rcases z with z | z
  · rw [List.append_assoc] at z
    rcases List.mem_append.mp z with z | z
    · exact .inl (.inl (by rw [List.append_nil]; exact z))
    · exact .inl (.inr (.inl z))
  · exact .inl (.inr (.inr z))
end
end VL
set_option Elab.async false
set_option linter.all false
set_option maxRecDepth 100000
set_option maxHeartbeats 2000000
namespace VL
open PySem PySem.Spec PyProof.Rows L2
theorem u65 {k : Nat} {A : Around} (r : Room k A) : A.units + 65 < cLine := by have := r.un; omega
/-! ### dicts -/
def kD : Key → D
  | .inl i => .int i
  | .inr x => .str x
def getK : List Key → List D → Key → Option D
  | k :: ks, d :: ds, x => if k = x then some d else getK ks ds x
  | _, _, _ => none
section
variable {K : PySem.W.Frag} {ow : Addr → Prop} {H : Hp}
theorem RB.key {k : Key} {v : V} (h : RB K ow H (kD k) v) : v = kV k := by
  cases k with
  | inl i => exact h.int
  | inr x => exact h.str
theorem getK_val {k : Key} : ∀ {ks : List Key} {l : List D} {vs : List V}, ks.length = vs.length → RSs K ow H l vs → (∀ d, getK ks l k = some d → ∃ v, valV (ks.zip vs) k = some v ∧ RS K ow H d v) ∧ (getK ks l k = none → valV (ks.zip vs) k = none)
  | [], l, vs, hl, r => by
    cases vs with
    | nil => exact ⟨fun d h => by simp [getK] at h, fun _ => rfl⟩
    | cons v vs => cases hl
  | k0 :: ks, [], vs, hl, r => by
    simp only [RSs] at r
    rw [r] at hl
    cases hl
  | k0 :: ks, d0 :: l, vs, hl, r => by
    simp only [RSs] at r
    obtain ⟨v, w, rfl, r1, r2⟩ := r
    obtain ⟨a, b⟩ := getK_val (k := k) (ks := ks) (Nat.succ.inj hl) r2
    rw [List.zip_cons_cons]
    by_cases e : k0 = k
    · refine ⟨fun d h => ?_, fun h => ?_⟩
      · simp only [getK, if_pos e, Option.some.injEq] at h
        subst h
        exact ⟨v, valV_pos e, r1⟩
      · simp only [getK, if_pos e] at h
        cases h
    · refine ⟨fun d h => ?_, fun h => ?_⟩
      · simp only [getK, if_neg e] at h
        obtain ⟨u, h1, h2⟩ := a d h
        exact ⟨u, (valV_neg e).trans h1, h2⟩
      · simp only [getK, if_neg e] at h
        exact (valV_neg e).trans (b h)
end
section
variable {c : Vc} {W : XW} {m : Md} {ta tb td te : TE} {fa fb fd fe : VT} {tA : TA} {fA : VTA}
def gDGet : G2
  | .dct ks l, y, Q => ∃ k d, y = kD k ∧ getK ks l k = some d ∧ Q d
  | _, _, _ => False
theorem od_dget {K : PySem.W.Frag} : OpD K (fun x y H Q => ∃ a v, x = .ref a ∧ DGet H a y (some v) ∧ Q v H) gDGet := fun ow H x y dx dy Q Qd rx ry hg hn => by
  cases dx <;> first | exact hg.elim | skip
  obtain ⟨k, d, rfl, hk, q⟩ := hg
  obtain ⟨a, vs, rfl, s, n, r⟩ := rx.dct
  obtain ⟨v, hv, rv⟩ := (getK_val n r).1 d hk
  exact ⟨a, v, rfl, .inl ⟨_, k, s, ry.key, hv.symm⟩, hn _ _ rv q⟩
def vDGet (fd fa : VT) : VT := vOp2 gDGet fd fa
theorem q_dget (h1 : VB c td fd) (h2 : VB c ta fa) : VQ c (tDGet td ta) (vDGet fd fa) := q_op h1 h2 od_dget
theorem v_dget (h1 : VE c W m td .s fd) (h2 : VE c W m ta .s fa) : VE c W m (tDGet td ta) .s (vDGet fd fa) := v_op h1 h2 od_dget
def hasK (ks : List Key) (k : Key) : Bool := ks.any fun z => decide (z = k)
def gDIn (neg : Bool) : D → D → (D → Prop) → Prop
  | y, .dct ks l, Q => ∃ k, y = kD k ∧ ks.length = l.length ∧ Q (.bl (if neg then !hasK ks k else hasK ks k))
  | _, _, _ => False
theorem valV_mem {k : Key} : ∀ {ks : List Key} {vs : List V}, ks.length = vs.length → (valV (ks.zip vs) k).isSome = hasK ks k
  | [], vs, _ => by simp [valV, hasK]
  | k0 :: ks, [], h => by cases h
  | k0 :: ks, v :: vs, h => by
    rw [List.zip_cons_cons]
    by_cases e : k0 = k
    · rw [valV_pos e]
      simp [hasK, e]
    · rw [valV_neg e, valV_mem (Nat.succ.inj h)]
      simp [hasK, e]
theorem od_din {K : PySem.W.Frag} : OpD K (fun y x H Q => ∃ a o, x = .ref a ∧ DGet H a y o ∧ Q (.bl o.isSome) H) (gDIn false) := fun ow H x y dx dy Q Qd rx ry hg hn => by
  cases dy <;> first | (simp only [gDIn] at hg; done) | skip
  simp only [gDIn] at hg
  obtain ⟨k, rfl, hl, q⟩ := hg
  obtain ⟨a, vs, rfl, s, n, r⟩ := ry.dct
  exact ⟨a, _, rfl, .inl ⟨_, k, s, rx.key, rfl⟩, hn _ _ (by rw [valV_mem n]; exact rs_bl) q⟩
theorem od_dnotin {K : PySem.W.Frag} : OpD K (fun y x H Q => ∃ a o, x = .ref a ∧ DGet H a y o ∧ Q (.bl (!o.isSome)) H) (gDIn true) := fun ow H x y dx dy Q Qd rx ry hg hn => by
  cases dy <;> first | (simp only [gDIn] at hg; done) | skip
  simp only [gDIn] at hg
  obtain ⟨k, rfl, hl, q⟩ := hg
  obtain ⟨a, vs, rfl, s, n, r⟩ := ry.dct
  exact ⟨a, _, rfl, .inl ⟨_, k, s, rx.key, rfl⟩, hn _ _ (by rw [valV_mem n]; exact rs_bl) q⟩
theorem q_din (h2 : VB c ta fa) (h1 : VB c td fd) : VQ c (tDIn ta td) (vOp2 (gDIn false) fa fd) := q_op h2 h1 od_din
theorem v_din (h2 : VE c W m ta .s fa) (h1 : VE c W m td .s fd) : VE c W m (tDIn ta td) .s (vOp2 (gDIn false) fa fd) := v_op h2 h1 od_din
theorem q_dnotin (h2 : VB c ta fa) (h1 : VB c td fd) : VQ c (tDNotIn ta td) (vOp2 (gDIn true) fa fd) := q_op h2 h1 od_dnotin
theorem v_dnotin (h2 : VE c W m ta .s fa) (h1 : VE c W m td .s fd) : VE c W m (tDNotIn ta td) .s (vOp2 (gDIn true) fa fd) := v_op h2 h1 od_dnotin
def gGet2 : D → D → D → (D → Prop) → Prop
  | .dct ks l, y, z, Q => ∃ k, y = kD k ∧ Q ((getK ks l k).getD z)
  | _, _, _, _ => False
def vGet2 (fd fa fb : VT) : VT := fun e Q Qx => fd e (fun x e1 => (∃ ks l, x = .dct ks l) ∧ fa e1 (fun y e2 => fb e2 (fun z e3 => gGet2 x y z fun r => Q r e3) Qx) Qx) Qx
theorem v_get2 (hd : VE c W m td .s fd) (ha : VE c W m ta .s fa) (hb : VE c W m tb .s fb) : VE c W m (tDGet2 td ta tb) .s (vGet2 fd fa fb) := fun T σ e H Q Qv Qx hR hf hn hx => by
  refine hd T σ e H _ _ Qx hR hf (fun x dx e1 H1 R1 P1 ⟨⟨ks, l, ex⟩, h1⟩ => ?_) hx
  subst ex
  obtain ⟨fT, fV, X1⟩ := R1
  obtain ⟨rx, _⟩ := X1.topS
  obtain ⟨a, vs, ea, s, n, r⟩ := rx.b.dct
  subst ea
  refine ⟨a, rfl, .inl ⟨_, s⟩, ?_⟩
  refine two ha hb ⟨fT, fV, X1⟩ h1 (fun gT gV y z dy dz e' H' X' ry rz p q => ?_) (fun xn d e' H' R' X' q' => hx xn d e' H' R'.pop X' q')
  obtain ⟨k, ey, q⟩ := q
  subst ey
  obtain ⟨rx', X''⟩ := X'.topS
  obtain ⟨a', vs', ea, s', n', r'⟩ := rx'.b.dct
  cases ea
  refine ⟨valV (ks.zip vs') k, .inl ⟨_, k, s', ry.b.key, rfl⟩, hn _ _ e' H' ⟨gT, gV, X''.pushS ?_⟩ (P1.trans p) q⟩
  obtain ⟨h1, h2⟩ := getK_val (k := k) n' r'
  cases g : getK ks l k with
  | none =>
    rw [h2 g]
    exact rz
  | some d =>
    obtain ⟨v, hv, rv⟩ := h1 d g
    rw [hv]
    exact rv
/-! {..} -/
abbrev VTP := Env → (List (Key × D) → Env → Prop) → QX → Prop
def VPs (c : Vc) (W : XW) (m : Md) (trs : List (TE × TE)) (f : VTP) : Prop := ∀ (T : List Tm) (σ : L2.St) (e : Env) (H : Hp) (Q : List (V × V) → Hp → Prop) (Qv : List (Key × D) → Env → Prop) (Qx : QX), R c T σ e H → f e Qv Qx →
  (∀ fT fV ps kds e' H', RX c fT fV T σ e' H' → Paired (fun (k : Key × D) (p : V × V) => p.1 = kV k.1 ∧ RS c.K (owOf c fT fV) H' k.2 p.2) kds ps → Post m H H' e e' → Qv kds e' → Q ps H') → (∀ x d e' H', R c T σ e' H' → XAt H' x d → Qx x e' → W (.ref x.C) d σ H') → tPairs trs σ H Q
def vpNil : VTP := fun e Q _ => Q [] e
def vpCons (fa fb : VT) (r : VTP) : VTP := fun e Q Qx => fa e (fun kd e1 => ∃ k, kd = kD k ∧ fb e1 (fun d e2 => r e2 (fun ps e3 => Q ((k, d) :: ps) e3) Qx) Qx) Qx
variable {trs : List (TE × TE)} {fp : VTP}
theorem vp_nil : VPs c W m [] vpNil := fun T σ e H Q Qv Qx ⟨fT, fV, hR⟩ hf hn hx => hn fT fV [] [] e H hR .nil (Post.refl _ _ _) hf
theorem vp_cons (ha : VE c W m ta .s fa) (hb : VE c W m tb .s fb) (hr : VPs c W m trs fp) : VPs c W m ((ta, tb) :: trs) (vpCons fa fb fp) := fun T σ e H Q Qv Qx hR hf hn hx => by
  refine ha T σ e H _ _ Qx hR hf (fun x dx e1 H1 R1 P1 ⟨k, ek, h1⟩ => ?_) hx
  subst ek
  have ex : x = kV k := by
    obtain ⟨fT, fV, X1⟩ := R1
    exact X1.topS.1.b.key
  refine hb T σ e1 H1 _ _ Qx R1.pop h1 (fun y dy e2 H2 R2 P2 h2 => ?_) hx
  refine hr _ σ e2 H2 _ _ Qx R2 h2 (fun fT fV ps kds e3 H3 X3 rs P3 h3 => ?_) (fun xn d e' H' R' X' q' => hx xn d e' H' R'.pop X' q')
  obtain ⟨ry, X3⟩ := X3.topS
  exact hn fT fV _ _ e3 H3 X3 (.cons ⟨ex, ry⟩ rs) (P1.trans (P2.trans P3)) h3
def ndK (ks : List Key) : Bool := decide ks.Nodup
def vDisp (fp : VTP) : VT := fun e Q Qx => fp e (fun kd e1 => ndK (kd.map (·.1)) = true ∧ kd.length ≤ 15 ∧ Q (.dct (kd.map (·.1)) (kd.map (·.2))) e1) Qx
theorem merge_nodup : ∀ (kvs acc : List (Key × V)), ((acc ++ kvs).map (·.1)).Nodup → mergeK acc kvs = acc ++ kvs
  | [], acc, _ => by simp [mergeK]
  | kv :: kvs, acc, h => by
    have hk : (acc.any fun z => decide (z.1 = kv.1)) = false := by
      rw [List.any_eq_false]
      intro z hz
      simp only [decide_eq_true_eq]
      intro e
      rw [List.map_append, List.nodup_append] at h
      exact h.2.2 z.1 (List.mem_map_of_mem hz) kv.1 (List.mem_map_of_mem List.mem_cons_self) e
    have e : putK acc kv.1 kv.2 = acc ++ [kv] := by
      unfold putK
      rw [hk]
      simp
    show mergeK (putK acc kv.1 kv.2) kvs = _
    rw [e, merge_nodup kvs (acc ++ [kv]) (by simpa using h)]
    simp
theorem v_disp (hp : VPs c W m trs fp) : VE c W m (tDisp trs) (.d fun _ => .s) (vDisp fp) := fun T σ e H Q Qv Qx hR hf hn hx => by
  intro p np
  obtain ⟨fT0, fV0, X0⟩ := hR
  have X1 : RX c ([p] ++ fT0) fV0 ((.d fun _ => .s, .ref p, .dct [] []) :: T) σ e (upd H p (.dK [])) := X0.pushO (same_new np) (by simp) (fun a z => by rw [List.mem_singleton.mp z]; exact np) (by
    simp only [RO]
    exact ⟨p, [], [], rfl, upd_same, rfl, by simp only [ROs, List.map_nil]; exact ⟨trivial, trivial, trivial⟩, rfl⟩)
  refine hp _ σ e _ _ _ Qx ⟨_, _, X1⟩ hf (fun fT fV ps kds e1 H1 X2 rs P q => ?_) (fun xn d e' H' R' X' q' => hx xn d e' H' R'.pop X' q')
  obtain ⟨nd, h15, q⟩ := q
  have nd : (kds.map (·.1)).Nodup := of_decide_eq_true nd
  obtain ⟨fpp, fT', e1', ro, nf, k⟩ := X2.updT
  simp only [RO] at ro
  obtain ⟨a, vs, fps, ea, ha, hl, t, rfl⟩ := ro
  cases ea
  simp only [ROs, List.map_nil] at t
  obtain ⟨-, rfl, rfl⟩ := t
  have ha : H1 p = some (.dK []) := ha
  -- the pairs
  have key : ∀ (kd : List (Key × D)) (ps : List (V × V)), Paired (fun (k : Key × D) (p : V × V) => p.1 = kV k.1 ∧ RS c.K (owOf c fT fV) H1 k.2 p.2) kd ps → ∃ ws, ps = ((kd.map (·.1)).zip ws).map (fun kv => (kV kv.1, kv.2)) ∧ RSs c.K (owOf c fT fV) H1 (kd.map (·.2)) ws := fun kd => by
    induction kd with
    | nil =>
      intro ps h
      cases h
      exact ⟨[], rfl, .nil⟩
    | cons z kd ih =>
      intro ps h
      cases h with
      | cons h1 h2 =>
        rename_i y ys
        obtain ⟨ws, e, r⟩ := ih _ h2
        refine ⟨y.2 :: ws, ?_, .cons h1.2 r⟩
        rw [List.map_cons, List.zip_cons_cons, List.map_cons, ← e, ← h1.1]
  obtain ⟨ws, eps, rws⟩ := key kds ps rs
  have lw := rws.len
  rw [List.length_map] at lw
  refine ⟨ha, (kds.map (·.1)).zip ws, eps, by rw [List.length_zip, List.length_map, lw, Nat.min_self]; exact h15, ?_⟩
  have em : mergeK [] ((kds.map (·.1)).zip ws) = (kds.map (·.1)).zip ws := by
    rw [merge_nodup _ [] (by
      rw [List.nil_append, List.map_fst_zip (by rw [List.length_map, lw]; exact Nat.le_refl _)]
      exact nd)]
    rfl
  rw [em]
  have nfx : ∀ u, H1 p = some u → ¬ Fx u := fun u z => by rw [ha] at z; cases z; exact id
  refine hn _ _ e1 _ ⟨_, fV, k (upd H1 p (.dK ((kds.map (·.1)).zip ws))) (.dct (kds.map (·.1)) (kds.map (·.2))) [p] (fun b o z n => ?_) (ExtT.upd nfx) al_upd (by simp) (fun b z => .inl z) fun ow' how => ?_⟩ (fun z => ?_) q
  · rw [upd_ne (fun y => n (by rw [y]; exact List.mem_singleton_self p))]
    exact z
  · have F : Fr (owOf c fT fV) H1 (upd H1 p (.dK ((kds.map (·.1)).zip ws))) := ⟨fun b o z n => by
      rw [upd_ne (fun y => n (.inl (by rw [y, e1']; simp)))]
      exact z, ExtT.upd nfx⟩
    have r' := RSs.fr F how _ _ rws
    simp only [RO]
    refine ⟨p, ws, [], rfl, upd_same, by rw [List.length_map, lw], ?_, rfl⟩
    have z := ROs_s.mpr ⟨rfl, r'⟩
    have e : (kds.map (·.1)).map (fun _ => Sh.s) = (kds.map (·.2)).map fun _ => Sh.s := by simp [List.map_map, Function.comp_def]
    rw [e]
    exact z
  · intro b o eb
    rw [upd_ne (ne_of_none eb np)]
    exact P z b o (same_new np b o eb)
/-! methods of texts and lists -/
def MtD (K : PySem.W.Frag) (r : V → List V → Hp → VK → Prop) (g : D → D → (D → Prop) → Prop) : Prop := ∀ (ow : Addr → Prop) (H : Hp) (x y : V) (dx dy : D) (Q : VK) (Qd : D → Prop), RB K ow H dx x → RB K ow H dy y → g dx dy Qd → (∀ z v, RS K ow H z v → Qd z → Q v H) → r x [y] H Q
def isStr : D → Prop
  | .str _ => True
  | _ => False
def vM1 (g : G2) (fa fb : VT) : VT := fun e Q Qx => fa e (fun x e1 => isStr x ∧ fb e1 (fun y e2 => g x y fun z => Q z e2) Qx) Qx
theorem RX.str {fT fV : List Addr} {T : List Tm} {σ : L2.St} {e : Env} {H : Hp} {x : V} {d : D} (h : RX c fT fV ((.s, x, d) :: T) σ e H) (i : isStr d) : ∃ a, x = .str a := by
  cases d <;> first | exact i.elim | skip
  exact ⟨_, h.topS.1.b.str⟩
theorem v_m1 {r : V → List V → Hp → VK → Prop} {g : G2} (ha : VE c W m ta .s fa) (hb : VE c W m tb .s fb) (ho : MtD c.K r g) : VE c W m (tM1 r ta tb) .s (vM1 g fa fb) := fun T σ e H Q Qv Qx hR hf hn hx => by
  refine ha T σ e H _ _ Qx hR hf (fun x dx e1 H1 R1 P1 ⟨i, h1⟩ => ?_) hx
  obtain ⟨fT, fV, X1⟩ := R1
  refine ⟨X1.str i, hb ((.s, x, dx) :: T) σ e1 H1 _ _ Qx ⟨fT, fV, X1⟩ h1 (fun y dy e2 H2 R2 P2 q => ?_) (fun xn d e' H' R' X' q' => hx xn d e' H' R'.pop X' q')⟩
  obtain ⟨gT, gV, X2⟩ := R2
  obtain ⟨ry, X2⟩ := X2.topS
  obtain ⟨rx, X2⟩ := X2.topS
  exact ho _ H2 x y dx dy Q _ rx.b ry.b q fun z v rz qz => hn v z e2 H2 ⟨gT, gV, X2.pushS rz⟩ (P1.trans P2) qz
def gJoin : G2
  | .str a, .lst l, Q => ∃ ys : List Str, l = ys.map D.str ∧ (ys.map (·.length)).sum + ys.length * a.length ≤ 16777216 ∧ Q (.str (Txt.join a ys))
  | .str a, .tup l, Q => ∃ ys : List Str, l = ys.map D.str ∧ (ys.map (·.length)).sum + ys.length * a.length ≤ 16777216 ∧ Q (.str (Txt.join a ys))
  | _, _, _ => False
theorem RSs.strs {K : PySem.W.Frag} {ow : Addr → Prop} {H : Hp} {ns : List Str} {vs : List V} (h : RSs K ow H (ns.map D.str) vs) : vs = ns.map V.str := by
  rw [h.sc (by
    rw [List.all_eq_true]
    intro d hd
    obtain ⟨n, _, rfl⟩ := List.mem_map.mp hd
    rfl), List.map_map]
  rfl
theorem md_join {K : PySem.W.Frag} : MtD K (fun x xs H Q => ∃ a p, ∃ ys : List Str, x = .str a ∧ xs = [.ref p] ∧ (SqL K H p (ys.map V.str) ∨ SqT K H p (ys.map V.str)) ∧ (ys.map (·.length)).sum + ys.length * a.length ≤ 16777216 ∧ Q (.str (Txt.join a ys)) H) gJoin := fun ow H x y dx dy Q Qd rx ry hg hn => by
  cases dx <;> first | exact hg.elim | skip
  cases dy <;> first | exact hg.elim | skip
  · obtain ⟨ys, rfl, hz, q⟩ := hg
    obtain ⟨a, vs, rfl, s, r⟩ := ry.tup
    have e := r.strs
    subst e
    exact ⟨_, a, ys, rx.str, rfl, .inr s, hz, hn _ _ rs_str q⟩
  · obtain ⟨ys, rfl, hz, q⟩ := hg
    obtain ⟨a, vs, rfl, s, r⟩ := ry.lst
    have e := r.strs
    subst e
    exact ⟨_, a, ys, rx.str, rfl, .inl s.sq, hz, hn _ _ rs_str q⟩
theorem v_join (ha : VE c W m ta .s fa) (hb : VE c W m tb .s fb) : VE c W m (tM1 (fun x xs H Q => ∃ a p, ∃ ys : List Str, x = .str a ∧ xs = [.ref p] ∧ (SqL c.K H p (ys.map V.str) ∨ SqT c.K H p (ys.map V.str)) ∧ (ys.map (·.length)).sum + ys.length * a.length ≤ 16777216 ∧ Q (.str (Txt.join a ys)) H) ta tb) .s (vM1 gJoin fa fb) := v_m1 ha hb md_join
def vSplit (fa fb : VT) : VT := fun e Q Qx => fa e (fun x e1 => isStr x ∧ fb e1 (fun y e2 => ∃ a b, x = .str a ∧ y = .str b ∧ (b.length == 0) = false ∧ a.length + 2 ≤ sizeLine ∧ Q (.lst ((Txt.split a b).map D.str)) e2) Qx) Qx
theorem rs_strs {K : PySem.W.Frag} {ow : Addr → Prop} {H : Hp} : ∀ ys : List Str, RSs K ow H (ys.map D.str) (ys.map V.str)
  | [] => .nil
  | y :: ys => .cons rs_str (rs_strs ys)
theorem v_split (ha : VE c W m ta .s fa) (hb : VE c W m tb .s fb) : VE c W m (tM1 (fun x xs H Q => ∃ a b, x = .str a ∧ xs = [.str b] ∧ (b.length == 0) = false ∧ a.length + 2 ≤ sizeLine ∧ rNewStrs (Txt.split a b) H Q) ta tb) (.l .s) (vSplit fa fb) := fun T σ e H Q Qv Qx hR hf hn hx => by
  refine ha T σ e H _ _ Qx hR hf (fun x dx e1 H1 R1 P1 ⟨i, h1⟩ => ?_) hx
  obtain ⟨fT, fV, X1⟩ := R1
  refine ⟨X1.str i, hb ((.s, x, dx) :: T) σ e1 H1 _ _ Qx ⟨fT, fV, X1⟩ h1 (fun y dy e2 H2 R2 P2 ⟨a, b, ea, eb, hz, hl, q⟩ => ?_) (fun xn d e' H' R' X' q' => hx xn d e' H' R'.pop X' q')⟩
  subst ea eb
  obtain ⟨gT, gV, X2⟩ := R2
  obtain ⟨ry, X2⟩ := X2.topS
  obtain ⟨rx, X2⟩ := X2.topS
  exact ⟨a, b, rx.b.str, by rw [ry.b.str], hz, hl, fun p np => hn _ _ e2 _ (X2.newL np (rs_strs _)) (P1.trans (P2.trans (Post.same (same_new np)))) q⟩
def vIndexD (fa fb : VT) : VT := fun e Q Qx => fa e (fun x e1 => ∃ l, x = .lst l ∧ fb e1 (fun y e2 => plains l = true ∧ plain y = true ∧ SeqAt.shaped (.list (pys l)) = true ∧ SeqAt.shaped (py y) = true ∧ ∃ (j : Nat) (z : PyData), (pys l)[j]? = some z ∧ PyData.eqv z (py y) = true ∧
  (∀ (k : Nat) (z' : PyData), k < j → (pys l)[k]? = some z' → PyData.eqv z' (py y) = false) ∧ Q (.int (j : Nat)) e2) Qx) Qx
theorem v_indexD (ha : VE c W m ta .s fa) (hb : VE c W m tb .s fb) : VE c W m (tBM c.K "list" (rIndexD c.K) ta (tCons tb tNil)) .s (vIndexD fa fb) := fun T σ e H Q Qv Qx hR hf hn hx => by
  refine ha T σ e H _ _ Qx hR hf (fun x dx e1 H1 R1 P1 ⟨l, ex, h1⟩ => ?_) hx
  subst ex
  obtain ⟨fT, fV, X1⟩ := R1
  obtain ⟨rx, _⟩ := X1.topS
  obtain ⟨a, vs, ea, s, r⟩ := rx.b.lst
  subst ea
  refine ⟨.inl ⟨rfl, vs, s.sq⟩, hb ((.s, .ref a, .lst l) :: T) σ e1 H1 _ _ Qx ⟨fT, fV, X1⟩ h1 (fun y dy e2 H2 R2 P2 ⟨g1, g2, g3, g4, j, z, g5, g6, g7, q⟩ => ?_) (fun xn d e' H' R' X' q' => hx xn d e' H' R'.pop X' q')⟩
  obtain ⟨gT, gV, X2⟩ := R2
  obtain ⟨ry, X2⟩ := X2.topS
  obtain ⟨rx, X2⟩ := X2.topS
  have dl := rx.b.dp (by simpa only [plain] using g1)
  rw [py] at dl
  exact ⟨a, y, _, _, j, z, rfl, rfl, dl, ry.b.dp g2, g3, g4, g5, g6, g7, hn _ _ e2 H2 ⟨gT, gV, X2.pushS rs_int⟩ (P1.trans P2) q⟩
end
end VL
set_option Elab.async false
set_option linter.all false
set_option maxRecDepth 100000
set_option maxHeartbeats 2000000
namespace VL
open PySem PySem.Spec PyProof.Rows L2
/-! ### readings, opened -/
section
variable {i j n : Nat} {f g h : VTS} {fa fb fc fd : VT} {ft gt : VTB} {fA : VTA} {fl fh : VTO} {fi : VTI} {vg : VTG} {vgs : VTGs} {e : Env} {Q : QV} {QB : Bool → Env → Prop} {QA : List D → Env → Prop} {QO : Option Int → Env → Prop} {Qx : QX} {U : VEnds} {QE : Env → Prop} {d x y : D} {l : List D}
@[simp] theorem s_seq : vSeq f g U e = f { U with nx := g U } e := rfl
@[simp] theorem s_next : vNext U e = U.nx e := rfl
@[simp] theorem s_break : vBreak U e = U.bk e := rfl
@[simp] theorem s_cont : vCont U e = U.ct e := rfl
@[simp] theorem s_set : vSet i fa U e = fa e (fun d e1 => U.nx (e1.set i (some d))) U.ex := rfl
@[simp] theorem s_ret : vRet fa U e = fa e U.rt U.ex := rfl
@[simp] theorem s_retN : vRetN U e = U.rt .non e := rfl
@[simp] theorem s_drop : vDrop fa U e = fa e (fun _ e1 => U.nx e1) U.ex := rfl
@[simp] theorem s_ifS : vIfS ft f g U e = ft e (fun b e1 => if b = true then f U e1 else g U e1) U.ex := rfl
@[simp] theorem s_for : vFor fi vg f U e = fi e (fun ds e1 => vForL vg f U ds e1) U.ex := rfl
@[simp] theorem s_asg : vAsg fa vg U e = fa e (fun d e1 => vg d e1 U.nx) U.ex := rfl
@[simp] theorem s_par : vPar i j fA U e = fA e (fun ds e1 => ∃ a b, ds = [a, b] ∧ U.nx ((e1.set i (some a)).set j (some b))) U.ex := rfl
@[simp] theorem s_var : vVar i e Q Qx = ∃ d, e[i]? = some (some d) ∧ Q d e := rfl
@[simp] theorem s_c : vC d e Q Qx = Q d e := rfl
@[simp] theorem s_op2 {g : G2} : vOp2 g fa fb e Q Qx = fa e (fun x e1 => fb e1 (fun y e2 => g x y fun z => Q z e2) Qx) Qx := rfl
@[simp] theorem s_op2L {g : G2L} : vOp2L g fa fb e Q Qx = fa e (fun x e1 => fb e1 (fun y e2 => g x y fun z => Q (.lst z) e2) Qx) Qx := rfl
@[simp] theorem s_op2T {g : G2L} : vOp2T g fa fb e Q Qx = fa e (fun x e1 => fb e1 (fun y e2 => g x y fun z => Q (.tup z) e2) Qx) Qx := rfl
@[simp] theorem s_ca {g : GA} : vCa g fA e Q Qx = fA e (fun xs e1 => g xs fun z => Q z e1) Qx := rfl
@[simp] theorem s_caL {g : GAL} : vCaL g fA e Q Qx = fA e (fun xs e1 => g xs fun z => Q (.lst z) e1) Qx := rfl
@[simp] theorem s_caT {g : GAL} : vCaT g fA e Q Qx = fA e (fun xs e1 => g xs fun z => Q (.tup z) e1) Qx := rfl
@[simp] theorem s_nil : vNil e QA Qx = QA [] e := rfl
@[simp] theorem s_cons : vCons fa fA e QA Qx = fa e (fun x e1 => fA e1 (fun xs e2 => QA (x :: xs) e2) Qx) Qx := rfl
@[simp] theorem s_tup : vTup fA e Q Qx = fA e (fun xs e1 => xs.length ≤ sizeLine ∧ Q (.tup xs) e1) Qx := rfl
@[simp] theorem s_lst : vLst fA e Q Qx = fA e (fun xs e1 => xs.length ≤ sizeLine ∧ Q (.lst xs) e1) Qx := rfl
@[simp] theorem s_test : vTest fa e QB Qx = fa e (fun d e1 => ∃ b, d = .bl b ∧ QB b e1) Qx := rfl
@[simp] theorem s_and : vAnd ft gt e QB Qx = ft e (fun b e1 => if b = true then gt e1 QB Qx else QB false e1) Qx := rfl
@[simp] theorem s_or : vOr ft gt e QB Qx = ft e (fun b e1 => if b = true then QB true e1 else gt e1 QB Qx) Qx := rfl
@[simp] theorem s_not : vNot ft e QB Qx = ft e (fun b e1 => QB (!b) e1) Qx := rfl
@[simp] theorem s_if : vIf ft fa fb e Q Qx = ft e (fun b e1 => if b = true then fa e1 Q Qx else fb e1 Q Qx) Qx := rfl
@[simp] theorem s_andV : vAndV fa fb e Q Qx = fa e (fun x e1 => ∃ b, x = .bl b ∧ if b = true then fb e1 Q Qx else Q (.bl false) e1) Qx := rfl
@[simp] theorem s_orV : vOrV fa fb e Q Qx = fa e (fun x e1 => ∃ b, x = .bl b ∧ if b = true then Q (.bl true) e1 else fb e1 Q Qx) Qx := rfl
@[simp] theorem s_notV : vNotV fa e Q Qx = fa e (fun x e1 => ∃ b, x = .bl b ∧ Q (.bl (!b)) e1) Qx := rfl
@[simp] theorem s_no : vNo e QO Qx = QO none e := rfl
@[simp] theorem s_part : vPart fa e QO Qx = fa e (fun d e1 => ∃ i, d = .int i ∧ QO (some i) e1) Qx := rfl
@[simp] theorem s_sl {g : D → Option Int → Option Int → (D → Prop) → Prop} : vSl g fa fl fh e Q Qx = fa e (fun x e1 => fl e1 (fun lo e2 => fh e2 (fun hi e3 => g x lo hi fun z => Q z e3) Qx) Qx) Qx := rfl
@[simp] theorem s_slL {g : D → Option Int → Option Int → (List D → Prop) → Prop} : vSlL g fa fl fh e Q Qx = fa e (fun x e1 => fl e1 (fun lo e2 => fh e2 (fun hi e3 => g x lo hi fun z => Q (.lst z) e3) Qx) Qx) Qx := rfl
@[simp] theorem s_slT {g : D → Option Int → Option Int → (List D → Prop) → Prop} : vSlT g fa fl fh e Q Qx = fa e (fun x e1 => fl e1 (fun lo e2 => fh e2 (fun hi e3 => g x lo hi fun z => Q (.tup z) e3) Qx) Qx) Qx := rfl
@[simp] theorem s_ls : vLs fa e QA Qx = fa e (fun d e1 => ∃ l, d = .lst l ∧ QA l e1) Qx := rfl
@[simp] theorem s_ts : vTs fa e QA Qx = fa e (fun d e1 => ∃ l, d = .tup l ∧ QA l e1) Qx := rfl
@[simp] theorem s_sgs : vSgs fa e QA Qx = fa e (fun d e1 => ∃ z, d = .str z ∧ QA (sgD z) e1) Qx := rfl
@[simp] theorem s_rng1 : vRng1 fA e QA Qx = fA e (fun ds e1 => ∃ j : Int, ds = [.int j] ∧ -(2 ^ 62) ≤ j ∧ j < 2 ^ 62 ∧ QA (rngD 0 j.toNat) e1) Qx := rfl
@[simp] theorem s_rng2 : vRng2 fA e QA Qx = fA e (fun ds e1 => ∃ i j : Int, ds = [.int i, .int j] ∧ (-(2 ^ 62) ≤ i ∧ i < 2 ^ 62 ∧ -(2 ^ 62) ≤ j ∧ j < 2 ^ 62) ∧ QA (rngD i (j - i).toNat) e1) Qx := rfl
@[simp] theorem s_gName : vgName i d e QE = QE (e.set i (some d)) := rfl
@[simp] theorem s_gNil : vgNil l e QE = (l = [] ∧ QE e) := rfl
@[simp] theorem s_gCons : vgCons vg vgs (d :: l) e QE = vg d e fun e1 => vgs l e1 QE := rfl
@[simp] theorem s_gTup : vgTup n vgs (.tup l) e QE = (l.length = n ∧ vgs l e QE) := rfl
theorem s_forNil : vForL vg f U [] e = U.nx e := rfl
theorem s_forCons : vForL vg f U (d :: l) e = vg d e fun e1 => f { U with nx := vForL vg f U l, ct := vForL vg f U l, bk := U.nx } e1 := rfl
@[simp] theorem s_lc {vs : List Nat} : vLc fi vs vg ft fa e Q Qx = fi e (fun ds e1 => vLcL vs vg ft fa (fun acc e2 => Q (.lst acc) e2) ds [] (wipeE e1 vs)) Qx := rfl
theorem s_lcNil {vs : List Nat} {acc : List D} : vLcL vs vg ft fa QA [] acc e = QA acc e := rfl
theorem s_lcCons {vs : List Nat} {acc : List D} : vLcL vs vg ft fa QA (d :: l) acc e = vg d e fun e1 => ft e1 (fun b e2 => if b = true then fa e2 (fun y e3 => acc.length < sizeLine ∧ vLcL vs vg ft fa QA l (acc ++ [y]) (wipeE e3 vs)) (fun _ _ => False) else vLcL vs vg ft fa QA l acc (wipeE e2 vs)) (fun _ _ => False) := rfl
@[simp] theorem s_yes : vYes e QB Qx = QB true e := rfl
@[simp] theorem s_append : vAppend i fa e Q Qx = ((∃ l, e[i]? = some (some (.lst l))) ∧ fa e (fun d e1 => ∃ l, e1[i]? = some (some (.lst l)) ∧ l.length < sizeLine ∧ Q .non (e1.set i (some (.lst (l ++ [d]))))) Qx) := rfl
@[simp] theorem s_call {sp : VSp} : vCall n sp fA e Q Qx = fA e (fun ds e1 => ds.length = n ∧ sp ds (fun r _ => Q r e1) fun _ _ => False) Qx := rfl
@[simp] theorem s_dget : vDGet fd fa e Q Qx = fd e (fun x e1 => fa e1 (fun y e2 => gDGet x y fun z => Q z e2) Qx) Qx := rfl
@[simp] theorem s_get2 : vGet2 fd fa fb e Q Qx = fd e (fun x e1 => (∃ ks l, x = .dct ks l) ∧ fa e1 (fun y e2 => fb e2 (fun z e3 => gGet2 x y z fun r => Q r e3) Qx) Qx) Qx := rfl
@[simp] theorem s_pNil {QP : List (Key × D) → Env → Prop} : vpNil e QP Qx = QP [] e := rfl
@[simp] theorem s_pCons {QP : List (Key × D) → Env → Prop} {r : VTP} : vpCons fa fb r e QP Qx = fa e (fun kd e1 => ∃ k, kd = kD k ∧ fb e1 (fun d e2 => r e2 (fun ps e3 => QP ((k, d) :: ps) e3) Qx) Qx) Qx := rfl
@[simp] theorem s_disp {fp : VTP} : vDisp fp e Q Qx = fp e (fun kd e1 => ndK (kd.map (·.1)) = true ∧ kd.length ≤ 15 ∧ Q (.dct (kd.map (·.1)) (kd.map (·.2))) e1) Qx := rfl
@[simp] theorem s_m1 {g : G2} : vM1 g fa fb e Q Qx = fa e (fun x e1 => isStr x ∧ fb e1 (fun y e2 => g x y fun z => Q z e2) Qx) Qx := rfl
@[simp] theorem s_split : vSplit fa fb e Q Qx = fa e (fun x e1 => isStr x ∧ fb e1 (fun y e2 => ∃ a b, x = .str a ∧ y = .str b ∧ (b.length == 0) = false ∧ a.length + 2 ≤ sizeLine ∧ Q (.lst ((Txt.split a b).map D.str)) e2) Qx) Qx := rfl
@[simp] theorem s_indexD : vIndexD fa fb e Q Qx = fa e (fun x e1 => ∃ l, x = .lst l ∧ fb e1 (fun y e2 => plains l = true ∧ plain y = true ∧ SeqAt.shaped (.list (pys l)) = true ∧ SeqAt.shaped (py y) = true ∧ ∃ (j : Nat) (z : PyData), (pys l)[j]? = some z ∧ PyData.eqv z (py y) = true ∧
  (∀ (k : Nat) (z' : PyData), k < j → (pys l)[k]? = some z' → PyData.eqv z' (py y) = false) ∧ Q (.int (j : Nat)) e2) Qx) Qx := rfl
@[simp] theorem s_w1 : wipeE e [i] = e.set i none := rfl
@[simp] theorem s_w2 : wipeE e [i, j] = (e.set j none).set i none := rfl
@[simp] theorem s_isStr {z : Str} : isStr (.str z) = True := rfl
end
section
variable {Q : D → Prop} {QL : List D → Prop} {i j : Int} {a b : Str} {p q : Bool} {l l2 : List D} {x : D} {lo hi : Option Int}
@[simp] theorem s_gI {C : Int → Int → Prop} {h : Int → Int → D} : gI C h (.int i) (.int j) Q = (C i j ∧ Q (h i j)) := rfl
@[simp] theorem s_gI0 {h : Int → Int → D} : gI0 h (.int i) (.int j) Q = Q (h i j) := rfl
@[simp] theorem s_gAddS : gAddS (.str a) (.str b) Q = (a.length + b.length ≤ sizeLine ∧ Q (.str (a ++ b))) := rfl
@[simp] theorem s_gS {p : Str → Str → Bool} : gS p (.str a) (.str b) Q = Q (.bl (p a b)) := rfl
@[simp] theorem s_gSg {p : Nat → Str → Bool} : gSg p (.str a) (.str b) Q = ∃ c, a = ⟨#[c]⟩ ∧ Q (.bl (p c b)) := rfl
@[simp] theorem s_gEqI : gEq (.int i) (.int j) Q = Q (.bl (decide (i = j))) := by simp [gEq, scalD, isSc, scV, scal, eqD]
@[simp] theorem s_gEqS : gEq (.str a) (.str b) Q = Q (.bl (decide (a = b))) := by simp [gEq, scalD, isSc, scV, scal, eqD]
@[simp] theorem s_gEqB : gEq (.bl p) (.bl q) Q = Q (.bl (decide (p = q))) := by simp [gEq, scalD, isSc, scV, scal, eqD]
@[simp] theorem s_gEqNI : gEq .non (.int j) Q = Q (.bl false) := by simp [gEq, scalD, isSc, scV, scal, eqD]
@[simp] theorem s_gEqIS : gEq (.int i) (.str b) Q = Q (.bl false) := by simp [gEq, scalD, isSc, scV, scal, eqD]
@[simp] theorem s_gEqSI : gEq (.str a) (.int j) Q = Q (.bl false) := by simp [gEq, scalD, isSc, scV, scal, eqD]
@[simp] theorem s_gNeI : gNe (.int i) (.int j) Q = Q (.bl (!decide (i = j))) := by simp [gNe, scalD, isSc, scV, scal, eqD]
@[simp] theorem s_gNeS : gNe (.str a) (.str b) Q = Q (.bl (!decide (a = b))) := by simp [gNe, scalD, isSc, scV, scal, eqD]
@[simp] theorem s_gIsN : gIsN x .non Q = Q (.bl (isNon x)) := by simp only [gIsN]
@[simp] theorem s_gNotN : gNotN x .non Q = Q (.bl (!isNon x)) := by simp only [gNotN]
@[simp] theorem s_isNon0 : isNon .non = true := rfl
@[simp] theorem s_isNonI : isNon (.int i) = false := rfl
@[simp] theorem s_isNonS : isNon (.str a) = false := rfl
@[simp] theorem s_isNonT : isNon (.tup l) = false := rfl
@[simp] theorem s_isNonL : isNon (.lst l) = false := rfl
@[simp] theorem s_gIxL : gIxL (.lst l) (.int i) Q = ∃ d, atI l i = some d ∧ Q d := rfl
@[simp] theorem s_gIxT : gIxT (.tup l) (.int i) Q = ∃ d, atI l i = some d ∧ Q d := rfl
@[simp] theorem s_gIxS : gIxS (.str a) (.int i) Q = (a.length ≤ sizeLine ∧ ∃ c, atI a.cps.toList i = some c ∧ Q (.str ⟨#[c]⟩)) := rfl
@[simp] theorem s_gInL {neg : Bool} : gIn neg x (.lst l) Q = (isSc x = true ∧ l.all isSc = true ∧ Q (.bl (if neg then !inV (scV x) (l.map scV) else inV (scV x) (l.map scV)))) := by simp only [gIn]
@[simp] theorem s_gInT {neg : Bool} : gIn neg x (.tup l) Q = (isSc x = true ∧ l.all isSc = true ∧ Q (.bl (if neg then !inV (scV x) (l.map scV) else inV (scV x) (l.map scV)))) := by simp only [gIn]
@[simp] theorem s_gInD {neg : Bool} : gInD neg x (.lst l) Q = (plain x = true ∧ plains l = true ∧ SeqAt.shaped (py x) = true ∧ SeqAt.shaped (.list (pys l)) = true ∧ Q (.bl (if neg then !(pys l).any fun z => PyData.eqv z (py x) else (pys l).any fun z => PyData.eqv z (py x)))) := by simp only [gInD]
@[simp] theorem s_gCat : gCat (.lst l) (.lst l2) QL = (l.length + l2.length ≤ sizeLine ∧ QL (l ++ l2)) := rfl
@[simp] theorem s_gCatT : gCatT (.tup l) (.tup l2) QL = (l.length + l2.length ≤ sizeLine ∧ QL (l ++ l2)) := rfl
@[simp] theorem s_gSlL : gSlL (.lst l) lo hi QL = QL (cuD l lo hi) := rfl
@[simp] theorem s_gSlT : gSlT (.tup l) lo hi QL = QL (cuD l lo hi) := rfl
@[simp] theorem s_gSlS : gSlS (.str a) lo hi Q = (a.length ≤ sizeLine ∧ Q (.str (cutS a lo hi))) := rfl
@[simp] theorem s_gLenL : gLen [.lst l] Q = Q (.int l.length) := rfl
@[simp] theorem s_gLenT : gLen [.tup l] Q = Q (.int l.length) := rfl
@[simp] theorem s_gLenS : gLenS [.str a] Q = (a.length ≤ sizeLine ∧ Q (.int a.length)) := rfl
@[simp] theorem s_gSum : gSum [.lst l] Q = ∃ ns : List Int, l = ns.map D.int ∧ Q (.int ns.sum) := rfl
@[simp] theorem s_gI2 {h : Int → Int → D} : gI2 h [.int i, .int j] Q = Q (h i j) := rfl
@[simp] theorem s_gInt1 : gInt1 [.int i] Q = Q (.int i) := rfl
@[simp] theorem s_gInt1b : gInt1 [.bl p] Q = Q (.int (if p then 1 else 0)) := rfl
@[simp] theorem s_gStrI : gStrI [.int i] Q = (i.natAbs.log2 < 1920 ∧ Q (.str (toString i))) := rfl
@[simp] theorem s_gAll : gAll [.lst l] Q = ∃ bs : List Bool, l = bs.map D.bl ∧ Q (.bl (bs.all id)) := rfl
@[simp] theorem s_gSeqL : gSeq [.lst l] QL = QL l := rfl
@[simp] theorem s_gSeqT : gSeq [.tup l] QL = QL l := rfl
@[simp] theorem s_gDGet {ks : List Key} : gDGet (.dct ks l) x Q = ∃ k d, x = kD k ∧ getK ks l k = some d ∧ Q d := rfl
@[simp] theorem s_gGet2 {ks : List Key} {y : D} : gGet2 (.dct ks l) x y Q = ∃ k, x = kD k ∧ Q ((getK ks l k).getD y) := rfl
@[simp] theorem s_kDs {k : Key} : (D.str a = kD k) = (k = .inr a) := by
  cases k <;> simp [kD, eq_comm]
@[simp] theorem s_kDi {k : Key} : (D.int i = kD k) = (k = .inl i) := by
  cases k <;> simp [kD, eq_comm]
@[simp] theorem s_ioN {e : Env} : ioP [] e = [] := by simp only [ioP]
@[simp] theorem s_ioS {M : List Sh} {y : Option D} {e : Env} : ioP (.s :: M) (y :: e) = none :: ioP M e := by simp only [ioP]
@[simp] theorem s_ioL {M : List Sh} {s : Sh} {y : Option D} {e : Env} : ioP (.l s :: M) (y :: e) = y :: ioP M e := by simp only [ioP]
@[simp] theorem s_ioD {M : List Sh} {s : Key → Sh} {y : Option D} {e : Env} : ioP (.d s :: M) (y :: e) = y :: ioP M e := by simp only [ioP]
@[simp] theorem s_ioO {M : List Sh} {s : Str → Sh} {y : Option D} {e : Env} : ioP (.o s :: M) (y :: e) = y :: ioP M e := by simp only [ioP]
@[simp] theorem s_nones0 : nones [] = [] := rfl
@[simp] theorem s_nones1 {s : Sh} {M : List Sh} : nones (s :: M) = none :: nones M := rfl
end
/-! places in a list -/
@[simp] theorem atI_0 {α : Type} {a : α} {r : List α} : atI (a :: r) 0 = some a := by simp [atI, ixN]
theorem atI_n {α : Type} {l : List α} {n : Nat} : atI l (n : Int) = l[n]? := by
  unfold atI ixN
  by_cases h : n < l.length
  · rw [if_pos (by omega), if_pos (by omega)]
    rfl
  · rw [if_pos (by omega), if_neg (by omega), List.getElem?_eq_none (by omega)]
    rfl
@[simp] theorem atI_1 {α : Type} {a b : α} {r : List α} : atI (a :: b :: r) 1 = some b := by
  have h : ((1 : Int)) = ((1 : Nat) : Int) := rfl
  rw [h, atI_n]
  rfl
@[simp] theorem atI_2 {α : Type} {a b c : α} {r : List α} : atI (a :: b :: c :: r) 2 = some c := by
  have h : ((2 : Int)) = ((2 : Nat) : Int) := rfl
  rw [h, atI_n]
  rfl
@[simp] theorem atI_3 {α : Type} {a b c d : α} {r : List α} : atI (a :: b :: c :: d :: r) 3 = some d := by
  have h : ((3 : Int)) = ((3 : Nat) : Int) := rfl
  rw [h, atI_n]
  rfl
@[simp] theorem atI_4 {α : Type} {a b c d e : α} {r : List α} : atI (a :: b :: c :: d :: e :: r) 4 = some e := by
  have h : ((4 : Int)) = ((4 : Nat) : Int) := rfl
  rw [h, atI_n]
  rfl
@[simp] theorem atI_5 {α : Type} {a b c d e f : α} {r : List α} : atI (a :: b :: c :: d :: e :: f :: r) 5 = some f := by
  have h : ((5 : Int)) = ((5 : Nat) : Int) := rfl
  rw [h, atI_n]
  rfl
theorem small {n : Nat} (h : n ≤ 100000) : n ≤ sizeLine := Nat.le_trans h (by decide)
theorem smallL {n : Nat} (h : n < 100000) : n < sizeLine := Nat.lt_of_lt_of_le h (by decide)
end VL
set_option Elab.async false
set_option linter.all false
set_option maxRecDepth 100000
set_option maxHeartbeats 2000000
namespace VL
open PySem PySem.Spec PyProof.Rows L2
/-! ### loops, closed -/
abbrev noX : QX := fun _ _ => False
theorem lc_map {vs : List Nat} {vg : VTG} {ft : VTB} {fe : VT} {Q : List D → Env → Prop} {e : Env} (g : D → D) : ∀ (ds acc : List D), acc.length + ds.length ≤ sizeLine →
    (∀ d ∈ ds, ∀ (A : D → Env → Prop) (B : Env → Prop), (∀ e3, wipeE e3 vs = e → A (g d) e3) → vg d e fun e1 => ft e1 (fun b e2 => if b = true then fe e2 A noX else B e2) noX) → Q (acc ++ ds.map g) e → vLcL vs vg ft fe Q ds acc e
  | [], acc, _, _, q => by simpa [vLcL] using q
  | d :: ds, acc, hl, h, q => by
    rw [List.length_cons] at hl
    rw [s_lcCons]
    refine h d List.mem_cons_self _ _ fun e3 he => ⟨by omega, ?_⟩
    rw [he]
    refine lc_map g ds (acc ++ [g d]) (by rw [List.length_append, List.length_singleton]; omega) (fun d' z => h d' (List.mem_cons_of_mem _ z)) ?_
    simpa using q
theorem lc_filter {vs : List Nat} {vg : VTG} {ft : VTB} {fe : VT} {Q : List D → Env → Prop} {e : Env} (p : D → Bool) (g : D → D) : ∀ (ds acc : List D), acc.length + ds.length ≤ sizeLine →
    (∀ d ∈ ds, ∀ (A : D → Env → Prop) (B : Env → Prop), (p d = true → ∀ e3, wipeE e3 vs = e → A (g d) e3) → (p d = false → ∀ e2, wipeE e2 vs = e → B e2) → vg d e fun e1 => ft e1 (fun b e2 => if b = true then fe e2 A noX else B e2) noX) → Q (acc ++ (ds.filter p).map g) e → vLcL vs vg ft fe Q ds acc e
  | [], acc, _, _, q => by simpa [vLcL] using q
  | d :: ds, acc, hl, h, q => by
    rw [List.length_cons] at hl
    rw [s_lcCons]
    refine h d List.mem_cons_self _ _ (fun hp e3 he => ⟨by omega, ?_⟩) (fun hp e2 he => ?_)
    · rw [he]
      refine lc_filter p g ds (acc ++ [g d]) (by rw [List.length_append, List.length_singleton]; omega) (fun d' z => h d' (List.mem_cons_of_mem _ z)) ?_
      rw [List.filter_cons, if_pos hp] at q
      simpa using q
    · rw [he]
      refine lc_filter p g ds acc (by omega) (fun d' z => h d' (List.mem_cons_of_mem _ z)) ?_
      rw [List.filter_cons, if_neg (by rw [hp]; exact Bool.false_ne_true)] at q
      exact q
theorem for_fold {α : Type} {vg : VTG} {f : VTS} {U : VEnds} (env : α → Env) (step : α → D → α) (I : List D → α → Prop) (h : ∀ d ds s, I (d :: ds) s → I ds (step s d) ∧ ∀ K : Env → Prop, K (env (step s d)) → vg d (env s) fun e1 => f { U with nx := K, ct := K, bk := U.nx } e1) :
    ∀ (ds : List D) (s : α), I ds s → (I [] (ds.foldl step s) → U.nx (env (ds.foldl step s))) → vForL vg f U ds (env s)
  | [], s, i, q => q i
  | d :: ds, s, i, q => by
    rw [s_forCons]
    obtain ⟨i2, k⟩ := h d ds s i
    exact k _ (for_fold env step I h ds (step s d) i2 q)
theorem lc_mapF {α : Type} {vs : List Nat} {vg : VTG} {ft : VTB} {fe : VT} {Q : List D → Env → Prop} {e : Env} (f g : α → D) : ∀ (as : List α) (acc : List D), acc.length + as.length ≤ sizeLine →
    (∀ a ∈ as, ∀ (A : D → Env → Prop) (B : Env → Prop), (∀ e3, wipeE e3 vs = e → A (g a) e3) → vg (f a) e fun e1 => ft e1 (fun b e2 => if b = true then fe e2 A noX else B e2) noX) → Q (acc ++ as.map g) e → vLcL vs vg ft fe Q (as.map f) acc e
  | [], acc, _, _, q => by simpa [vLcL] using q
  | a :: as, acc, hl, h, q => by
    rw [List.length_cons] at hl
    rw [List.map_cons, s_lcCons]
    refine h a List.mem_cons_self _ _ fun e3 he => ⟨by omega, ?_⟩
    rw [he]
    refine lc_mapF f g as (acc ++ [g a]) (by rw [List.length_append, List.length_singleton]; omega) (fun d' z => h d' (List.mem_cons_of_mem _ z)) ?_
    simpa using q
theorem lc_filterF {α : Type} {vs : List Nat} {vg : VTG} {ft : VTB} {fe : VT} {Q : List D → Env → Prop} {e : Env} (f : α → D) (p : α → Bool) (g : α → D) : ∀ (as : List α) (acc : List D), acc.length + as.length ≤ sizeLine →
    (∀ a ∈ as, ∀ (A : D → Env → Prop) (B : Env → Prop), (p a = true → ∀ e3, wipeE e3 vs = e → A (g a) e3) → (p a = false → ∀ e2, wipeE e2 vs = e → B e2) → vg (f a) e fun e1 => ft e1 (fun b e2 => if b = true then fe e2 A noX else B e2) noX) → Q (acc ++ (as.filter p).map g) e → vLcL vs vg ft fe Q (as.map f) acc e
  | [], acc, _, _, q => by simpa [vLcL] using q
  | a :: as, acc, hl, h, q => by
    rw [List.length_cons] at hl
    rw [List.map_cons, s_lcCons]
    refine h a List.mem_cons_self _ _ (fun hp e3 he => ⟨by omega, ?_⟩) (fun hp e2 he => ?_)
    · rw [he]
      refine lc_filterF f p g as (acc ++ [g a]) (by rw [List.length_append, List.length_singleton]; omega) (fun d' z => h d' (List.mem_cons_of_mem _ z)) ?_
      rw [List.filter_cons, if_pos hp] at q
      simpa using q
    · rw [he]
      refine lc_filterF f p g as acc (by omega) (fun d' z => h d' (List.mem_cons_of_mem _ z)) ?_
      rw [List.filter_cons, if_neg (by rw [hp]; exact Bool.false_ne_true)] at q
      exact q
/-- a for over things of a list, by what holds of those gone through -/
theorem for_pre {α : Type} {vg : VTG} {f : VTS} {U : VEnds} (g : α → D) (as : List α) (I : List α → Env → Prop) (h : ∀ pre a post, as = pre ++ a :: post → ∀ e, I pre e → ∀ K : Env → Prop, (∀ e', I (pre ++ [a]) e' → K e') → vg (g a) e fun e1 => f { U with nx := K, ct := K, bk := U.nx } e1) (hd : ∀ e, I as e → U.nx e) {e : Env} (h0 : I [] e) : vForL vg f U (as.map g) e := by
  have key : ∀ (post pre : List α) (e : Env), as = pre ++ post → I pre e → vForL vg f U (post.map g) e := fun post => by
    induction post with
    | nil =>
      intro pre e ea i
      rw [List.append_nil] at ea
      subst ea
      exact hd e i
    | cons a post ih =>
      intro pre e ea i
      rw [List.map_cons, s_forCons]
      exact h pre a post ea e i _ fun e' i' => ih (pre ++ [a]) e' (by rw [ea]; simp) i'
  exact key as [] e rfl h0
/-- a for by what holds between two turns -/
theorem for_inv {α : Type} {vg : VTG} {f : VTS} {U : VEnds} (I : List D → Env → Prop) (h : ∀ d ds e, I (d :: ds) e → ∀ K : Env → Prop, (∀ e', I ds e' → K e') → vg d e fun e1 => f { U with nx := K, ct := K, bk := U.nx } e1) (hd : ∀ e, I [] e → U.nx e) : ∀ (ds : List D) (e : Env), I ds e → vForL vg f U ds e
  | [], e, i => hd e i
  | d :: ds, e, i => by
    rw [s_forCons]
    exact h d ds e i _ fun e' i' => for_inv (α := α) I h hd ds e' i'
end VL
set_option Elab.async false
set_option linter.all false
set_option maxRecDepth 100000
set_option maxHeartbeats 2000000
namespace VL
open PySem PySem.Spec PyProof.Rows L2
/-! ### calls that are handed a thing of one's own -/
section
variable {K : PySem.W.Frag} {ow ow' : Addr → Prop} {H H' : Hp}
theorem RT.app {T2 : List Tm} {f2 : List Addr} (h2 : RT K ow H T2 f2) : ∀ {T : List Tm} {f : List Addr}, RT K ow H T f → RT K ow H (T ++ T2) (f ++ f2)
  | [], _, h => by
    have h : _ = [] := h
    rw [h]
    exact h2
  | t :: T, _, ⟨g1, g2, e, a, b⟩ => by
    subst e
    exact ⟨g1, g2 ++ f2, by rw [List.append_assoc], a, RT.app h2 b⟩
theorem RT.unapp : ∀ {T T2 : List Tm} {f : List Addr}, RT K ow H (T ++ T2) f → ∃ f1 f2, f = f1 ++ f2 ∧ RT K ow H T f1 ∧ RT K ow H T2 f2
  | [], _, f, h => ⟨[], f, rfl, rfl, h⟩
  | t :: T, T2, _, ⟨g1, g2, e, a, b⟩ => by
    subst e
    obtain ⟨f1, f2, e2, c, d⟩ := RT.unapp b
    subst e2
    exact ⟨g1 ++ f1, f2, by rw [List.append_assoc], ⟨g1, f1, rfl, a, c⟩, d⟩
/-- the parameters of a call: those that are read, those that are the caller's own (on top) -/
def ArgR (K : PySem.W.Frag) (ow : Addr → Prop) (H : Hp) : List Sh → List V → List D → List Tm → Prop
  | [], vs, ds, L => vs = [] ∧ ds = [] ∧ L = []
  | .s :: M, vs, ds, L => ∃ v r d s, vs = v :: r ∧ ds = d :: s ∧ RS K ow H d v ∧ ArgR K ow H M r s L
  | .l q :: M, vs, ds, L => ∃ v r d s L', vs = v :: r ∧ ds = d :: s ∧ L = (.l q, v, d) :: L' ∧ ArgR K ow H M r s L'
  | .d q :: M, vs, ds, L => ∃ v r d s L', vs = v :: r ∧ ds = d :: s ∧ L = (.d q, v, d) :: L' ∧ ArgR K ow H M r s L'
  | .o q :: M, vs, ds, L => ∃ v r d s L', vs = v :: r ∧ ds = d :: s ∧ L = (.o q, v, d) :: L' ∧ ArgR K ow H M r s L'
theorem ArgR.rv : ∀ {M : List Sh} {vs : List V} {ds : List D} {L : List Tm} {f : List Addr}, ArgR K ow H M vs ds L → RT K ow H L f → RV K ow H M (vs.map some) (ds.map some) f
  | [], _, _, _, _, ⟨a, b, c⟩, h => by
    subst a b c
    exact ⟨rfl, rfl, h⟩
  | .s :: M, _, _, L, f, ⟨v, r, d, s, a, b, q, t⟩, h => by
    subst a b
    exact ⟨some v, r.map some, some d, s.map some, [], f, rfl, rfl, rfl, ⟨v, rfl, RO_s.mpr ⟨rfl, q⟩⟩, ArgR.rv t h⟩
  | .l q :: M, _, _, _, _, ⟨v, r, d, s, L', a, b, e, t⟩, h => by
    subst a b e
    obtain ⟨f1, f2, ef, h1, h2⟩ := h
    exact ⟨some v, r.map some, some d, s.map some, f1, f2, rfl, rfl, ef, ⟨v, rfl, h1⟩, ArgR.rv t h2⟩
  | .d q :: M, _, _, _, _, ⟨v, r, d, s, L', a, b, e, t⟩, h => by
    subst a b e
    obtain ⟨f1, f2, ef, h1, h2⟩ := h
    exact ⟨some v, r.map some, some d, s.map some, f1, f2, rfl, rfl, ef, ⟨v, rfl, h1⟩, ArgR.rv t h2⟩
  | .o q :: M, _, _, _, _, ⟨v, r, d, s, L', a, b, e, t⟩, h => by
    subst a b e
    obtain ⟨f1, f2, ef, h1, h2⟩ := h
    exact ⟨some v, r.map some, some d, s.map some, f1, f2, rfl, rfl, ef, ⟨v, rfl, h1⟩, ArgR.rv t h2⟩
/-- what is the caller's own, behind the call -/
def backL : List Sh → List V → Env → List Tm
  | sh :: M, v :: vs, some d :: ps => (match sh with | .s => backL M vs ps | sh => (sh, v, d) :: backL M vs ps)
  | _ :: M, _ :: vs, none :: ps => backL M vs ps
  | _, _, _ => []
theorem RV.back : ∀ {M : List Sh} {vs : List V} {ps : Env} {f : List Addr}, RV K ow H M (vs.map some) ps f → RT K ow H (backL M vs ps) f
  | [], vs, ps, f, ⟨a, b, c⟩ => by
    subst c
    cases vs <;> cases ps <;> rfl
  | sh :: M, [], ps, f, ⟨x, σ', y, e', g1, g2, e1, _⟩ => by cases e1
  | sh :: M, v :: vs, _, _, ⟨x, σ', y, e', g1, g2, e1, e2, e3, h1, h3⟩ => by
    subst e2 e3
    rw [List.map_cons] at e1
    cases e1
    cases y with
    | none =>
      have z : g1 = [] := h1
      subst z
      simp only [backL]
      exact RV.back h3
    | some d =>
      obtain ⟨u, eu, r⟩ := h1
      cases eu
      cases sh with
      | s =>
        have z := (RO_s.mp r).1
        subst z
        simp only [backL]
        exact RV.back h3
      | l q => exact ⟨g1, g2, rfl, r, RV.back h3⟩
      | d q => exact ⟨g1, g2, rfl, r, RV.back h3⟩
      | o q => exact ⟨g1, g2, rfl, r, RV.back h3⟩
end
section
variable {c : Vc} {T : List Tm} {σ : L2.St} {e : Env} {H : Hp}
/-- a name's own thing taken in hand -/
theorem RX.take {fT fV : List Addr} {i : Nat} {sh : Sh} {d : D} (h : RX c fT fV T σ e H) (hM : c.M[i]? = some sh) (hd : e[i]? = some (some d)) : ∃ v gT gV, σ[i]? = some (some v) ∧ RX c gT gV ((sh, v, d) :: T) σ (e.set i none) H ∧ ∀ a, a ∈ gT ++ gV ↔ a ∈ fT ++ fV := by
  obtain ⟨g1, fp, g2, x, y, a1, a2, a3, a4, a5⟩ := h.vr.split hM
  subst a3
  rw [hd] at a2
  cases a2
  obtain ⟨v, rfl, ro⟩ := a4
  have eqv : ∀ a, a ∈ (fp ++ fT) ++ (g1 ++ ([] ++ g2)) ↔ a ∈ fT ++ (g1 ++ (fp ++ g2)) := fun a => by
    simp only [List.mem_append, List.nil_append]
    constructor
    · rintro ((z | z) | z | z) <;> simp [z]
    · rintro (z | z | z | z) <;> simp [z]
  have how : ∀ a, owOf c (fp ++ fT) (g1 ++ ([] ++ g2)) a → owOf c fT (g1 ++ (fp ++ g2)) a ∨ H a = none := fun a z => by
    rcases z with z | z
    · exact .inl (.inl ((eqv a).mp z))
    · exact .inl (.inr z)
  have hs : σ.set i (some v) = σ := by
    apply List.ext_getElem?
    intro j
    by_cases e : i = j
    · subst e
      rw [a1]
      have : i < σ.length := (List.getElem?_eq_some_iff.mp a1).1
      simp [this]
    · rw [List.getElem?_set_ne e]
  have vr := a5 (H' := H) (ow' := owOf c (fp ++ fT) (g1 ++ ([] ++ g2))) (x' := some v) (y' := none) (fp' := []) (fun _ _ q _ => q) (ExtT.refl H) how (fun _ _ _ q => q) rfl
  rw [hs] at vr
  refine ⟨v, fp ++ fT, g1 ++ ([] ++ g2), a1, ⟨⟨fp, fT, rfl, RO.fr (fun _ _ q _ => q) (ExtT.refl H) how _ _ _ _ ro (fun _ _ _ q => q), h.tm.fr (fun _ _ q _ => q) (ExtT.refl H) how (fun _ _ _ q => q)⟩, vr, ?_, fun a z => h.fr a ((eqv a).mp z), h.kp, h.tp, h.al, h.ok, h.rt⟩, eqv⟩
  have p1 : List.Perm (fT ++ (g1 ++ (fp ++ g2))) ((fp ++ fT) ++ (g1 ++ ([] ++ g2))) := by
    rw [List.perm_iff_count]
    intro a
    simp only [List.count_append, List.count_nil]
    omega
  exact p1.nodup h.nd
/-- .. and given back -/
theorem R.give {i : Nat} {sh : Sh} {d : D} {v : V} {t : Tm} (h : R c (t :: (sh, v, d) :: T) σ e H) (hM : c.M[i]? = some sh) (hv : σ[i]? = some (some v)) : R c (t :: T) σ (e.set i (some d)) H := by
  obtain ⟨fT, fV, h⟩ := h
  obtain ⟨f1, g, e1, h1, f2, f3, e2, h2, h3⟩ := h.tm
  have h2 : RO c.K (owOf c fT fV) H d sh v f2 := h2
  subst e1 e2
  obtain ⟨g1, fp, g2, x, y, a1, a2, a3, a4, a5⟩ := h.vr.split hM
  subst a3
  have sub : ∀ a, a ∈ (f1 ++ f3) ++ (g1 ++ (f2 ++ g2)) → a ∈ (f1 ++ (f2 ++ f3)) ++ (g1 ++ (fp ++ g2)) := fun a z => by
    simp only [List.mem_append] at z ⊢
    rcases z with (z | z) | z | z | z <;> simp [z]
  have how : ∀ a, owOf c (f1 ++ f3) (g1 ++ (f2 ++ g2)) a → owOf c (f1 ++ (f2 ++ f3)) (g1 ++ (fp ++ g2)) a ∨ H a = none := fun a z => by
    rcases z with z | z
    · exact .inl (.inl (sub a z))
    · exact .inl (.inr z)
  have hs : σ.set i (some v) = σ := by
    apply List.ext_getElem?
    intro j
    by_cases e : i = j
    · subst e
      rw [hv]
      have : i < σ.length := (List.getElem?_eq_some_iff.mp hv).1
      simp [this]
    · rw [List.getElem?_set_ne e]
  have vr := a5 (H' := H) (ow' := owOf c (f1 ++ f3) (g1 ++ (f2 ++ g2))) (x' := some v) (y' := some d) (fp' := f2) (fun _ _ q _ => q) (ExtT.refl H) how (fun _ _ _ q => q) ⟨v, rfl, RO.fr (fun _ _ q _ => q) (ExtT.refl H) how _ _ _ _ h2 (fun _ _ _ q => q)⟩
  rw [hs] at vr
  refine ⟨f1 ++ f3, g1 ++ (f2 ++ g2), ⟨f1, f3, rfl, RO.fr (fun _ _ q _ => q) (ExtT.refl H) how _ _ _ _ h1 (fun _ _ _ q => q), h3.fr (fun _ _ q _ => q) (ExtT.refl H) how (fun _ _ _ q => q)⟩, vr, ?_, fun a z => h.fr a (sub a z), h.kp, h.tp, h.al, h.ok, h.rt⟩
  have p1 : List.Perm ((f1 ++ (f2 ++ f3)) ++ (g1 ++ (fp ++ g2))) (fp ++ ((f1 ++ f3) ++ (g1 ++ (f2 ++ g2)))) := by
    rw [List.perm_iff_count]
    intro a
    simp only [List.count_append]
    omega
  exact (List.nodup_append.mp (p1.nodup h.nd)).2.1
/-! the arguments of such a call: as, for each the name that is handed or none -/
def fill : List (Option Nat) → List D → Env → Option (List D)
  | [], [], _ => some []
  | none :: as, d :: ds, e => (fill as ds e).map (d :: ·)
  | some i :: as, ds, e => match e[i]? with
    | some (some d) => (fill as ds e).map (d :: ·)
    | _ => none
  | _, _, _ => none
def wipeIO : List (Option Nat) → Env → Env
  | [], e => e
  | none :: as, e => wipeIO as e
  | some i :: as, e => (wipeIO as e).set i none
def giveE : List (Option Nat) → Env → Env → Env
  | none :: as, _ :: ps, e => giveE as ps e
  | some i :: as, some d :: ps, e => giveE as ps (e.set i (some d))
  | some _ :: as, none :: ps, e => giveE as ps e
  | _, _, e => e
def putIO (as : List (Option Nat)) (ps e : Env) : Env := giveE as ps (wipeIO as e)
def ArgV (K : PySem.W.Frag) (ow : Addr → Prop) (H : Hp) (σ : L2.St) : List (Option Nat) → List V → List D → Prop
  | [], vs, ds => vs = [] ∧ ds = []
  | none :: as, vs, ds => ∃ v r d s, vs = v :: r ∧ ds = d :: s ∧ RS K ow H d v ∧ ArgV K ow H σ as r s
  | some i :: as, vs, ds => ∃ v r, vs = v :: r ∧ σ[i]? = some (some v) ∧ ArgV K ow H σ as r ds
def isS : Sh → Bool
  | .s => true
  | _ => false
/-- each parameter is read, or a name's own thing of the same form -/
def ShOk (M : List Sh) : List (Option Nat) → List Sh → Prop
  | [], [] => True
  | none :: as, sh :: pM => sh = .s ∧ ShOk M as pM
  | some i :: as, sh :: pM => M[i]? = some sh ∧ isS sh = false ∧ some i ∉ as ∧ ShOk M as pM
  | _, _ => False
theorem wipeIO_get {i : Nat} : ∀ {as : List (Option Nat)} {e : Env}, some i ∉ as → (wipeIO as e)[i]? = e[i]?
  | [], e, _ => rfl
  | none :: as, e, h => wipeIO_get (as := as) fun z => h (List.mem_cons_of_mem _ z)
  | some j :: as, e, h => by
    have hj : j ≠ i := fun z => h (by rw [z]; exact List.mem_cons_self)
    show ((wipeIO as e).set j none)[i]? = e[i]?
    rw [List.getElem?_set_ne hj]
    exact wipeIO_get fun z => h (List.mem_cons_of_mem _ z)
theorem ArgV.less {K : PySem.W.Frag} {ow ow' : Addr → Prop} {H : Hp} {σ : L2.St} (how : ∀ a, ow' a → ow a) : ∀ {as : List (Option Nat)} {vs : List V} {ds : List D}, ArgV K ow H σ as vs ds → ArgV K ow' H σ as vs ds
  | [], _, _, h => h
  | none :: as, _, _, ⟨v, r, d, s, a, b, q, t⟩ => ⟨v, r, d, s, a, b, q.less how, ArgV.less how t⟩
  | some i :: as, _, _, ⟨v, r, a, b, t⟩ => ⟨v, r, a, b, ArgV.less how t⟩
theorem ArgR.less {K : PySem.W.Frag} {ow ow' : Addr → Prop} {H : Hp} (how : ∀ a, ow' a → ow a) : ∀ {M : List Sh} {vs : List V} {ds : List D} {L : List Tm}, ArgR K ow H M vs ds L → ArgR K ow' H M vs ds L
  | [], _, _, _, h => h
  | .s :: M, _, _, _, ⟨v, r, d, s, a, b, q, t⟩ => ⟨v, r, d, s, a, b, q.less how, ArgR.less how t⟩
  | .l _ :: M, _, _, _, ⟨v, r, d, s, L', a, b, e, t⟩ => ⟨v, r, d, s, L', a, b, e, ArgR.less how t⟩
  | .d _ :: M, _, _, _, ⟨v, r, d, s, L', a, b, e, t⟩ => ⟨v, r, d, s, L', a, b, e, ArgR.less how t⟩
  | .o _ :: M, _, _, _, ⟨v, r, d, s, L', a, b, e, t⟩ => ⟨v, r, d, s, L', a, b, e, ArgR.less how t⟩
theorem takeAll : ∀ {as : List (Option Nat)} {pM : List Sh} {vs : List V} {ds full : List D} {fT fV : List Addr}, RX c fT fV T σ e H → ArgV c.K (owOf c fT fV) H σ as vs ds → fill as ds e = some full → ShOk c.M as pM →
    ∃ L gT gV, RX c gT gV (L ++ T) σ (wipeIO as e) H ∧ (∀ a, a ∈ gT ++ gV ↔ a ∈ fT ++ fV) ∧ ArgR c.K (owOf c gT gV) H pM vs full L
  | [], [], vs, ds, full, fT, fV, h, ⟨a, b⟩, hf, _ => by
    subst a b
    simp only [fill, Option.some.injEq] at hf
    subst hf
    exact ⟨[], fT, fV, h, fun _ => Iff.rfl, rfl, rfl, rfl⟩
  | [], _ :: _, _, _, _, _, _, _, _, _, hs => by simp only [ShOk] at hs
  | _ :: _, [], _, _, _, _, _, _, _, _, hs => by
    rename_i a as _ _ _ _ _ _ _ _
    cases a <;> simp only [ShOk] at hs
  | none :: as, sh :: pM, _, _, full, fT, fV, h, ⟨v, r, d, s, a, b, q, t⟩, hf, ⟨hsh, hs⟩ => by
    subst a b hsh
    simp only [fill, Option.map_eq_some_iff] at hf
    obtain ⟨full', hf', rfl⟩ := hf
    obtain ⟨L, gT, gV, X, eqv, ar⟩ := takeAll h t hf' hs
    refine ⟨L, gT, gV, X, eqv, v, r, d, full', rfl, rfl, q.less fun x z => ?_, ar⟩
    rcases z with z | z
    · exact .inl ((eqv x).mp z)
    · exact .inr z
  | some i :: as, sh :: pM, _, ds, full, fT, fV, h, ⟨v, r, a, hv, t⟩, hf, ⟨hM, hns, hni, hs⟩ => by
    subst a
    simp only [fill] at hf
    split at hf
    · rename_i d hd
      simp only [Option.map_eq_some_iff] at hf
      obtain ⟨full', hf', rfl⟩ := hf
      obtain ⟨L, gT, gV, X, eqv, ar⟩ := takeAll h t hf' hs
      obtain ⟨v', kT, kV, hv', Y, eqv2⟩ := X.take hM (by rw [wipeIO_get hni]; exact hd)
      rw [hv] at hv'
      cases hv'
      have ar' := ArgR.less (ow' := owOf c kT kV) (fun x z => by
        rcases z with z | z
        · exact .inl ((eqv2 x).mp z)
        · exact .inr z) ar
      refine ⟨(sh, v, d) :: L, kT, kV, Y, fun x => (eqv2 x).trans (eqv x), ?_⟩
      cases sh with
      | s => cases hns
      | l q => exact ⟨v, r, d, full', L, rfl, rfl, rfl, ar'⟩
      | d q => exact ⟨v, r, d, full', L, rfl, rfl, rfl, ar'⟩
      | o q => exact ⟨v, r, d, full', L, rfl, rfl, rfl, ar'⟩
    · cases hf
theorem giveAll {t : Tm} : ∀ {as : List (Option Nat)} {pM : List Sh} {vs : List V} {ds : List D} {ps e : Env} {K : PySem.W.Frag} {ow : Addr → Prop} {H1 : Hp}, R c (t :: (backL pM vs ps ++ T)) σ e H → ArgV K ow H1 σ as vs ds → ShOk c.M as pM → ps.length = pM.length → R c (t :: T) σ (giveE as ps e) H
  | [], [], vs, ds, ps, e, K, ow, H1, h, ⟨a, b⟩, _, hl => by
    cases ps with
    | nil =>
      subst a
      exact h
    | cons _ _ => cases hl
  | [], _ :: _, _, _, _, _, _, _, _, _, _, hs, _ => by simp only [ShOk] at hs
  | _ :: _, [], _, _, _, _, _, _, _, _, _, hs, _ => by
    rename_i a as _ _ _ _ _ _ _ _ _ _
    cases a <;> simp only [ShOk] at hs
  | _ :: _, _ :: _, _, _, [], _, _, _, _, _, _, _, hl => by cases hl
  | none :: as, sh :: pM, _, _, y :: ps, e, K, ow, H1, h, ⟨v, r, d, s, a, b, q, tt⟩, ⟨hsh, hs⟩, hl => by
    subst a b hsh
    simp only [giveE]
    refine giveAll (ps := ps) ?_ tt hs (Nat.succ.inj hl)
    cases y with
    | none => exact h
    | some d' => exact h
  | some i :: as, sh :: pM, _, ds, none :: ps, e, K, ow, H1, h, ⟨v, r, a, hv, tt⟩, ⟨hM, hns, hni, hs⟩, hl => by
    subst a
    simp only [giveE]
    exact giveAll (ps := ps) h tt hs (Nat.succ.inj hl)
  | some i :: as, sh :: pM, _, ds, some d' :: ps, e, K, ow, H1, h, ⟨v, r, a, hv, tt⟩, ⟨hM, hns, hni, hs⟩, hl => by
    subst a
    simp only [giveE]
    have h' : R c (t :: (sh, v, d') :: (backL pM r ps ++ T)) σ e H := by
      cases sh with
      | s => cases hns
      | l q => exact h
      | d q => exact h
      | o q => exact h
    exact giveAll (ps := ps) (h'.give hM hv) tt hs (Nat.succ.inj hl)
def VAx (c : Vc) (W : XW) (ta : TA) (as : List (Option Nat)) (f : VTA) : Prop := ∀ (T : List Tm) (σ : L2.St) (e : Env) (H : Hp) (Q : List V → Hp → Prop) (Qv : List D → Env → Prop) (Qx : QX), R c T σ e H → f e Qv Qx →
  (∀ fT fV vs ds e' H', RX c fT fV T σ e' H' → ArgV c.K (owOf c fT fV) H' σ as vs ds → Qv ds e' → Q vs H') → (∀ x d e' H', R c T σ e' H' → XAt H' x d → Qx x e' → W (.ref x.C) d σ H') → ta σ H Q
variable {W : XW} {ta : TE} {fa : VT} {tA : TA} {fA : VTA} {as : List (Option Nat)}
def vIo (i : Nat) (fr : VTA) : VTA := fun e Q Qx => (∃ d, e[i]? = some (some d)) ∧ fr e Q Qx
theorem vax_nil : VAx c W tNil [] vNil := fun T σ e H Q Qv Qx ⟨fT, fV, hR⟩ hf hn hx => hn fT fV [] [] e H hR ⟨rfl, rfl⟩ hf
theorem vax_cons (ha : VE c W .e ta .s fa) (hr : VAx c W tA as fA) : VAx c W (tCons ta tA) (none :: as) (vCons fa fA) := fun T σ e H Q Qv Qx hR hf hn hx => by
  refine ha T σ e H _ _ Qx hR hf (fun x dx e1 H1 R1 P1 h1 => ?_) hx
  refine hr ((.s, x, dx) :: T) σ e1 H1 _ _ Qx R1 h1 (fun fT fV vs ds e2 H2 R2 rs h2 => ?_) (fun xn d e' H' R' X' q' => hx xn d e' H' R'.pop X' q')
  obtain ⟨rx, R2⟩ := R2.topS
  exact hn fT fV _ _ e2 H2 R2 ⟨x, vs, dx, ds, rfl, rfl, rx, rs⟩ h2
theorem vax_io {i : Nat} {sh : Sh} (hM : c.M[i]? = some sh) (hr : VAx c W tA as fA) : VAx c W (tCons (tVar i) tA) (some i :: as) (vIo i fA) := fun T σ e H Q Qv Qx hR ⟨⟨d, hd⟩, hf⟩ hn hx => by
  obtain ⟨fT, fV, X⟩ := hR
  obtain ⟨v, fp, hv, _⟩ := X.upd hM hd
  exact ⟨v, hv, hr T σ e H _ _ Qx ⟨fT, fV, X⟩ hf (fun gT gV vs ds e2 H2 R2 rs h2 => hn gT gV _ _ e2 H2 R2 ⟨v, vs, rfl, hv, rs⟩ h2) hx⟩
def vCallIO (as : List (Option Nat)) (sp : VSp) (fA : VTA) : VT := fun e Q Qx => fA e (fun ds e1 => ∃ full, fill as ds e1 = some full ∧ sp full (fun r ps => Q r (putIO as ps e1)) fun _ _ => False) Qx
theorem v_callIO {pM : List Sh} {rsh : Sh} {sp : VSp} {E : XK} (hA : VAx c W tA as fA) (hs : ShOk c.M as pM) : VE c W .e (tCall (spOf c.K pM rsh sp) [] E tA) rsh (vCallIO as sp fA) := fun T σ e H Q Qv Qx hR hf hn hx => by
  refine hA T σ e H _ _ Qx hR hf (fun fT fV vs ds e1 H1 X1 av ⟨full, hfl, q⟩ => ?_) hx
  rw [List.append_nil]
  obtain ⟨L, gT, gV, X2, eqv, ar⟩ := takeAll X1 av hfl hs
  obtain ⟨fL, fT0, ef, tL, tT⟩ := X2.tm.unapp
  subst ef
  have nd := X2.nd
  rw [List.append_assoc] at nd
  obtain ⟨ndL, ndR, ndX⟩ := List.nodup_append.mp nd
  have noav : ∀ a ∈ fL, ¬ c.av a := fun a z y => by
    rcases X2.fr a (by simp [z]) with w | w
    · exact (X2.ok a y).2 w
    · exact (X2.ok a y).1 w
  have ow1 : ∀ a, (a ∈ ([] : List Addr) ++ fL ∨ (a ∈ fT0 ++ gV ∨ c.av a)) → owOf c (fL ++ fT0) gV a := fun a z => by
    rcases z with z | z | z
    · exact .inl (by simp at z; simp [z])
    · exact .inl (by rw [List.append_assoc]; exact List.mem_append_right _ z)
    · exact .inr z
  have lfull := (ArgR.rv ar tL).len.2
  rw [List.length_map] at lfull
  have rv := (ArgR.rv ar tL).fr (H' := H1) (ow' := fun a => a ∈ ([] : List Addr) ++ fL ∨ (a ∈ fT0 ++ gV ∨ c.av a)) (fun _ _ q _ => q) (ExtT.refl H1) (fun a z => .inl (ow1 a z)) (fun _ _ _ q => q)
  refine ⟨⟨c.K, H1, fun a => a ∈ fL, fun a => a ∈ fT0 ++ gV ∨ c.av a, pM, roots pM 0 vs⟩, full, fun r ps => Qv r (putIO as ps e1), fun _ _ => False, rfl, rfl, rfl, rfl, ⟨lfull, [], fL, rfl, .of rv, ndL, fun a z => .inl z, fun b o q _ => q, ExtT.refl H1, fun b q => q, fun a z => ?_, fun p hp => ?_⟩, q, ?_, fun x d ps H' _ _ _ z => z.elim⟩
  · rcases z with z | z
    · refine ⟨?_, fun y => ndX a y a z rfl⟩
      obtain ⟨o, w, _⟩ := X2.at a (by rw [List.append_assoc]; exact List.mem_append_right _ z)
      show H1 a ≠ none
      rw [w]
      simp
    · exact ⟨X2.avn z, fun y => noav a y z⟩
  · obtain ⟨j, a, b⟩ := roots_at _ _ _ p hp
    rw [Nat.zero_add] at a
    rw [a, List.getElem?_map, b]
    rfl
  rintro v r ps H' lps ⟨kT, kV, Y⟩ q
  have tb := RV.back (Y.vr.strict lps)
  obtain ⟨f1, f2, e2, r1, r2⟩ := Y.tm
  have r2 : f2 = [] := r2
  subst r2
  rw [List.append_nil] at e2
  subst e2
  have ow2 : ∀ a, owOf c (kT ++ (kV ++ fT0)) gV a → (a ∈ kT ++ kV ∨ (a ∈ fT0 ++ gV ∨ c.av a)) := fun a z => by
    rcases z with z | z
    · simp only [List.mem_append] at z ⊢
      rcases z with (z | z | z) | z <;> simp [z]
    · exact .inr (.inr z)
  have ow3 : ∀ a, owOf c (kT ++ (kV ++ fT0)) gV a → owOf c (fL ++ fT0) gV a ∨ H1 a = none := fun a z => by
    rcases ow2 a z with z | z | z
    · rcases Y.fr a z with y | y
      · exact .inl (.inl (by simp [show a ∈ fL from y]))
      · exact .inr y
    · exact .inl (.inl (by rw [List.append_assoc]; exact List.mem_append_right _ z))
    · exact .inl (.inr z)
  have kp1 : ∀ b o, H1 b = some o → ¬ owOf c (fL ++ fT0) gV b → H' b = some o := fun b o z n => Y.kp b o z fun y => n (.inl (by simp [show b ∈ fL from y]))
  have kp2 : ∀ b ∈ fT0 ++ gV, ∀ o, H1 b = some o → H' b = some o := fun b z o w => Y.kp b o w fun y => ndX b y b z rfl
  have main : R c ((rsh, v, r) :: (backL pM vs ps ++ T)) σ (wipeIO as e1) H' := by
    refine ⟨kT ++ (kV ++ fT0), gV, ⟨kT, kV ++ fT0, rfl, RO.fr (fun _ _ q _ => q) (ExtT.refl H') (fun a z => .inl (ow2 a z)) _ _ _ _ r1 (fun _ _ _ q => q), RT.app (tT.fr kp1 Y.tp ow3 (fun b z => kp2 b (List.mem_append_left _ z))) (tb.fr (fun _ _ q _ => q) (ExtT.refl H') (fun a z => .inl (ow2 a z)) (fun _ _ _ q => q))⟩, X2.vr.fr kp1 Y.tp ow3 (fun b z => kp2 b (List.mem_append_right _ z)), ?_, fun a z => ?_, fun b o q n => ?_, X2.tp.trans Y.tp, fun b q => Y.al b (X2.al b q), X2.ok, X2.rt⟩
    · have nn : ((kT ++ kV) ++ (fT0 ++ gV)).Nodup := List.nodup_append.mpr ⟨Y.nd, ndR, fun a z b y q => by
        subst q
        rcases Y.fr a z with w | w
        · exact ndX a w a y rfl
        · obtain ⟨o, u, _⟩ := X2.at a (by rw [List.append_assoc]; exact List.mem_append_right _ y)
          have w : H1 a = none := w
          rw [w] at u
          cases u⟩
      simpa using nn
    · have z' : a ∈ kT ++ kV ∨ a ∈ fT0 ++ gV := by
        simp only [List.mem_append] at z ⊢
        rcases z with (z | z | z) | z <;> simp [z]
      rcases z' with z | z
      · rcases Y.fr a z with w | w
        · exact X2.fr a (by simp [show a ∈ fL from w])
        · exact .inr (X2.new w).2
      · exact X2.fr a (by rw [List.append_assoc]; exact List.mem_append_right _ z)
    · refine Y.kp b o (X2.kp b o q n) fun z => ?_
      rcases X2.fr b (by simp [show b ∈ fL from z]) with y | y
      · exact n y
      · rw [y] at q
        cases q
  exact hn v r _ H' (giveAll main av hs lps) Post.e q
end
section
variable {as : List (Option Nat)} {sp : VSp} {fA : VTA} {e ps : Env} {Q : QV} {QA : List D → Env → Prop} {Qx : QX} {i : Nat} {d : D} {ds : List D} {y : Option D}
@[simp] theorem s_callIO : vCallIO as sp fA e Q Qx = fA e (fun ds e1 => ∃ full, fill as ds e1 = some full ∧ sp full (fun r ps => Q r (putIO as ps e1)) fun _ _ => False) Qx := rfl
@[simp] theorem s_io : vIo i fA e QA Qx = ((∃ d, e[i]? = some (some d)) ∧ fA e QA Qx) := rfl
@[simp] theorem s_fill0 : fill [] [] e = some [] := rfl
@[simp] theorem s_fillN : fill (none :: as) (d :: ds) e = (fill as ds e).map (d :: ·) := rfl
@[simp] theorem s_fillS : fill (some i :: as) ds e = (match e[i]? with | some (some d) => (fill as ds e).map (d :: ·) | _ => none) := rfl
@[simp] theorem s_putIO : putIO as ps e = giveE as ps (wipeIO as e) := rfl
@[simp] theorem s_wio0 : wipeIO [] e = e := rfl
@[simp] theorem s_wioN : wipeIO (none :: as) e = wipeIO as e := rfl
@[simp] theorem s_wioS : wipeIO (some i :: as) e = (wipeIO as e).set i none := rfl
@[simp] theorem s_give0 : giveE [] ps e = e := by cases ps <;> rfl
@[simp] theorem s_giveN : giveE (none :: as) (y :: ps) e = giveE as ps e := rfl
@[simp] theorem s_giveS : giveE (some i :: as) (some d :: ps) e = giveE as ps (e.set i (some d)) := rfl
@[simp] theorem s_giveM : giveE (some i :: as) (none :: ps) e = giveE as ps e := rfl
end
end VL
set_option Elab.async false
set_option linter.all false
set_option maxRecDepth 100000
set_option maxHeartbeats 2000000
namespace VL
open PySem PySem.Spec PyProof.Rows L2
/-! ### things that several hold -/
def cellAt : List Addr → List D → Addr → Option D
  | a :: as, d :: l, b => if a = b then some d else cellAt as l b
  | _, _, _ => none
def cellSet : List Addr → List D → Addr → D → List D
  | a :: as, d :: l, b, x => if a = b then x :: l else d :: cellSet as l b x
  | _, l, _, _ => l
section
variable {K : PySem.W.Frag} {ow ow' : Addr → Prop} {H H' : Hp}
theorem RM.get : ∀ {as : List Addr} {l : List D} {a : Addr} {d : D}, RM K ow H as l → cellAt as l a = some d → a ∈ as ∧ RO K ow H d (cellSh d) (.ref a) [a]
  | [], [], _, _, _, e => by simp [cellAt] at e
  | b :: as, x :: l, a, d, ⟨h, t⟩, e => by
    simp only [cellAt] at e
    split at e
    · rename_i q
      subst q
      cases e
      exact ⟨List.mem_cons_self, h⟩
    · obtain ⟨m, r⟩ := RM.get t e
      exact ⟨List.mem_cons_of_mem _ m, r⟩
  | [], _ :: _, _, _, h, _ => h.elim
  | _ :: _, [], _, _, h, _ => h.elim
theorem RM.set (hk : ∀ b o, H b = some o → ¬ ow b → H' b = some o) (hT : ExtT H H') (how : ∀ a, ow' a → ow a ∨ H a = none) : ∀ {as : List Addr} {l : List D} {a : Addr} {d : D}, RM K ow H as l → as.Nodup → (∀ b ∈ as, b ≠ a → ∀ o, H b = some o → H' b = some o) → RO K ow' H' d (cellSh d) (.ref a) [a] → RM K ow' H' as (cellSet as l a d)
  | [], [], _, _, _, _, _, _ => trivial
  | b :: as, x :: l, a, d, ⟨h, t⟩, n, k, r => by
    obtain ⟨n1, n2⟩ := List.nodup_cons.mp n
    simp only [cellSet]
    split
    · rename_i q
      subst q
      exact ⟨r, t.fr hk hT how fun c z => k c (List.mem_cons_of_mem _ z) fun e => n1 (e ▸ z)⟩
    · rename_i q
      exact ⟨RO.fr hk hT how _ _ _ _ h (fun c z => by rw [List.mem_singleton.mp z]; exact k b List.mem_cons_self q), RM.set hk hT how t n2 (fun c z => k c (List.mem_cons_of_mem _ z)) r⟩
  | [], _ :: _, _, _, h, _, _, _ => h.elim
  | _ :: _, [], _, _, h, _, _, _ => h.elim
end
section
variable {c : Vc} {fT fV : List Addr} {T : List Tm} {σ : L2.St} {e : Env} {H H' : Hp}
/-- the place of the cells -/
theorem RX.memAt {as : List Addr} {l : List D} (h : RX c fT fV T σ e H) (hm : e[c.M.length]? = some (some (.mem as l))) : ∃ e0 f0, e = e0 ++ [some (.mem as l)] ∧ e0.length = c.M.length ∧ fV = f0 ++ as ∧ RV c.K (owOf c fT fV) H c.M σ e0 f0 ∧ RM c.K (owOf c fT fV) H as l := by
  obtain ⟨e0, tl, f0, ft, rfl, rfl, r, t⟩ := h.vr
  have l0 := r.len.2
  rw [List.getElem?_append_right (by omega), l0, Nat.sub_self] at hm
  rcases t.cs with ⟨rfl, rfl⟩ | ⟨rfl, rfl⟩ | ⟨as', l', rfl, rfl, rm⟩
  · cases hm
  · cases hm
  · cases hm
    exact ⟨e0, f0, rfl, l0, rfl, r, rm⟩
/-- a cell is read -/
theorem RX.cell {as : List Addr} {l : List D} {a : Addr} {d : D} (h : RX c fT fV T σ e H) (hm : e[c.M.length]? = some (some (.mem as l))) (ha : cellAt as l a = some d) : a ∈ fT ++ fV ∧ RO c.K (owOf c fT fV) H d (cellSh d) (.ref a) [a] := by
  obtain ⟨e0, f0, rfl, l0, rfl, r, rm⟩ := h.memAt hm
  obtain ⟨m, r⟩ := rm.get ha
  exact ⟨by simp [m], r⟩
/-- the cells are others from now on -/
theorem RX.setMem' {as as' : List Addr} {l l' : List D} {S : List Addr} (h : RX c fT fV T σ e H) (hm : e[c.M.length]? = some (some (.mem as l))) (hS : ∀ b ∈ S, b ∈ as) (hk : ∀ b o, H b = some o → b ∉ S → H' b = some o) (hT : ExtT H H') (hal : ∀ b, H b ≠ none → H' b ≠ none) (nd : as'.Nodup) (hsub : ∀ a ∈ as', a ∈ as ∨ H a = none)
    (hrm : ∀ ow', (∀ a, ow' a → owOf c fT fV a ∨ H a = none) → RM c.K ow' H' as' l') : ∃ fV', (∀ b ∈ fV', b ∈ fV ∨ b ∈ as') ∧ RX c fT fV' T σ (e.set c.M.length (some (.mem as' l'))) H' := by
  obtain ⟨e0, f0, rfl, l0, rfl, r, rm⟩ := h.memAt hm
  have n := h.nd
  have eS : (e0 ++ [some (D.mem as l)]).set c.M.length (some (D.mem as' l')) = e0 ++ [some (D.mem as' l')] := by
    rw [List.set_append_right _ _ (by omega), l0, Nat.sub_self]
    rfl
  rw [eS]
  have how : ∀ a, owOf c fT (f0 ++ as') a → owOf c fT (f0 ++ as) a ∨ H a = none := fun a z => by
    rcases z with z | z
    · simp only [List.mem_append] at z
      rcases z with z | z | z
      · exact .inl (.inl (by simp [z]))
      · exact .inl (.inl (by simp [z]))
      · rcases hsub a z with q | q
        · exact .inl (.inl (by simp [q]))
        · exact .inr q
    · exact .inl (.inr z)
  have kow : ∀ b o, H b = some o → ¬ owOf c fT (f0 ++ as) b → H' b = some o := fun b o q n => hk b o q fun z => n (.inl (by simp [hS b z]))
  obtain ⟨n1, n2, n3⟩ := List.nodup_append.mp n
  obtain ⟨n4, n5, n6⟩ := List.nodup_append.mp n2
  have koth : ∀ b ∈ fT ++ f0, ∀ o, H b = some o → H' b = some o := fun b z o q => hk b o q fun y => by
    have y := hS b y
    rcases List.mem_append.mp z with z | z
    · exact n3 b z b (by simp [y]) rfl
    · exact n6 b z b y rfl
  refine ⟨f0 ++ as', fun b z => (List.mem_append.mp z).elim (fun q => .inl (List.mem_append_left _ q)) .inr, h.tm.fr kow hT how (fun b z => koth b (List.mem_append_left _ z)), ⟨e0, [some (.mem as' l')], f0, as', rfl, rfl, r.fr kow hT how (fun b z => koth b (List.mem_append_right _ z)), rfl, hrm _ how⟩, ?_, fun a z => ?_, fun b o q n => ?_, h.tp.trans hT, fun b q => hal b (h.al b q), h.ok, h.rt⟩
  · refine List.nodup_append.mpr ⟨n1, List.nodup_append.mpr ⟨n4, nd, fun a z b y q => ?_⟩, fun a z b y q => ?_⟩
    · subst q
      rcases hsub a y with w | w
      · exact n6 a z a w rfl
      · obtain ⟨o, u, _⟩ := h.at a (by simp [z])
        rw [w] at u
        cases u
    · subst q
      rcases List.mem_append.mp y with w | w
      · exact n3 a z a (by simp [w]) rfl
      · rcases hsub a w with w | w
        · exact n3 a z a (by simp [w]) rfl
        · obtain ⟨o, u, _⟩ := h.at a (by simp [z])
          rw [w] at u
          cases u
  · simp only [List.mem_append] at z
    rcases z with z | z | z
    · exact h.fr a (by simp [z])
    · exact h.fr a (by simp [z])
    · rcases hsub a z with q | q
      · exact h.fr a (by simp [q])
      · exact .inr (h.new q).2
  · refine hk b o (h.kp b o q n) fun z => ?_
    rcases h.fr b (by simp [hS b z]) with y | y
    · exact n y
    · rw [y] at q
      cases q
theorem RX.setMem {as as' : List Addr} {l l' : List D} {S : List Addr} (h : RX c fT fV T σ e H) (hm : e[c.M.length]? = some (some (.mem as l))) (hS : ∀ b ∈ S, b ∈ as) (hk : ∀ b o, H b = some o → b ∉ S → H' b = some o) (hT : ExtT H H') (hal : ∀ b, H b ≠ none → H' b ≠ none) (nd : as'.Nodup) (hsub : ∀ a ∈ as', a ∈ as ∨ H a = none)
    (hrm : ∀ ow', (∀ a, ow' a → owOf c fT fV a ∨ H a = none) → RM c.K ow' H' as' l') : ∃ fV', RX c fT fV' T σ (e.set c.M.length (some (.mem as' l'))) H' :=
  let ⟨fV', _, X⟩ := h.setMem' hm hS hk hT hal nd hsub hrm
  ⟨fV', X⟩
/-- a cell is changed -/
theorem RX.setCell {as : List Addr} {l : List D} {a : Addr} {d d' : D} (h : RX c fT fV T σ e H) (hm : e[c.M.length]? = some (some (.mem as l))) (ha : cellAt as l a = some d) (hk : ∀ b o, H b = some o → b ≠ a → H' b = some o) (hT : ExtT H H') (hal : ∀ b, H b ≠ none → H' b ≠ none)
    (hro : ∀ ow', (∀ a, ow' a → owOf c fT fV a ∨ H a = none) → RO c.K ow' H' d' (cellSh d') (.ref a) [a]) : ∃ fV', RX c fT fV' T σ (e.set c.M.length (some (.mem as (cellSet as l a d')))) H' := by
  obtain ⟨e0, f0, ee, l0, ef, r, rm⟩ := h.memAt hm
  obtain ⟨m, _⟩ := rm.get ha
  have n : as.Nodup := by
    have n := h.nd
    rw [ef] at n
    exact (List.nodup_append.mp (List.nodup_append.mp n).2.1).2.1
  refine h.setMem (S := [a]) hm (fun b z => by rw [List.mem_singleton.mp z]; exact m) (fun b o q z => hk b o q (by simpa using z)) hT hal n (fun b z => .inl z) fun ow' how => ?_
  refine rm.set (fun b o q z => hk b o q fun e => z ?_) hT how n (fun b _ z o q => hk b o q z) (hro ow' how)
  subst e
  rw [ef]
  exact .inl (by simp [m])
end
end VL
set_option Elab.async false
set_option linter.all false
set_option maxRecDepth 100000
set_option maxHeartbeats 2000000
namespace Fb
open PySem
/-! ### programs as trees; what is laid out of them -/
mutual
inductive Stm : Type
  | mk (w x : Str) (r : List PyData) (h : w = "let" ∨ w = "sum" ∨ w = "call")
  | no (w : Str) (r : List PyData) (h : w = "set" ∨ w = "tell" ∨ w = "give")
  | fn (x : Str) (ps : List Str) (b : Blk)
  | ite (a : PyData) (b1 b2 : Blk)
  | whl (a : PyData) (b : Blk)
  | tms (one : Bool) (x : Str) (a : PyData) (b : Blk)
inductive Blk : Type
  | nil
  | cons (s : Stm) (r : Blk)
end
def modeS (one : Bool) : Str := if one then "one" else "own"
mutual
def dS : Stm → PyData
  | .mk w x r _ => .tuple (.str w :: .str x :: r)
  | .no w r _ => .tuple (.str w :: r)
  | .fn x ps b => .tuple [.str "fn", .str x, .tuple (ps.map .str), .tuple (dB b)]
  | .ite a b1 b2 => .tuple [.str "if", a, .tuple (dB b1), .tuple (dB b2)]
  | .whl a b => .tuple [.str "while", a, .tuple (dB b)]
  | .tms one x a b => .tuple [.str "times", .str (modeS one), .str x, a, .tuple (dB b)]
def dB : Blk → List PyData
  | .nil => []
  | .cons s r => dS s :: dB r
end
/-! what its lists will have, at most -/
mutual
def wS : Stm → Nat
  | .mk .. => 2
  | .no .. => 1
  | .fn _ ps b => 4 + ps.length + wB b
  | .ite _ b1 b2 => 3 + wB b1 + wB b2
  | .whl _ b => 2 + wB b
  | .tms _ _ _ b => 4 + wB b
def wB : Blk → Nat
  | .nil => 0
  | .cons s r => wS s + wB r
end
theorem wS_pos (s : Stm) : 1 ≤ wS s := by
  cases s <;> simp only [wS] <;> omega
abbrev nD (n : Nat) : PyData := .int (n : Int)
def rowG (kind : Str) (k a : PyData) : PyData := .tuple [.str kind, k, a]
def rowM (x : Str) (k g : Nat) : PyData := .tuple [.str x, nD k, nD g]
def rowB (k : PyData) (ps : List Str) : PyData := .tuple [k, .tuple (ps.map .str)]
structure TS where
  pl : List (PyData × Nat × Nat)
  bd : List PyData
  gr : List PyData
  mm : List PyData
mutual
def layS : Stm → Nat → Nat → TS → TS
  | .mk w x r h, g, b, t => { t with pl := t.pl ++ [(dS (.mk w x r h), g, b)], mm := t.mm ++ [rowM x t.pl.length g] }
  | .no w r h, g, b, t => { t with pl := t.pl ++ [(dS (.no w r h), g, b)] }
  | .fn x ps blk, g, b, t => layB blk t.gr.length t.bd.length { pl := t.pl ++ [(dS (.fn x ps blk), g, b)], mm := t.mm ++ (rowM x t.pl.length g :: ps.map fun p => rowM p t.pl.length t.gr.length), bd := t.bd ++ [rowB (nD t.pl.length) ps], gr := t.gr ++ [rowG "body" (nD t.pl.length) (nD g)] }
  | .ite a b1 b2, g, b, t =>
    let t1 := layB b1 t.gr.length b { t with pl := t.pl ++ [(dS (.ite a b1 b2), g, b)], gr := t.gr ++ [rowG "one" (nD t.pl.length) (nD g)] }
    layB b2 t1.gr.length b { t1 with gr := t1.gr ++ [rowG "other" (nD t.pl.length) (nD g)] }
  | .whl a blk, g, b, t => layB blk t.gr.length b { t with pl := t.pl ++ [(dS (.whl a blk), g, b)], gr := t.gr ++ [rowG "while" (nD t.pl.length) (nD g)] }
  | .tms true x a blk, g, b, t => layB blk (t.gr.length + 1) b { t with pl := t.pl ++ [(dS (.tms true x a blk), g, b)], mm := t.mm ++ [rowM x t.pl.length t.gr.length], gr := t.gr ++ [rowG "head" (nD t.pl.length) (nD g)] ++ [rowG "times" (nD t.pl.length) (nD t.gr.length)] }
  | .tms false x a blk, g, b, t => layB blk t.gr.length b { t with pl := t.pl ++ [(dS (.tms false x a blk), g, b)], mm := t.mm ++ [rowM x t.pl.length t.gr.length], gr := t.gr ++ [rowG "times" (nD t.pl.length) (nD g)] }
def layB : Blk → Nat → Nat → TS → TS
  | .nil, _, _, t => t
  | .cons s r, g, b, t => layB r g b (layS s g b t)
end
/-! ### the pile -/
inductive Itm : Type
  | blk (kind : Str) (k a : PyData) (body : Nat) (b : Blk)
  | plc (s : Stm) (g b : Nat)
def runI : Itm → TS → TS
  | .blk kind k a body b, t => layB b t.gr.length body { t with gr := t.gr ++ [rowG kind k a] }
  | .plc s g b, t => layS s g b t
def runIs (l : List Itm) (t : TS) : TS := l.foldl (fun t i => runI i t) t
def plcs : Blk → Nat → Nat → List Itm
  | .nil, _, _ => []
  | .cons s r, g, b => .plc s g b :: plcs r g b
theorem run_plcs : ∀ (blk : Blk) (g b : Nat) (t : TS), runIs (plcs blk g b) t = layB blk g b t
  | .nil, _, _, _ => rfl
  | .cons s r, g, b, t => by
    show runIs (plcs r g b) (layS s g b t) = layB r g b (layS s g b t)
    exact run_plcs r g b _
theorem runIs_append (a b : List Itm) (t : TS) : runIs (a ++ b) t = runIs b (runIs a t) := List.foldl_append ..
/-- a statement met: what is laid at once, and the blocks that come -/
def metT : Stm → Nat → Nat → TS → TS
  | .mk w x r h, g, b, t => { t with pl := t.pl ++ [(dS (.mk w x r h), g, b)], mm := t.mm ++ [rowM x t.pl.length g] }
  | .no w r h, g, b, t => { t with pl := t.pl ++ [(dS (.no w r h), g, b)] }
  | .fn x ps blk, g, b, t => { t with pl := t.pl ++ [(dS (.fn x ps blk), g, b)], mm := t.mm ++ (rowM x t.pl.length g :: ps.map fun p => rowM p t.pl.length t.gr.length), bd := t.bd ++ [rowB (nD t.pl.length) ps] }
  | .ite a b1 b2, g, b, t => { t with pl := t.pl ++ [(dS (.ite a b1 b2), g, b)] }
  | .whl a blk, g, b, t => { t with pl := t.pl ++ [(dS (.whl a blk), g, b)] }
  | .tms true x a blk, g, b, t => { t with pl := t.pl ++ [(dS (.tms true x a blk), g, b)], mm := t.mm ++ [rowM x t.pl.length t.gr.length], gr := t.gr ++ [rowG "head" (nD t.pl.length) (nD g)] }
  | .tms false x a blk, g, b, t => { t with pl := t.pl ++ [(dS (.tms false x a blk), g, b)], mm := t.mm ++ [rowM x t.pl.length t.gr.length] }
def metI : Stm → Nat → Nat → TS → List Itm
  | .mk .., _, _, _ => []
  | .no .., _, _, _ => []
  | .fn x ps blk, g, b, t => [.blk "body" (nD t.pl.length) (nD g) t.bd.length blk]
  | .ite a b1 b2, g, b, t => [.blk "one" (nD t.pl.length) (nD g) b b1, .blk "other" (nD t.pl.length) (nD g) b b2]
  | .whl a blk, g, b, t => [.blk "while" (nD t.pl.length) (nD g) b blk]
  | .tms true x a blk, g, b, t => [.blk "times" (nD t.pl.length) (nD t.gr.length) b blk]
  | .tms false x a blk, g, b, t => [.blk "times" (nD t.pl.length) (nD g) b blk]
theorem run_met (s : Stm) (g b : Nat) (t : TS) : runIs (metI s g b t) (metT s g b t) = layS s g b t := by
  cases s with
  | mk w x r h => simp [metI, metT, layS, runIs]
  | no w r h => simp [metI, metT, layS, runIs]
  | fn x ps blk => simp [metI, metT, layS, runIs, runI]
  | ite a b1 b2 => simp [metI, metT, layS, runIs, runI]
  | whl a blk => simp [metI, metT, layS, runIs, runI]
  | tms one x a blk => cases one <;> simp [metI, metT, layS, runIs, runI]
def wI : Itm → Nat
  | .blk _ _ _ _ b => 1 + wB b
  | .plc s _ _ => wS s
theorem wI_pos (i : Itm) : 1 ≤ wI i := by
  cases i with
  | blk => simp only [wI]; omega
  | plc s => exact wS_pos s
def wIs (l : List Itm) : Nat := (l.map wI).sum
theorem wIs_cons (i : Itm) (l : List Itm) : wIs (i :: l) = wI i + wIs l := by simp [wIs]
theorem wIs_append (a b : List Itm) : wIs (a ++ b) = wIs a + wIs b := by simp [wIs]
theorem len_wIs : ∀ l : List Itm, l.length ≤ wIs l
  | [] => Nat.le_refl _
  | i :: r => by
    rw [wIs_cons, List.length_cons]
    have := len_wIs r
    have := wI_pos i
    omega
theorem w_plcs : ∀ (blk : Blk) (g b : Nat), wIs (plcs blk g b) = wB blk
  | .nil, _, _ => rfl
  | .cons s r, g, b => by
    show wIs (.plc s g b :: plcs r g b) = wS s + wB r
    rw [wIs_cons, w_plcs r]
    rfl
def TS.n (t : TS) : Nat := t.pl.length + t.bd.length + t.gr.length + t.mm.length
theorem w_met (s : Stm) (g b : Nat) (t : TS) : (metT s g b t).n + wIs (metI s g b t) ≤ t.n + wS s := by
  cases s with
  | mk w x r h => simp [metI, metT, TS.n, wIs, wI, wS]; omega
  | no w r h => simp [metI, metT, TS.n, wIs, wI, wS]; omega
  | fn x ps blk => simp [metI, metT, TS.n, wIs, wI, wS]; omega
  | ite a b1 b2 => simp [metI, metT, TS.n, wIs, wI, wS]; omega
  | whl a blk => simp [metI, metT, TS.n, wIs, wI, wS]; omega
  | tms one x a blk => cases one <;> simp [metI, metT, TS.n, wIs, wI, wS] <;> omega
/-! the measure falls -/
mutual
def zS : Stm → Nat
  | .mk .. => 1
  | .no .. => 1
  | .fn _ _ b => 2 + zB b
  | .ite _ b1 b2 => 3 + zB b1 + zB b2
  | .whl _ b => 2 + zB b
  | .tms _ _ _ b => 2 + zB b
def zB : Blk → Nat
  | .nil => 0
  | .cons s r => zS s + zB r
end
def zI : Itm → Nat
  | .blk _ _ _ _ b => 1 + zB b
  | .plc s _ _ => zS s
def zIs (l : List Itm) : Nat := (l.map zI).sum
theorem zIs_cons (i : Itm) (l : List Itm) : zIs (i :: l) = zI i + zIs l := by simp [zIs]
theorem zIs_append (a b : List Itm) : zIs (a ++ b) = zIs a + zIs b := by simp [zIs]
theorem z_plcs : ∀ (blk : Blk) (g b : Nat), zIs (plcs blk g b) = zB blk
  | .nil, _, _ => rfl
  | .cons s r, g, b => by
    show zIs (.plc s g b :: plcs r g b) = zS s + zB r
    rw [zIs_cons, z_plcs r]
    rfl
theorem z_met (s : Stm) (g b : Nat) (t : TS) : zIs (metI s g b t) + 1 = zS s := by
  cases s with
  | mk w x r h => simp [metI, zIs, zI, zS]
  | no w r h => simp [metI, zIs, zI, zS]
  | fn x ps blk => simp [metI, zIs, zI, zS]; omega
  | ite a b1 b2 => simp [metI, zIs, zI, zS]; omega
  | whl a blk => simp [metI, zIs, zI, zS]; omega
  | tms one x a blk => cases one <;> simp [metI, zIs, zI, zS] <;> omega
mutual
theorem w_layS : ∀ (s : Stm) (g b : Nat) (t : TS), (layS s g b t).n ≤ t.n + wS s
  | .mk w x r h, g, b, t => by simp [layS, TS.n, wS]; omega
  | .no w r h, g, b, t => by simp [layS, TS.n, wS]; omega
  | .fn x ps blk, g, b, t => by
    rw [layS]
    refine Nat.le_trans (w_layB blk _ _ _) ?_
    simp [TS.n, wS]; omega
  | .ite a b1 b2, g, b, t => by
    rw [layS]
    refine Nat.le_trans (w_layB b2 _ _ _) ?_
    have h := w_layB b1 t.gr.length b { t with pl := t.pl ++ [(dS (.ite a b1 b2), g, b)], gr := t.gr ++ [rowG "one" (nD t.pl.length) (nD g)] }
    simp [TS.n, wS] at h ⊢; omega
  | .whl a blk, g, b, t => by
    rw [layS]
    refine Nat.le_trans (w_layB blk _ _ _) ?_
    simp [TS.n, wS]; omega
  | .tms true x a blk, g, b, t => by
    rw [layS]
    refine Nat.le_trans (w_layB blk _ _ _) ?_
    simp [TS.n, wS]; omega
  | .tms false x a blk, g, b, t => by
    rw [layS]
    refine Nat.le_trans (w_layB blk _ _ _) ?_
    simp [TS.n, wS]; omega
theorem w_layB : ∀ (blk : Blk) (g b : Nat) (t : TS), (layB blk g b t).n ≤ t.n + wB blk
  | .nil, g, b, t => Nat.le_refl _
  | .cons s r, g, b, t => by
    rw [layB]
    have h1 := w_layB r g b (layS s g b t)
    have h2 := w_layS s g b t
    simp only [wB]
    omega
end
end Fb
set_option Elab.async false
set_option linter.all false
set_option maxRecDepth 100000
set_option maxHeartbeats 2000000
namespace Fb
open PySem PySem.Spec PyProof.Rows L2
/-! ### what may change -/
def Mod (S : List Addr) (H H' : Hp) : Prop := ∀ b o, H b = some o → b ∉ S → H' b = some o
theorem Mod.refl (S : List Addr) (H : Hp) : Mod S H H := fun _ _ e _ => e
theorem Mod.trans {S : List Addr} {H H1 H2 : Hp} (a : Mod S H H1) (b : Mod S H1 H2) : Mod S H H2 := fun c o e h => b c o (a c o e h) h
theorem Mod.of {S : List Addr} {H H' : Hp} (s : Same H H') : Mod S H H' := fun b o e _ => s b o e
theorem Mod.wide {S S' : List Addr} {H H' : Hp} (m : Mod S H H') (h : ∀ b ∈ S, b ∈ S') : Mod S' H H' := fun b o e z => m b o e fun q => z (h b q)
theorem Mod.put {S : List Addr} {H H' : Hp} {p : Addr} {o : HO} (m : Mod S H H') (h : p ∈ S ∨ H p = none) : Mod S H (L2.upd H' p o) := fun b x e z => by
  rcases h with h | h
  · rw [upd_ne (show b ≠ p from fun q => z (by rw [q]; exact h))]
    exact m b x e z
  · rw [upd_ne (ne_of_none e h)]
    exact m b x e z
theorem Mod.same {H H' : Hp} (m : Mod [] H H') : Same H H' := fun b o e => m b o e (by simp)
/-- what an object bears for ever -/
def Fix : HO → Prop
  | .tup _ => True
  | .frz _ _ => True
  | .ins _ _ _ => True
  | _ => False
def Ext (H H' : Hp) : Prop := ∀ b o, H b = some o → Fix o → H' b = some o
theorem Ext.refl (H : Hp) : Ext H H := fun _ _ e _ => e
theorem Ext.trans {H H1 H2 : Hp} (a : Ext H H1) (b : Ext H1 H2) : Ext H H2 := fun c o e f => b c o (a c o e f) f
theorem Same.ext {H H' : Hp} (s : Same H H') : Ext H H' := fun b o e _ => s b o e
theorem Mod.ext {S : List Addr} {H H' : Hp} (m : Mod S H H') (h : ∀ b ∈ S, ∀ o, H b = some o → ¬ Fix o) : Ext H H' := fun b o e f => m b o e fun q => h b q o e f
theorem no_lst {H : Hp} {a : Addr} {xs : List V} (h : H a = some (.lst xs)) : ∀ o, H a = some o → ¬ Fix o := fun o e => by
  rw [h] at e
  cases e
  exact id
theorem no_dk {H : Hp} {a : Addr} {xs : List (Key × V)} (h : H a = some (.dK xs)) : ∀ o, H a = some o → ¬ Fix o := fun o e => by
  rw [h] at e
  cases e
  exact id
theorem no_none {H : Hp} {a : Addr} (h : H a = none) : ∀ o, H a = some o → ¬ Fix o := fun o e => by
  rw [h] at e
  cases e
/-! ### data without lists stays -/
mutual
def noL : PyData → Bool
  | .none | .bool _ | .int _ | .str _ => true
  | .tuple xs => noLs xs
  | _ => false
def noLs : List PyData → Bool
  | [] => true
  | x :: xs => noL x && noLs xs
end
/-! tuples alone -/
def FixT : HO → Prop
  | .tup _ => True
  | .frz _ _ => True
  | _ => False
def ExtT (H H' : Hp) : Prop := ∀ b o, H b = some o → FixT o → H' b = some o
theorem Ext.t {H H' : Hp} (e : Ext H H') : ExtT H H' := fun b o h f => e b o h (by cases o <;> first | exact True.intro | exact f.elim)
theorem ExtT.trans {H H1 H2 : Hp} (a : ExtT H H1) (b : ExtT H1 H2) : ExtT H H2 := fun c o e f => b c o (a c o e f) f
theorem Mod.extT {S : List Addr} {H H' : Hp} (m : Mod S H H') (h : ∀ b ∈ S, ∀ o, H b = some o → ¬ FixT o) : ExtT H H' := fun b o e f => m b o e fun q => h b q o e f
theorem noT_ins {H : Hp} {a C dx : Addr} {fs : List (Str × V)} (h : H a = some (.ins C dx fs)) : ∀ o, H a = some o → ¬ FixT o := fun o e => by
  rw [h] at e
  cases e
  exact id
theorem noT_of {H : Hp} {a : Addr} (h : ∀ o, H a = some o → ¬ Fix o) : ∀ o, H a = some o → ¬ FixT o := fun o e f => h o e (by cases o <;> first | exact True.intro | exact f.elim)
theorem sqT_extT {K : PySem.W.Frag} {H H' : Hp} {a : Addr} {xs : List V} (e : ExtT H H') (h : SqT K H a xs) : SqT K H' a xs := by
  rcases h with (h | ⟨o, h⟩) | h
  · exact .inl (.inl (e _ _ h True.intro))
  · exact .inl (.inr ⟨o, e _ _ h True.intro⟩)
  · exact .inr h
mutual
theorem dp_extT {K : PySem.W.Frag} {H H' : Hp} (e : ExtT H H') : ∀ (d : PyData) (v : V), Dp K H v d → noL d = true → Dp K H' v d
  | .none, _, h, _ => by cases h; exact .non
  | .bool b, _, h, _ => by cases h; exact .bl b
  | .int i, _, h, _ => by cases h; exact .int i
  | .str x, _, h, _ => by cases h; exact .str x
  | .list _, _, _, n => by simp [noL] at n
  | .dict _, _, _, n => by simp [noL] at n
  | .tuple ds, _, h, n => by
    cases h with
    | tup a b => exact .tup (sqT_extT e a) (dps_extT e ds _ b (by simpa [noL] using n))
theorem dps_extT {K : PySem.W.Frag} {H H' : Hp} (e : ExtT H H') : ∀ (ds : List PyData) (vs : List V), DpAll K H vs ds → noLs ds = true → DpAll K H' vs ds
  | [], _, h, _ => by cases h; exact .nil
  | d :: ds, _, h, n => by
    cases h with
    | cons a b =>
      rw [noLs, Bool.and_eq_true] at n
      exact .cons (dp_extT e d _ a n.1) (dps_extT e ds _ b n.2)
end
theorem sqT_ext {K : PySem.W.Frag} {H H' : Hp} {a : Addr} {xs : List V} (e : Ext H H') (h : SqT K H a xs) : SqT K H' a xs := sqT_extT e.t h
theorem dp_ext {K : PySem.W.Frag} {H H' : Hp} (e : Ext H H') (d : PyData) (v : V) (h : Dp K H v d) (n : noL d = true) : Dp K H' v d := dp_extT e.t d v h n
theorem dps_ext {K : PySem.W.Frag} {H H' : Hp} (e : Ext H H') (ds : List PyData) (vs : List V) (h : DpAll K H vs ds) (n : noLs ds = true) : DpAll K H' vs ds := dps_extT e.t ds vs h n
theorem dps_len {K : PySem.W.Frag} {H : Hp} : ∀ {vs : List V} {ds : List PyData}, DpAll K H vs ds → vs.length = ds.length
  | _, _, .nil => rfl
  | _, _, .cons _ t => by rw [List.length_cons, List.length_cons, dps_len t]
theorem dps_snoc {K : PySem.W.Frag} {H : Hp} {v : V} {d : PyData} : ∀ {vs : List V} {ds : List PyData}, DpAll K H vs ds → Dp K H v d → DpAll K H (vs ++ [v]) (ds ++ [d])
  | _, _, .nil, h => .cons h .nil
  | _, _, .cons a t, h => .cons a (dps_snoc t h)
theorem dps_app {K : PySem.W.Frag} {H : Hp} {ws : List V} {es : List PyData} (h : DpAll K H ws es) : ∀ {vs : List V} {ds : List PyData}, DpAll K H vs ds → DpAll K H (vs ++ ws) (ds ++ es)
  | _, _, .nil => h
  | _, _, .cons a t => .cons a (dps_app h t)
theorem dps_at {K : PySem.W.Frag} {H : Hp} : ∀ {vs : List V} {ds : List PyData} {i : Nat} {v : V}, DpAll K H vs ds → vs[i]? = some v → ∃ d, ds[i]? = some d ∧ Dp K H v d
  | _, _, 0, _, .cons a _, h => ⟨_, rfl, by cases h; exact a⟩
  | _, _, i + 1, _, .cons _ t, h => dps_at (i := i) t h
  | _, _, _, _, .nil, h => by cases h
theorem dps_strs {K : PySem.W.Frag} {H : Hp} : ∀ ps : List Str, DpAll K H (ps.map V.str) (ps.map PyData.str)
  | [] => .nil
  | p :: r => .cons (.str p) (dps_strs r)
theorem strs_of {K : PySem.W.Frag} {H : Hp} : ∀ {ps : List Str} {vs : List V}, DpAll K H vs (ps.map PyData.str) → vs = ps.map V.str
  | [], _, .nil => rfl
  | p :: r, _, .cons a t => by
    cases a
    rw [strs_of t]
    rfl
/-! ### sizes of what is shown -/
structure Sh (d : PyData) (n m : Nat) : Prop where
  sw : d.showable = true
  nd : d.hasDict = false
  dp : d.depth ≤ m
  ln : d.shown.length ≤ n
  cl : d.canLay0 = true
theorem sh_none (n m : Nat) (h : 4 ≤ n) : Sh .none n m := ⟨rfl, rfl, Nat.zero_le _, Nat.le_trans (by decide +kernel : (PyData.shown .none).length ≤ 4) h, rfl⟩
theorem sh_int {i : Int} {n m : Nat} (h : i.natAbs < 1000000000000) (hn : 13 ≤ n) : Sh (.int i) n m := by
  refine ⟨?_, rfl, Nat.zero_le _, Nat.le_trans (PyData.shown_int_le h) hn, rfl⟩
  show decide (i.natAbs.log2 < 1920) = true
  exact decide_eq_true (Nat.lt_of_lt_of_le (PySem.Flt.log2_lt_of (k := 40) (by decide) (Nat.lt_of_lt_of_le h (by decide))) (by decide))
theorem str_low {x : Str} (hc : ∀ c ∈ x.cps.toList, c < 128) : PyData.canLay0 (.str x) = true := by
  show x.cps.all (· < 0x110000) = true
  rw [← Array.all_toList, List.all_eq_true]
  exact fun c z => decide_eq_true (Nat.lt_trans (hc c z) (by decide))
theorem sh_str {x : Str} {k n m : Nat} (h : x.length ≤ k) (hc : ∀ c ∈ x.cps.toList, c < 128) (hn : 10 * k + 2 ≤ n) : Sh (.str x) n m :=
  ⟨rfl, rfl, Nat.zero_le _, Nat.le_trans (StrLaws.reprText_len x fun c z => Nat.lt_trans (hc c z) (by decide)) (by omega), str_low hc⟩
structure ShA (ds : List PyData) (n m : Nat) : Prop where
  sw : PyData.showableAll ds = true
  nd : PyData.hasDictAll ds = false
  dp : PyData.depthAll ds ≤ m
  ln : ((PyData.shownAll ds).map (·.length)).sum + 2 * ds.length ≤ n
  cl : PyData.canLayAll0 ds = true
theorem sha_nil (n m : Nat) : ShA [] n m := ⟨rfl, rfl, Nat.zero_le _, Nat.zero_le _, rfl⟩
theorem sha_cons {d : PyData} {ds : List PyData} {a b m : Nat} (h : Sh d a m) (t : ShA ds b m) : ShA (d :: ds) (a + 2 + b) m := by
  refine ⟨?_, ?_, ?_, ?_, ?_⟩
  · rw [PyData.showableAll, h.sw, t.sw]; rfl
  · rw [PyData.hasDictAll, h.nd, t.nd]; rfl
  · rw [PyData.depthAll]; exact Nat.max_le.mpr ⟨h.dp, t.dp⟩
  · rw [PyData.shownAll, List.map_cons, List.sum_cons, List.length_cons]
    have := h.ln
    have := t.ln
    omega
  · rw [PyData.canLayAll0, h.cl, t.cl]; rfl
theorem ShA.mono {ds : List PyData} {a b m m' : Nat} (h : ShA ds a m) (h1 : a ≤ b) (h2 : m ≤ m') : ShA ds b m' := ⟨h.sw, h.nd, Nat.le_trans h.dp h2, Nat.le_trans h.ln h1, h.cl⟩
theorem Sh.mono {d : PyData} {a b m m' : Nat} (h : Sh d a m) (h1 : a ≤ b) (h2 : m ≤ m') : Sh d b m' := ⟨h.sw, h.nd, Nat.le_trans h.dp h2, Nat.le_trans h.ln h1, h.cl⟩
theorem sha_all {a m : Nat} : ∀ {ds : List PyData}, (∀ d ∈ ds, Sh d a m) → ShA ds (ds.length * (a + 2)) m
  | [], _ => sha_nil _ _
  | d :: ds, h => (sha_cons (h d List.mem_cons_self) (sha_all fun e z => h e (List.mem_cons_of_mem _ z))).mono (by rw [List.length_cons, Nat.succ_mul]; omega) (Nat.le_refl _)
theorem shown_len : ∀ ds : List PyData, (PyData.shownAll ds).length = ds.length
  | [] => rfl
  | _ :: r => by rw [PyData.shownAll, List.length_cons, List.length_cons, shown_len r]
theorem sh_tup {ds : List PyData} {n m : Nat} (h : ShA ds n m) : Sh (.tuple ds) (n + 3) (m + 1) := by
  refine ⟨h.sw, h.nd, Nat.succ_le_succ h.dp, ?_, h.cl⟩
  have z := tupleText_len_le (PyData.shownAll ds)
  rw [shown_len] at z
  have := h.ln
  show (tupleText (PyData.shownAll ds)).length ≤ _
  omega
theorem sh_lst {ds : List PyData} {n m : Nat} (h : ShA ds n m) : Sh (.list ds) (n + 3) (m + 1) := by
  refine ⟨h.sw, h.nd, Nat.succ_le_succ h.dp, ?_, h.cl⟩
  have z := listText_len_le (PyData.shownAll ds)
  rw [shown_len] at z
  have := h.ln
  show (listText (PyData.shownAll ds)).length ≤ _
  omega
theorem Sh.shaped {d : PyData} {n m : Nat} (h : Sh d n m) (hm : m ≤ 64) : SeqAt.shaped d = true := by
  unfold SeqAt.shaped
  rw [h.cl, Bool.true_and]
  exact decide_eq_true (Nat.le_trans h.dp hm)
/-! ### good statements -/
def nm (x : Str) : Prop := x.length ≤ 20 ∧ ∀ c ∈ x.cps.toList, c < 128
def Lf (d : PyData) : Prop := noL d = true ∧ Sh d 202 0
mutual
def goodS : Stm → Prop
  | .mk _ x r _ => nm x ∧ noLs r = true ∧ ShA r 1300 1
  | .no _ r _ => noLs r = true ∧ ShA r 1300 1
  | .fn x ps b => nm x ∧ ps.length ≤ 4 ∧ (∀ p ∈ ps, nm p) ∧ goodB b
  | .ite a b1 b2 => Lf a ∧ goodB b1 ∧ goodB b2
  | .whl a b => Lf a ∧ goodB b
  | .tms _ x a b => nm x ∧ Lf a ∧ goodB b
def goodB : Blk → Prop
  | .nil => True
  | .cons s r => goodS s ∧ goodB r
end
theorem noLs_all : ∀ {ds : List PyData}, (∀ d ∈ ds, noL d = true) → noLs ds = true
  | [], _ => rfl
  | d :: ds, h => by
    rw [noLs, h d List.mem_cons_self, noLs_all fun e z => h e (List.mem_cons_of_mem _ z)]
    rfl
theorem noLs_strs (ps : List Str) : noLs (ps.map PyData.str) = true := noLs_all fun d h => by
  obtain ⟨x, _, rfl⟩ := List.mem_map.mp h
  rfl
mutual
theorem noL_dS : ∀ s : Stm, goodS s → noL (dS s) = true
  | .mk w x r h, g => by
    rw [goodS] at g
    rw [dS, noL, noLs, noLs, g.2.1]
    rfl
  | .no w r h, g => by
    rw [goodS] at g
    rw [dS, noL, noLs, g.1]
    rfl
  | .fn x ps b, g => by
    rw [goodS] at g
    simp only [dS, noL, noLs, noLs_strs, noL_dB b g.2.2.2, Bool.and_true]
  | .ite a b1 b2, g => by
    rw [goodS] at g
    simp only [dS, noL, noLs, g.1.1, noL_dB b1 g.2.1, noL_dB b2 g.2.2, Bool.and_true]
  | .whl a b, g => by
    rw [goodS] at g
    simp only [dS, noL, noLs, g.1.1, noL_dB b g.2, Bool.and_true]
  | .tms one x a b, g => by
    rw [goodS] at g
    simp only [dS, noL, noLs, g.2.1.1, noL_dB b g.2.2, Bool.and_true]
theorem noL_dB : ∀ b : Blk, goodB b → noLs (dB b) = true
  | .nil, _ => rfl
  | .cons s r, g => by
    rw [goodB] at g
    rw [dB, noLs, noL_dS s g.1, noL_dB r g.2]
    rfl
end
theorem noL_blk {b : Blk} (g : goodB b) : noL (.tuple (dB b)) = true := by
  rw [noL]
  exact noL_dB b g
end Fb
set_option Elab.async false
set_option linter.all false
set_option maxRecDepth 100000
set_option maxHeartbeats 2000000
namespace Fb
open PySem PySem.Spec PyProof.Rows L2
section
variable {K : PySem.W.Frag} {H : Hp} {v : V}
theorem view_tup {ds : List PyData} (h : Dp K H v (.tuple ds)) : ∃ a vs, v = .ref a ∧ SqT K H a vs ∧ DpAll K H vs ds := by
  cases h with
  | tup a b => exact ⟨_, _, rfl, a, b⟩
theorem view_mk {w x : Str} {r : List PyData} {h0} (h : Dp K H v (dS (.mk w x r h0))) : ∃ a rs, v = .ref a ∧ SqT K H a (.str w :: .str x :: rs) ∧ DpAll K H rs r := by
  rw [dS] at h
  obtain ⟨a, vs, rfl, q, z⟩ := view_tup h
  cases z with
  | cons z1 z => cases z1; cases z with
    | cons z2 z => cases z2; exact ⟨a, _, rfl, q, z⟩
theorem view_no {w : Str} {r : List PyData} {h0} (h : Dp K H v (dS (.no w r h0))) : ∃ a rs, v = .ref a ∧ SqT K H a (.str w :: rs) ∧ DpAll K H rs r := by
  rw [dS] at h
  obtain ⟨a, vs, rfl, q, z⟩ := view_tup h
  cases z with
  | cons z1 z => cases z1; exact ⟨a, _, rfl, q, z⟩
theorem view_fn {x : Str} {ps : List Str} {b : Blk} (h : Dp K H v (dS (.fn x ps b))) : ∃ a pa ba, v = .ref a ∧ SqT K H a [.str "fn", .str x, .ref pa, .ref ba] ∧ SqT K H pa (ps.map V.str) ∧ Dp K H (.ref ba) (.tuple (dB b)) := by
  rw [dS] at h
  obtain ⟨a, vs, rfl, q, z⟩ := view_tup h
  cases z with
  | cons z1 z => cases z1; cases z with
    | cons z2 z => cases z2; cases z with
      | cons z3 z =>
        obtain ⟨pa, us, rfl, q3, y3⟩ := view_tup z3
        cases strs_of y3
        cases z with
        | cons z4 z =>
          obtain ⟨ba, ws, rfl, q4, y4⟩ := view_tup z4
          cases z
          exact ⟨a, pa, ba, rfl, q, q3, z4⟩
theorem view_ite {c : PyData} {b1 b2 : Blk} (h : Dp K H v (dS (.ite c b1 b2))) : ∃ a u p1 p2, v = .ref a ∧ SqT K H a [.str "if", u, .ref p1, .ref p2] ∧ Dp K H (.ref p1) (.tuple (dB b1)) ∧ Dp K H (.ref p2) (.tuple (dB b2)) := by
  rw [dS] at h
  obtain ⟨a, vs, rfl, q, z⟩ := view_tup h
  cases z with
  | cons z1 z => cases z1; cases z with
    | cons z2 z => cases z with
      | cons z3 z =>
        obtain ⟨p1, us, rfl, q3, y3⟩ := view_tup z3
        cases z with
        | cons z4 z =>
          obtain ⟨p2, ws, rfl, q4, y4⟩ := view_tup z4
          cases z
          exact ⟨a, _, p1, p2, rfl, q, z3, z4⟩
theorem view_whl {c : PyData} {b : Blk} (h : Dp K H v (dS (.whl c b))) : ∃ a u p, v = .ref a ∧ SqT K H a [.str "while", u, .ref p] ∧ Dp K H (.ref p) (.tuple (dB b)) := by
  rw [dS] at h
  obtain ⟨a, vs, rfl, q, z⟩ := view_tup h
  cases z with
  | cons z1 z => cases z1; cases z with
    | cons z2 z => cases z with
      | cons z3 z =>
        obtain ⟨p, us, rfl, q3, y3⟩ := view_tup z3
        cases z
        exact ⟨a, _, p, rfl, q, z3⟩
theorem view_tms {one : Bool} {x : Str} {c : PyData} {b : Blk} (h : Dp K H v (dS (.tms one x c b))) : ∃ a u p, v = .ref a ∧ SqT K H a [.str "times", .str (modeS one), .str x, u, .ref p] ∧ Dp K H (.ref p) (.tuple (dB b)) := by
  rw [dS] at h
  obtain ⟨a, vs, rfl, q, z⟩ := view_tup h
  cases z with
  | cons z1 z => cases z1; cases z with
    | cons z2 z => cases z2; cases z with
      | cons z3 z => cases z3; cases z with
        | cons z4 z => cases z with
          | cons z5 z =>
            obtain ⟨p, us, rfl, q5, y5⟩ := view_tup z5
            cases z
            exact ⟨a, _, p, rfl, q, z5⟩
end
/-! rules that name the written part (for blocks of comprehensions) -/
theorem pe_fldK {X : Cx} (K0 : PySem.W.Frag) (hK : X.K = K0) {e : Expr} {ta : TE} {f : Str} {pos : Pos} (he : PE X e ta) (hb : attributeBase e f X.env (eval e X.env) = eval e X.env) : PE X (.Attribute e f pos) (tFld K0 ta f) := by
  subst hK
  exact pe_fld he hb
theorem pg_tupK {X : Cx} (K0 : PySem.W.Frag) (hK : X.K = K0) {es : List Expr} {k : Nat} {pos : Pos} {n : Nat} {t : TGs} (hc : X.calm = true) (h : PGs X es t) (hn : (assignEach es X.env).length = n := by rfl) (hst : (assignEach es X.env).findIdx? (·.1) = none := by rfl) : PG X (.Tuple es k pos) (gTup K0 n t) := by
  subst hK
  exact pg_tup hc h hn hst
theorem ixL {X : Cx} (K0 : PySem.W.Frag) (hK : X.K = K0) : IxR X (rIxL K0) := by
  subst hK
  exact ix_list
theorem ixT {X : Cx} (K0 : PySem.W.Frag) (hK : X.K = K0) : IxR X (rIxT K0) := by
  subst hK
  exact ix_tup
/-- the word of a statement -/
def wordS : Stm → Str
  | .mk w .. => w
  | .no w .. => w
  | .fn .. => "fn"
  | .ite .. => "if"
  | .whl .. => "while"
  | .tms .. => "times"
theorem view_any {K : PySem.W.Frag} {H : Hp} {v : V} {s : Stm} (h : Dp K H v (dS s)) : ∃ a xs, v = .ref a ∧ SqT K H a xs ∧ xs[0]? = some (.str (wordS s)) := by
  cases s with
  | mk w x r h0 =>
    obtain ⟨a, rs, e, q, _⟩ := view_mk h
    exact ⟨a, _, e, q, rfl⟩
  | no w r h0 =>
    obtain ⟨a, rs, e, q, _⟩ := view_no h
    exact ⟨a, _, e, q, rfl⟩
  | fn x ps b =>
    obtain ⟨a, _, _, e, q, _⟩ := view_fn h
    exact ⟨a, _, e, q, rfl⟩
  | ite c b1 b2 =>
    obtain ⟨a, _, _, _, e, q, _⟩ := view_ite h
    exact ⟨a, _, e, q, rfl⟩
  | whl c b =>
    obtain ⟨a, _, _, e, q, _⟩ := view_whl h
    exact ⟨a, _, e, q, rfl⟩
  | tms one x c b =>
    obtain ⟨a, _, _, e, q, _⟩ := view_tms h
    exact ⟨a, _, e, q, rfl⟩
/-! which word it is -/
abbrev mkW : List Str := ["let", "sum", "call"]
theorem mkW_in {w : Str} (h : w = "let" ∨ w = "sum" ∨ w = "call") : inV (.str w) (mkW.map V.str) = true := by
  rcases h with e | e | e <;> (subst e; decide +kernel)
theorem mkW_ne {w : Str} (h : w = "let" ∨ w = "sum" ∨ w = "call") : ¬ w = "fn" ∧ ¬ w = "if" ∧ ¬ w = "while" ∧ ¬ w = "times" := by
  rcases h with e | e | e <;> (subst e; decide +kernel)
theorem noW_in {w : Str} (h : w = "set" ∨ w = "tell" ∨ w = "give") : inV (.str w) (mkW.map V.str) = false := by
  rcases h with e | e | e <;> (subst e; decide +kernel)
theorem noW_ne {w : Str} (h : w = "set" ∨ w = "tell" ∨ w = "give") : ¬ w = "fn" ∧ ¬ w = "if" ∧ ¬ w = "while" ∧ ¬ w = "times" := by
  rcases h with e | e | e <;> (subst e; decide +kernel)
/-! what a statement makes; its blocks -/
def madeD : Stm → Nat → Nat → Nat → List PyData
  | .mk _ x _ _, k, g, _ => [rowM x k g]
  | .fn x ps _, k, g, f => rowM x k g :: ps.map fun p => rowM p k f
  | .tms _ x _ _, k, _, f => [rowM x k f]
  | _, _, _, _ => []
def blks : Stm → List (Str × Blk)
  | .fn _ _ b => [("body", b)]
  | .ite _ b1 b2 => [("one", b1), ("other", b2)]
  | .whl _ b => [("while", b)]
  | .tms _ _ _ b => [("times", b)]
  | _ => []
def kbD (q : Str × Blk) : PyData := .tuple [.str q.1, .tuple (dB q.2)]
def isOne : Stm → Bool
  | .tms true .. => true
  | _ => false
def isFn : Stm → Bool
  | .fn .. => true
  | _ => false
def arnd (s : Stm) (g f : Nat) : Nat := if isOne s then f else g
def bodN (s : Stm) (b n : Nat) : Nat := if isFn s then n else b
theorem metI_eq (s : Stm) (g b : Nat) (t : TS) : metI s g b t = (blks s).map fun q => .blk q.1 (nD t.pl.length) (nD (arnd s g t.gr.length)) (bodN s b t.bd.length) q.2 := by
  cases s with
  | tms one x c b => cases one <;> rfl
  | _ => rfl
theorem metT_pl (s : Stm) (g b : Nat) (t : TS) : (metT s g b t).pl = t.pl ++ [(dS s, g, b)] := by
  cases s with
  | tms one x c b => cases one <;> rfl
  | _ => rfl
theorem metT_mm (s : Stm) (g b : Nat) (t : TS) : (metT s g b t).mm = t.mm ++ madeD s t.pl.length g t.gr.length := by
  cases s with
  | tms one x c b => cases one <;> rfl
  | mk w x r h => rfl
  | fn x ps b => rfl
  | no w r h => exact (List.append_nil _).symm
  | ite c b1 b2 => exact (List.append_nil _).symm
  | whl c b => exact (List.append_nil _).symm
def bdD : Stm → Nat → List PyData
  | .fn _ ps _, k => [rowB (nD k) ps]
  | _, _ => []
def grD : Stm → Nat → Nat → List PyData
  | .tms true .., k, g => [rowG "head" (nD k) (nD g)]
  | _, _, _ => []
theorem metT_bd (s : Stm) (g b : Nat) (t : TS) : (metT s g b t).bd = t.bd ++ bdD s t.pl.length := by
  cases s with
  | fn x ps b => rfl
  | tms one x c b => cases one <;> exact (List.append_nil _).symm
  | _ => exact (List.append_nil _).symm
theorem metT_gr (s : Stm) (g b : Nat) (t : TS) : (metT s g b t).gr = t.gr ++ grD s t.pl.length g := by
  cases s with
  | tms one x c b =>
    cases one
    · exact (List.append_nil _).symm
    · rfl
  | _ => exact (List.append_nil _).symm
theorem madeD_len (s : Stm) (k g f : Nat) : (madeD s k g f).length ≤ wS s := by
  cases s with
  | tms one x c b => simp [madeD, wS]; omega
  | mk w x r h => simp [madeD, wS]
  | fn x ps b => simp [madeD, wS]; omega
  | no w r h => simp [madeD]
  | ite c b1 b2 => simp [madeD]
  | whl c b => simp [madeD]
theorem goodB_blks {s : Stm} (g : goodS s) : ∀ q ∈ blks s, goodB q.2 := by
  cases s with
  | mk w x r h => intro q z; cases z
  | no w r h => intro q z; cases z
  | fn x ps b =>
    rw [goodS] at g
    intro q z
    rw [List.mem_singleton.mp z]
    exact g.2.2.2
  | ite c b1 b2 =>
    rw [goodS] at g
    intro q z
    simp only [blks, List.mem_cons, List.not_mem_nil, or_false] at z
    rcases z with e | e
    · rw [e]; exact g.2.1
    · rw [e]; exact g.2.2
  | whl c b =>
    rw [goodS] at g
    intro q z
    rw [List.mem_singleton.mp z]
    exact g.2
  | tms one x c b =>
    rw [goodS] at g
    intro q z
    rw [List.mem_singleton.mp z]
    exact g.2.2
end Fb
set_option Elab.async false
set_option linter.all false
set_option maxRecDepth 100000
set_option maxHeartbeats 2000000
namespace Fb
open PySem PySem.Spec PyProof.Rows L2
mutual
def nS : Stm → Nat
  | .mk .. => 1
  | .no .. => 1
  | .fn _ _ b => 1 + nB b
  | .ite _ b1 b2 => 1 + nB b1 + nB b2
  | .whl _ b => 1 + nB b
  | .tms _ _ _ b => 1 + nB b
def nB : Blk → Nat
  | .nil => 0
  | .cons s r => nS s + nB r
end
mutual
theorem w9S : ∀ s : Stm, goodS s → wS s ≤ 9 * nS s
  | .mk .., _ => by simp only [wS, nS]; omega
  | .no .., _ => by simp only [wS, nS]; omega
  | .fn _ ps b, g => by
    rw [goodS] at g
    have := w9B b g.2.2.2
    simp only [wS, nS]; omega
  | .ite _ b1 b2, g => by
    rw [goodS] at g
    have := w9B b1 g.2.1
    have := w9B b2 g.2.2
    simp only [wS, nS]; omega
  | .whl _ b, g => by
    rw [goodS] at g
    have := w9B b g.2
    simp only [wS, nS]; omega
  | .tms _ _ _ b, g => by
    rw [goodS] at g
    have := w9B b g.2.2
    simp only [wS, nS]; omega
theorem w9B : ∀ b : Blk, goodB b → wB b ≤ 9 * nB b
  | .nil, _ => Nat.le_refl _
  | .cons s r, g => by
    rw [goodB] at g
    have := w9S s g.1
    have := w9B r g.2
    simp only [wB, nB]; omega
end
/-! ### some more rules -/
section
variable {X : Cx}
theorem mul_ok {z : Str} {n : Int} (h : n = 0 ∨ n = 1) : PySem.MulOk z n := by
  rcases h with rfl | rfl
  · exact ⟨by decide, fun a => absurd (by decide) a, fun a => absurd (by decide) a⟩
  · exact ⟨by decide, fun _ b => by simp at b, fun _ b => by simp at b⟩
theorem mul_is {z : Str} {n : Int} (h : n = 0 ∨ n = 1) : Txt.mul z n = if n = 1 then z else Str.empty := by
  rcases h with rfl | rfl
  · rfl
  · simp [Txt.mul]
theorem op_mul_s01 : OpR X (binaryOp .Mult) (fun x y H Q => ∃ (z : Str) (n : Int), x = .str z ∧ y = .int n ∧ (n = 0 ∨ n = 1) ∧ Q (.str (if n = 1 then z else Str.empty)) H) := by
  intro pins s σ H x y v u Q I rx ry h
  obtain ⟨z, n, rfl, rfl, hn, q⟩ := h
  obtain ⟨t, rfl⟩ := rx
  obtain ⟨t2, rfl⟩ := ry
  refine SB.mul (mul_ok hn) fun t' k => ?_
  rw [mul_is hn]
  exact ⟨.str _, H, I.tok _, ⟨_, rfl⟩, q⟩
theorem lenK (K0 : PySem.W.Frag) (hK : X.K = K0) : CallR X (.builtin "len") (fun xs H Q => ∃ p ys, xs = [.ref p] ∧ (SqL K0 H p ys ∨ SqT K0 H p ys) ∧ Q (.int ys.length) H) := by
  subst hK
  exact call_len_seq
theorem inK (K0 : PySem.W.Frag) (hK : X.K = K0) : OpR X (compareOp .In) (rIn K0 false) := by
  subst hK
  exact op_in_seq
end
/-! ### a block that grows behind -/
def snoc : Blk → Stm → Blk
  | .nil, s => .cons s .nil
  | .cons x r, s => .cons x (snoc r s)
theorem dB_snoc : ∀ (b : Blk) (s : Stm), dB (snoc b s) = dB b ++ [dS s]
  | .nil, s => by rw [snoc, dB, dB, dB]; rfl
  | .cons x r, s => by rw [snoc, dB, dB, dB_snoc r s]; rfl
theorem goodB_snoc : ∀ {b : Blk} {s : Stm}, goodB b → goodS s → goodB (snoc b s)
  | .nil, s, _, h => by rw [snoc, goodB, goodB]; exact ⟨h, True.intro⟩
  | .cons x r, s, g, h => by
    rw [goodB] at g
    rw [snoc, goodB]
    exact ⟨g.1, goodB_snoc g.2 h⟩
theorem nB_snoc : ∀ (b : Blk) (s : Stm), nB (snoc b s) = nB b + nS s
  | .nil, s => by rw [snoc, nB, nB, nB]; omega
  | .cons x r, s => by rw [snoc, nB, nB, nB_snoc r s]; omega
/-! ### the world of names -/
def wD (ln : Addr) (m : Nat) : List (Key × V) := [(.inr "names", .ref ln), (.inr "left", .int (m : Int))]
theorem ne_nl2 : ¬ (kx "names" = kx "left") := by decide +kernel
section
variable {ln wd : Addr} {m x : Nat} {H : Hp}
theorem gw_names (h : H wd = some (.dK (wD ln m))) : DGet H wd (.str "names") (some (.ref ln)) := by
  have z := DGet.k (k := kx "names") h
  rw [show valV (wD ln m) (kx "names") = some (.ref ln) from valV_pos rfl] at z
  exact z
theorem gw_left (h : H wd = some (.dK (wD ln m))) : DGet H wd (.str "left") (some (.int (m : Int))) := by
  have z := DGet.k (k := kx "left") h
  rw [show valV (wD ln m) (kx "left") = some (.int (m : Int)) from (valV_neg ne_nl2).trans (valV_pos rfl)] at z
  exact z
theorem uw_left (h : H wd = some (.dK (wD ln m))) : DPut H wd (.str "left") (.int (x : Int)) (L2.upd H wd (.dK (wD ln x))) := by
  refine .inl ⟨wD ln m, .inr "left", h, rfl, ?_, ?_⟩
  · show 2 < sizeLine
    exact small1000 (by decide)
  · have a := ne_nl2
    have e : putK (wD ln m) (.inr "left") (.int (x : Int)) = wD ln x := by simp [putK, wD, a]
    rw [e]
end
theorem merge_w {ln : Addr} {m : Nat} : mergeK [] (wD ln m) = wD ln m := by
  have a := ne_nl2
  simp [mergeK, putK, wD, a]
structure GenAt (H : Hp) (d l wd ln : Addr) (ns : List Str) (m : Nat) : Prop where
  dl : DealAt H d l
  wa : H wd = some (.dK (wD ln m))
  na : H ln = some (.lst (ns.map V.str))
  n0 : 0 < ns.length
  n1 : ns.length ≤ 100
  gd : ∀ x ∈ ns, nm x
  e1 : wd ≠ d
  e2 : ln ≠ l
theorem GenAt.dealt {H H' : Hp} {d l wd ln : Addr} {ns : List Str} {m : Nat} (g : GenAt H d l wd ln ns m) (D : DealAt H' d l) (k : Keep d l H H') : GenAt H' d l wd ln ns m := by
  obtain ⟨s, n, xs, z⟩ := g.dl
  have a1 : wd ≠ l := ne_of g.wa z.2.1 (by intro q; cases q)
  have a2 : ln ≠ d := ne_of g.na z.1 (by intro q; cases q)
  exact ⟨D, k _ _ g.wa g.e1 a1, k _ _ g.na a2 g.e2, g.n0, g.n1, g.gd, g.e1, g.e2⟩
theorem GenAt.same {H H' : Hp} {d l wd ln : Addr} {ns : List Str} {m : Nat} (g : GenAt H d l wd ln ns m) (s : Same H H') : GenAt H' d l wd ln ns m :=
  ⟨g.dl.same s, s _ _ g.wa, s _ _ g.na, g.n0, g.n1, g.gd, g.e1, g.e2⟩
/-- another object changes -/
theorem GenAt.upd {H : Hp} {d l wd ln p : Addr} {ns : List Str} {m : Nat} {o : HO} (g : GenAt H d l wd ln ns m) (h : p ∉ [d, l, wd, ln]) : GenAt (L2.upd H p o) d l wd ln ns m := by
  simp only [List.mem_cons, List.not_mem_nil, or_false, not_or] at h
  exact ⟨g.dl.upd h.1 h.2.1, by rw [upd_ne (Ne.symm h.2.2.1)]; exact g.wa, by rw [upd_ne (Ne.symm h.2.2.2)]; exact g.na, g.n0, g.n1, g.gd, g.e1, g.e2⟩
theorem GenAt.fresh {H : Hp} {d l wd ln p : Addr} {ns : List Str} {m : Nat} (g : GenAt H d l wd ln ns m) (h : H p = none) : p ∉ [d, l, wd, ln] := by
  simp only [List.mem_cons, List.not_mem_nil, or_false, not_or]
  exact ⟨g.dl.d_ne h, g.dl.l_ne h, (ne_of_none g.wa h).symm, (ne_of_none g.na h).symm⟩
theorem GenAt.left {H : Hp} {d l wd ln : Addr} {ns : List Str} {m x : Nat} (g : GenAt H d l wd ln ns m) : GenAt (L2.upd H wd (.dK (wD ln x))) d l wd ln ns x := by
  obtain ⟨s, n, xs, z⟩ := g.dl
  have a1 : wd ≠ l := ne_of g.wa z.2.1 (by intro q; cases q)
  have a3 : ln ≠ wd := ne_of g.na g.wa (by intro q; cases q)
  exact ⟨⟨s, n, xs, by rw [upd_ne g.e1.symm]; exact z.1, by rw [upd_ne a1.symm]; exact z.2.1, z.2.2⟩, upd_same, by rw [upd_ne a3]; exact g.na, g.n0, g.n1, g.gd, g.e1, g.e2⟩
theorem Keep.mod {d l wd : Addr} {H H' : Hp} (k : Keep d l H H') : Mod [d, l, wd] H H' := fun b o e h => by
  simp only [List.mem_cons, List.not_mem_nil, or_false, not_or] at h
  exact k b o e h.1 h.2.1
theorem GenAt.ext {H H' : Hp} {d l wd ln : Addr} {ns : List Str} {m : Nat} (g : GenAt H d l wd ln ns m) (k : Mod [d, l, wd] H H') : Ext H H' := by
  obtain ⟨s, n, xs, z⟩ := g.dl
  refine k.ext fun b hb => ?_
  simp only [List.mem_cons, List.not_mem_nil, or_false] at hb
  rcases hb with e | e | e <;> subst e
  · exact no_dk z.1
  · exact no_lst z.2.1
  · exact no_dk g.wa
theorem Keep.ext {d l : Addr} {H H' : Hp} (D : DealAt H d l) (k : Keep d l H H') : Ext H H' := fun b o e f => by
  obtain ⟨s, n, xs, z⟩ := D
  exact k b o e (fun q => no_dk z.1 o (by rw [← q]; exact e) f) (fun q => no_lst z.2.1 o (by rw [← q]; exact e) f)
/-! ### atoms -/
def At (v : V) (d : PyData) : Prop := (∃ x, v = .str x ∧ d = .str x ∧ nm x) ∨ ∃ n : Int, v = .int n ∧ d = .int n ∧ 0 ≤ n ∧ n < 1000000000
theorem At.dp {K : PySem.W.Frag} {H : Hp} {v : V} {d : PyData} (h : At v d) : Dp K H v d := by
  rcases h with ⟨x, rfl, rfl, _⟩ | ⟨n, rfl, rfl, _⟩
  · exact .str x
  · exact .int n
theorem nm_sh {x : Str} {n m : Nat} (h : nm x) (hn : 202 ≤ n) : Sh (.str x) n m := sh_str h.1 h.2 hn
theorem At.lf {v : V} {d : PyData} (h : At v d) : Lf d := by
  rcases h with ⟨x, rfl, rfl, hx⟩ | ⟨n, rfl, rfl, h0, h1⟩
  · exact ⟨rfl, nm_sh hx (Nat.le_refl _)⟩
  · exact ⟨rfl, sh_int (by omega) (by decide)⟩
theorem Lf.sh {d : PyData} {m : Nat} (h : Lf d) : Sh d 202 m := h.2.mono (Nat.le_refl _) (Nat.zero_le _)
/-! ### what is shown of a statement -/
theorem sh_ps {ps : List Str} (h : ps.length ≤ 4) (g : ∀ p ∈ ps, nm p) : Sh (.tuple (ps.map PyData.str)) 819 1 := by
  refine (sh_tup (sha_all (a := 202) (m := 0) fun d z => ?_)).mono ?_ (Nat.le_refl _)
  · obtain ⟨x, hx, rfl⟩ := List.mem_map.mp z
    exact nm_sh (g x hx) (Nat.le_refl _)
  · rw [List.length_map]
    have : ps.length * (202 + 2) ≤ 4 * (202 + 2) := Nat.mul_le_mul_right _ h
    omega
theorem sh_word {x : Str} {n m : Nat} (h : nm x) (h2 : x.length ≤ 5) (hn : 52 ≤ n) : Sh (.str x) n m := sh_str h2 h.2 hn
theorem nm_words : ∀ x ∈ (["let", "sum", "call", "set", "tell", "give", "fn", "if", "while", "times", "one", "own", "body", "other", "head"] : List Str), x.length ≤ 5 ∧ ∀ c ∈ x.cps.toList, c < 128 := by decide +kernel
theorem sh_w {x : Str} {m : Nat} (h : x ∈ (["let", "sum", "call", "set", "tell", "give", "fn", "if", "while", "times", "one", "own", "body", "other", "head"] : List Str)) : Sh (.str x) 52 m := sh_str (nm_words x h).1 (nm_words x h).2 (by decide)
theorem Sh.deep {d : PyData} {n m : Nat} (h : Sh d n m) : Sh d n d.depth := ⟨h.sw, h.nd, Nat.le_refl _, h.ln, h.cl⟩
mutual
theorem shS : ∀ s : Stm, goodS s → ∃ m, Sh (dS s) (1602 * nS s - 2) m
  | .mk w x r h, g => by
    rw [goodS] at g
    have hw : w ∈ (["let", "sum", "call", "set", "tell", "give", "fn", "if", "while", "times", "one", "own", "body", "other", "head"] : List Str) := by rcases h with e | e | e <;> (subst e; decide +kernel)
    rw [dS]
    exact ⟨_, (sh_tup (sha_cons (sh_w hw) (sha_cons (nm_sh g.1 (Nat.le_refl _)) g.2.2))).mono (by simp only [nS]; omega) (Nat.le_refl _)⟩
  | .no w r h, g => by
    rw [goodS] at g
    have hw : w ∈ (["let", "sum", "call", "set", "tell", "give", "fn", "if", "while", "times", "one", "own", "body", "other", "head"] : List Str) := by rcases h with e | e | e <;> (subst e; decide +kernel)
    rw [dS]
    exact ⟨_, (sh_tup (sha_cons (sh_w hw) g.2)).mono (by simp only [nS]; omega) (Nat.le_refl _)⟩
  | .fn x ps b, g => by
    rw [goodS] at g
    obtain ⟨m, hm⟩ := shB b g.2.2.2
    rw [dS]
    refine ⟨(m + 1) + 1 + 1, (sh_tup (m := m + 1 + 1) (sha_cons (sh_w (by decide +kernel)) (sha_cons (nm_sh g.1 (Nat.le_refl _)) (sha_cons ((sh_ps g.2.1 g.2.2.1).mono (Nat.le_refl _) (by omega)) (sha_cons ((sh_tup hm).mono (Nat.le_refl _) (by omega)) (sha_nil 0 _)))))).mono (by simp only [nS]; omega) (Nat.le_refl _)⟩
  | .ite a b1 b2, g => by
    rw [goodS] at g
    obtain ⟨m1, h1⟩ := shB b1 g.2.1
    obtain ⟨m2, h2⟩ := shB b2 g.2.2
    rw [dS]
    refine ⟨m1 + m2 + 1 + 1, (sh_tup (m := m1 + m2 + 1) (sha_cons (sh_w (by decide +kernel)) (sha_cons g.1.sh (sha_cons ((sh_tup h1).mono (Nat.le_refl _) (by omega)) (sha_cons ((sh_tup h2).mono (Nat.le_refl _) (by omega)) (sha_nil 0 _)))))).mono (by simp only [nS]; omega) (Nat.le_refl _)⟩
  | .whl a b, g => by
    rw [goodS] at g
    obtain ⟨m, hm⟩ := shB b g.2
    rw [dS]
    refine ⟨m + 1 + 1, (sh_tup (m := m + 1) (sha_cons (sh_w (by decide +kernel)) (sha_cons g.1.sh (sha_cons ((sh_tup hm).mono (Nat.le_refl _) (by omega)) (sha_nil 0 _))))).mono (by simp only [nS]; omega) (Nat.le_refl _)⟩
  | .tms one x a b, g => by
    rw [goodS] at g
    obtain ⟨m, hm⟩ := shB b g.2.2
    have hw : modeS one ∈ (["let", "sum", "call", "set", "tell", "give", "fn", "if", "while", "times", "one", "own", "body", "other", "head"] : List Str) := by cases one <;> decide +kernel
    rw [dS]
    refine ⟨m + 1 + 1, (sh_tup (m := m + 1) (sha_cons (sh_w (by decide +kernel)) (sha_cons (sh_w hw) (sha_cons (nm_sh g.1 (Nat.le_refl _)) (sha_cons g.2.1.sh (sha_cons ((sh_tup hm).mono (Nat.le_refl _) (by omega)) (sha_nil 0 _))))))).mono (by simp only [nS]; omega) (Nat.le_refl _)⟩
theorem shB : ∀ b : Blk, goodB b → ∃ m, ShA (dB b) (1602 * nB b) m
  | .nil, _ => ⟨0, sha_nil _ _⟩
  | .cons s r, g => by
    rw [goodB] at g
    obtain ⟨m1, h1⟩ := shS s g.1
    obtain ⟨m2, h2⟩ := shB r g.2
    have : 1 ≤ nS s := by cases s <;> simp only [nS] <;> omega
    rw [dB]
    refine ⟨m1 + m2, (sha_cons (h1.mono (Nat.le_refl _) (Nat.le_add_right _ _)) (h2.mono (Nat.le_refl _) (Nat.le_add_left _ _))).mono ?_ (Nat.le_refl _)⟩
    simp only [nB]
    omega
end
end Fb
set_option Elab.async false
set_option linter.all false
set_option maxRecDepth 100000
set_option maxHeartbeats 2000000
namespace Fb
open PySem PySem.Spec PyProof.Rows L2
/-! ### blocks as lists; heights -/
def stms : Blk → List Stm
  | .nil => []
  | .cons s r => s :: stms r
theorem dB_stms : ∀ b : Blk, dB b = (stms b).map dS
  | .nil => rfl
  | .cons s r => by rw [dB, stms, List.map_cons, dB_stms r]
def layL (l : List Stm) (g b : Nat) (t : Fb.TS) : Fb.TS := l.foldl (fun t s => layS s g b t) t
theorem layB_stms : ∀ (blk : Blk) (g b : Nat) (t : Fb.TS), layB blk g b t = layL (stms blk) g b t
  | .nil, _, _, _ => rfl
  | .cons s r, g, b, t => by
    rw [layB, layB_stms r]
    rfl
theorem layL_snoc (l : List Stm) (s : Stm) (g b : Nat) (t : Fb.TS) : layL (l ++ [s]) g b t = layS s g b (layL l g b t) := by
  unfold layL
  rw [List.foldl_append]
  rfl
def wL (l : List Stm) : Nat := (l.map wS).sum
theorem wL_snoc (l : List Stm) (s : Stm) : wL (l ++ [s]) = wL l + wS s := by simp [wL]
theorem wB_stms : ∀ b : Blk, wB b = wL (stms b)
  | .nil => rfl
  | .cons s r => by
    rw [wB, stms, wB_stms r]
    simp [wL]
theorem w_layL : ∀ (l : List Stm) (g b : Nat) (t : Fb.TS), (layL l g b t).n ≤ t.n + wL l
  | [], _, _, _ => Nat.le_refl _
  | s :: r, g, b, t => by
    have h1 := w_layL r g b (layS s g b t)
    have h2 := w_layS s g b t
    have e : wL (s :: r) = wS s + wL r := by simp [wL]
    rw [e]
    show (layL r g b (layS s g b t)).n ≤ _
    omega
theorem wL_take (l : List Stm) (i : Nat) : wL (l.take i) ≤ wL l := by
  have h : wL l = wL (l.take i) + wL (l.drop i) := by
    unfold wL
    rw [← List.sum_append_nat, ← List.map_append, List.take_append_drop]
  omega
theorem good_stms : ∀ {b : Blk}, goodB b → ∀ s ∈ stms b, goodS s
  | .nil, _, _, h => by cases h
  | .cons x r, g, s, h => by
    rw [goodB] at g
    rcases List.mem_cons.mp h with e | e
    · rw [e]; exact g.1
    · exact good_stms g.2 s e
mutual
def hS : Stm → Nat
  | .mk .. => 0
  | .no .. => 0
  | .fn _ _ b => 1 + hB b
  | .ite _ b1 b2 => 1 + max (hB b1) (hB b2)
  | .whl _ b => 1 + hB b
  | .tms _ _ _ b => 1 + hB b
def hB : Blk → Nat
  | .nil => 0
  | .cons s r => max (hS s) (hB r)
end
theorem hB_mem : ∀ {b : Blk} {s : Stm}, s ∈ stms b → hS s ≤ hB b
  | .nil, _, h => by cases h
  | .cons x r, s, h => by
    rw [hB]
    rcases List.mem_cons.mp h with e | e
    · rw [e]; exact Nat.le_max_left _ _
    · exact Nat.le_trans (hB_mem e) (Nat.le_max_right _ _)
mutual
theorem hS_dep : ∀ s : Stm, 2 * hS s ≤ (dS s).depth
  | .mk .. => Nat.zero_le _
  | .no .. => Nat.zero_le _
  | .fn x ps b => by
    have := hB_dep b
    simp only [hS, dS, PyData.depth, PyData.depthAll]
    omega
  | .ite c b1 b2 => by
    have := hB_dep b1
    have := hB_dep b2
    simp only [hS, dS, PyData.depth, PyData.depthAll]
    omega
  | .whl c b => by
    have := hB_dep b
    simp only [hS, dS, PyData.depth, PyData.depthAll]
    omega
  | .tms one x c b => by
    have := hB_dep b
    simp only [hS, dS, PyData.depth, PyData.depthAll]
    omega
theorem hB_dep : ∀ b : Blk, 2 * hB b ≤ PyData.depthAll (dB b)
  | .nil => Nat.zero_le _
  | .cons s r => by
    have := hS_dep s
    have := hB_dep r
    rw [dB]
    simp only [hB, PyData.depthAll]
    omega
end
/-! ### rows that stay -/
def Rw (K : PySem.W.Frag) (H : Hp) (l : Addr) (ds : List PyData) : Prop := ∃ vs, H l = some (.lst vs) ∧ DpAll K H vs ds ∧ noLs ds = true
theorem Rw.mod {K : PySem.W.Frag} {H H' : Hp} {l : Addr} {ds : List PyData} (h : Rw K H l ds) (e : Ext H H') (k : ∀ o, H l = some o → H' l = some o) : Rw K H' l ds := by
  obtain ⟨vs, h1, h2, h3⟩ := h
  exact ⟨vs, k _ h1, dps_ext e _ _ h2 h3, h3⟩
/-! ### the dict of lists -/
def fD (ls la lb lg lm : Addr) : List (Key × V) := [(.inr "statements", .ref ls), (.inr "at", .ref la), (.inr "bodies", .ref lb), (.inr "grounds", .ref lg), (.inr "makings", .ref lm)]
theorem fk01 : ¬ (kx "statements" = kx "at") := by decide +kernel
theorem fk02 : ¬ (kx "statements" = kx "bodies") := by decide +kernel
theorem fk03 : ¬ (kx "statements" = kx "grounds") := by decide +kernel
theorem fk04 : ¬ (kx "statements" = kx "makings") := by decide +kernel
theorem fk12 : ¬ (kx "at" = kx "bodies") := by decide +kernel
theorem fk13 : ¬ (kx "at" = kx "grounds") := by decide +kernel
theorem fk14 : ¬ (kx "at" = kx "makings") := by decide +kernel
theorem fk23 : ¬ (kx "bodies" = kx "grounds") := by decide +kernel
theorem fk24 : ¬ (kx "bodies" = kx "makings") := by decide +kernel
theorem fk34 : ¬ (kx "grounds" = kx "makings") := by decide +kernel
theorem gf_st {H : Hp} {fd ls la lb lg lm : Addr} (h : H fd = some (.dK (fD ls la lb lg lm))) : DGet H fd (.str "statements") (some (.ref ls)) := by
  have z := DGet.k (k := kx "statements") h
  rw [show valV (fD ls la lb lg lm) (kx "statements") = some (.ref ls) from valV_pos rfl] at z
  exact z
theorem gf_at_ {H : Hp} {fd ls la lb lg lm : Addr} (h : H fd = some (.dK (fD ls la lb lg lm))) : DGet H fd (.str "at") (some (.ref la)) := by
  have z := DGet.k (k := kx "at") h
  rw [show valV (fD ls la lb lg lm) (kx "at") = some (.ref la) from (valV_neg fk01).trans (valV_pos rfl)] at z
  exact z
theorem gf_bd {H : Hp} {fd ls la lb lg lm : Addr} (h : H fd = some (.dK (fD ls la lb lg lm))) : DGet H fd (.str "bodies") (some (.ref lb)) := by
  have z := DGet.k (k := kx "bodies") h
  rw [show valV (fD ls la lb lg lm) (kx "bodies") = some (.ref lb) from (valV_neg fk02).trans ((valV_neg fk12).trans (valV_pos rfl))] at z
  exact z
theorem gf_gr {H : Hp} {fd ls la lb lg lm : Addr} (h : H fd = some (.dK (fD ls la lb lg lm))) : DGet H fd (.str "grounds") (some (.ref lg)) := by
  have z := DGet.k (k := kx "grounds") h
  rw [show valV (fD ls la lb lg lm) (kx "grounds") = some (.ref lg) from (valV_neg fk03).trans ((valV_neg fk13).trans ((valV_neg fk23).trans (valV_pos rfl)))] at z
  exact z
theorem gf_mm {H : Hp} {fd ls la lb lg lm : Addr} (h : H fd = some (.dK (fD ls la lb lg lm))) : DGet H fd (.str "makings") (some (.ref lm)) := by
  have z := DGet.k (k := kx "makings") h
  rw [show valV (fD ls la lb lg lm) (kx "makings") = some (.ref lm) from (valV_neg fk04).trans ((valV_neg fk14).trans ((valV_neg fk24).trans ((valV_neg fk34).trans (valV_pos rfl))))] at z
  exact z
theorem merge_f {ls la lb lg lm : Addr} : mergeK [] (fD ls la lb lg lm) = fD ls la lb lg lm := by
  have a01 := fk01
  have a02 := fk02
  have a03 := fk03
  have a04 := fk04
  have a12 := fk12
  have a13 := fk13
  have a14 := fk14
  have a23 := fk23
  have a24 := fk24
  have a34 := fk34
  simp [mergeK, putK, fD, a01, a02, a03, a04, a12, a13, a14, a23, a24, a34]
structure FoundAt (K : PySem.W.Frag) (H : Hp) (fd ls la lb lg lm : Addr) (t : Fb.TS) : Prop where
  di : H fd = some (.dK (fD ls la lb lg lm))
  st : Rw K H ls (t.pl.map (·.1))
  at_ : Rw K H la (t.pl.map fun e => nD e.2.2)
  bd : Rw K H lb (t.bd)
  gr : Rw K H lg (t.gr)
  mm : Rw K H lm (t.mm)
  nd : [ls, la, lb, lg, lm].Nodup
section
variable {K : PySem.W.Frag} {H H' : Hp} {fd ls la lb lg lm : Addr} {t : Fb.TS}
theorem FoundAt.nes (h : FoundAt K H fd ls la lb lg lm t) : (ls ≠ la ∧ ls ≠ lb ∧ ls ≠ lg ∧ ls ≠ lm) ∧ (la ≠ lb ∧ la ≠ lg ∧ la ≠ lm) ∧ (lb ≠ lg ∧ lb ≠ lm) ∧ lg ≠ lm := by
  have z := h.nd
  simp only [List.nodup_cons, List.mem_cons, List.not_mem_nil, or_false, not_or, List.nodup_nil, and_true, not_false_eq_true] at z
  exact z
theorem FoundAt.same (h : FoundAt K H fd ls la lb lg lm t) (s : Same H H') : FoundAt K H' fd ls la lb lg lm t :=
  ⟨s _ _ h.di, h.st.mod (Same.ext s) (fun o => s _ o), h.at_.mod (Same.ext s) (fun o => s _ o), h.bd.mod (Same.ext s) (fun o => s _ o), h.gr.mod (Same.ext s) (fun o => s _ o), h.mm.mod (Same.ext s) (fun o => s _ o), h.nd⟩
theorem FoundAt.ext5 (h : FoundAt K H fd ls la lb lg lm t) (m : Mod [ls, la, lb, lg, lm] H H') : Ext H H' := by
  obtain ⟨v0, h0, _⟩ := h.st
  obtain ⟨v1, h1, _⟩ := h.at_
  obtain ⟨v2, h2, _⟩ := h.bd
  obtain ⟨v3, h3, _⟩ := h.gr
  obtain ⟨v4, h4, _⟩ := h.mm
  refine m.ext fun b hb => ?_
  simp only [List.mem_cons, List.not_mem_nil, or_false] at hb
  rcases hb with e | e | e | e | e <;> subst e
  · exact no_lst h0
  · exact no_lst h1
  · exact no_lst h2
  · exact no_lst h3
  · exact no_lst h4
theorem FoundAt.up_st (h : FoundAt K H fd ls la lb lg lm t) (m : Mod [ls] H H') {ds : List PyData} (r : Rw K H' ls ds) : H' fd = some (.dK (fD ls la lb lg lm)) ∧ Rw K H' ls ds ∧ Rw K H' la (t.pl.map fun e => nD e.2.2) ∧ Rw K H' lb (t.bd) ∧ Rw K H' lg (t.gr) ∧ Rw K H' lm (t.mm) := by
  obtain ⟨⟨n01, n02, n03, n04⟩, ⟨n12, n13, n14⟩, ⟨n23, n24⟩, n34⟩ := h.nes
  obtain ⟨v, hv, _⟩ := h.st
  have e : Ext H H' := m.ext fun b hb => by rw [List.mem_singleton.mp hb]; exact no_lst hv
  have k : ∀ {x : Addr}, x ≠ ls → ∀ o, H x = some o → H' x = some o := fun hx o q => m _ o q (by simpa using hx)
  have nf : fd ≠ ls := ne_of h.di hv (by intro z; cases z)
  exact ⟨k nf _ h.di, r, h.at_.mod e (k n01.symm), h.bd.mod e (k n02.symm), h.gr.mod e (k n03.symm), h.mm.mod e (k n04.symm)⟩
theorem FoundAt.up_at_ (h : FoundAt K H fd ls la lb lg lm t) (m : Mod [la] H H') {ds : List PyData} (r : Rw K H' la ds) : H' fd = some (.dK (fD ls la lb lg lm)) ∧ Rw K H' ls (t.pl.map (·.1)) ∧ Rw K H' la ds ∧ Rw K H' lb (t.bd) ∧ Rw K H' lg (t.gr) ∧ Rw K H' lm (t.mm) := by
  obtain ⟨⟨n01, n02, n03, n04⟩, ⟨n12, n13, n14⟩, ⟨n23, n24⟩, n34⟩ := h.nes
  obtain ⟨v, hv, _⟩ := h.at_
  have e : Ext H H' := m.ext fun b hb => by rw [List.mem_singleton.mp hb]; exact no_lst hv
  have k : ∀ {x : Addr}, x ≠ la → ∀ o, H x = some o → H' x = some o := fun hx o q => m _ o q (by simpa using hx)
  have nf : fd ≠ la := ne_of h.di hv (by intro z; cases z)
  exact ⟨k nf _ h.di, h.st.mod e (k n01), r, h.bd.mod e (k n12.symm), h.gr.mod e (k n13.symm), h.mm.mod e (k n14.symm)⟩
theorem FoundAt.up_bd (h : FoundAt K H fd ls la lb lg lm t) (m : Mod [lb] H H') {ds : List PyData} (r : Rw K H' lb ds) : H' fd = some (.dK (fD ls la lb lg lm)) ∧ Rw K H' ls (t.pl.map (·.1)) ∧ Rw K H' la (t.pl.map fun e => nD e.2.2) ∧ Rw K H' lb ds ∧ Rw K H' lg (t.gr) ∧ Rw K H' lm (t.mm) := by
  obtain ⟨⟨n01, n02, n03, n04⟩, ⟨n12, n13, n14⟩, ⟨n23, n24⟩, n34⟩ := h.nes
  obtain ⟨v, hv, _⟩ := h.bd
  have e : Ext H H' := m.ext fun b hb => by rw [List.mem_singleton.mp hb]; exact no_lst hv
  have k : ∀ {x : Addr}, x ≠ lb → ∀ o, H x = some o → H' x = some o := fun hx o q => m _ o q (by simpa using hx)
  have nf : fd ≠ lb := ne_of h.di hv (by intro z; cases z)
  exact ⟨k nf _ h.di, h.st.mod e (k n02), h.at_.mod e (k n12), r, h.gr.mod e (k n23.symm), h.mm.mod e (k n24.symm)⟩
theorem FoundAt.up_gr (h : FoundAt K H fd ls la lb lg lm t) (m : Mod [lg] H H') {ds : List PyData} (r : Rw K H' lg ds) : H' fd = some (.dK (fD ls la lb lg lm)) ∧ Rw K H' ls (t.pl.map (·.1)) ∧ Rw K H' la (t.pl.map fun e => nD e.2.2) ∧ Rw K H' lb (t.bd) ∧ Rw K H' lg ds ∧ Rw K H' lm (t.mm) := by
  obtain ⟨⟨n01, n02, n03, n04⟩, ⟨n12, n13, n14⟩, ⟨n23, n24⟩, n34⟩ := h.nes
  obtain ⟨v, hv, _⟩ := h.gr
  have e : Ext H H' := m.ext fun b hb => by rw [List.mem_singleton.mp hb]; exact no_lst hv
  have k : ∀ {x : Addr}, x ≠ lg → ∀ o, H x = some o → H' x = some o := fun hx o q => m _ o q (by simpa using hx)
  have nf : fd ≠ lg := ne_of h.di hv (by intro z; cases z)
  exact ⟨k nf _ h.di, h.st.mod e (k n03), h.at_.mod e (k n13), h.bd.mod e (k n23), r, h.mm.mod e (k n34.symm)⟩
theorem FoundAt.up_mm (h : FoundAt K H fd ls la lb lg lm t) (m : Mod [lm] H H') {ds : List PyData} (r : Rw K H' lm ds) : H' fd = some (.dK (fD ls la lb lg lm)) ∧ Rw K H' ls (t.pl.map (·.1)) ∧ Rw K H' la (t.pl.map fun e => nD e.2.2) ∧ Rw K H' lb (t.bd) ∧ Rw K H' lg (t.gr) ∧ Rw K H' lm ds := by
  obtain ⟨⟨n01, n02, n03, n04⟩, ⟨n12, n13, n14⟩, ⟨n23, n24⟩, n34⟩ := h.nes
  obtain ⟨v, hv, _⟩ := h.mm
  have e : Ext H H' := m.ext fun b hb => by rw [List.mem_singleton.mp hb]; exact no_lst hv
  have k : ∀ {x : Addr}, x ≠ lm → ∀ o, H x = some o → H' x = some o := fun hx o q => m _ o q (by simpa using hx)
  have nf : fd ≠ lm := ne_of h.di hv (by intro z; cases z)
  exact ⟨k nf _ h.di, h.st.mod e (k n04), h.at_.mod e (k n14), h.bd.mod e (k n24), h.gr.mod e (k n34), r⟩
end
/-- a new tuple, and a list that gets it -/
theorem rw_push {K : PySem.W.Frag} {H : Hp} {l p : Addr} {vs xs : List V} {ds : List PyData} {d : PyData} (h1 : H l = some (.lst vs)) (h2 : DpAll K H vs ds) (h3 : noLs ds = true) (np : H p = none) (nd : noL d = true)
    (hd : Dp K (L2.upd (L2.upd H p (.tup xs)) l (.lst (vs ++ [.ref p]))) (.ref p) d) : Rw K (L2.upd (L2.upd H p (.tup xs)) l (.lst (vs ++ [.ref p]))) l (ds ++ [d]) := by
  have ne : l ≠ p := ne_of_none h1 np
  have e1 : Ext H (L2.upd H p (.tup xs)) := Same.ext (same_new np)
  have hl : (L2.upd H p (.tup xs)) l = some (.lst vs) := same_new np _ _ h1
  have e2 : Ext (L2.upd H p (.tup xs)) (L2.upd (L2.upd H p (.tup xs)) l (.lst (vs ++ [.ref p]))) := fun b x e f => by
    rw [upd_ne (show b ≠ l from fun z => no_lst hl x (by rw [← z]; exact e) f)]
    exact e
  refine ⟨_, upd_same, dps_snoc (dps_ext (e1.trans e2) _ _ h2 h3) hd, ?_⟩
  have z : ∀ (a : List PyData), noLs a = true → noLs (a ++ [d]) = true := fun a => by
    induction a with
    | nil => intro _; rw [List.nil_append, noLs, nd]; rfl
    | cons x r ih =>
      intro q
      rw [noLs, Bool.and_eq_true] at q
      rw [List.cons_append, noLs, q.1, ih q.2]
      rfl
  exact z ds h3
end Fb
set_option Elab.async false
set_option linter.all false
set_option maxRecDepth 100000
set_option maxHeartbeats 2000000
namespace Fb
open PySem PySem.Spec PyProof.Rows L2
theorem noattr {K : PySem.W.Frag} {C : Addr} {f : Str} (h : PySem.W.findIn K (.ref C) f = some none) : NoAttr K C f := h
theorem kit_self {K : PySem.W.Frag} {C : Addr} : PySem.W.kitOne K (.ref C) (.ref C) = some true := by
  unfold PySem.W.kitOne
  rw [if_pos (by simp)]
theorem kit_no {K : PySem.W.Frag} {a b : Addr} {r : Bool} (ne : (Value.ref a == Value.ref b) = false) (h1 : PySem.W.isClsIn K b = true) (h2 : PySem.W.typeIn K (.ref b) = some (.type "type")) (h3 : PySem.W.subIn K (.ref a) (.ref b) = some r) : PySem.W.kitOne K (.ref a) (.ref b) = some r := by
  unfold PySem.W.kitOne
  rw [if_neg (by rw [ne]; exact Bool.false_ne_true)]
  unfold PySem.W.kitCls
  have h1' : (PySem.W.clsIn K b).isSome = true := h1
  simp only [h1', h2, Bool.true_and]
  rw [if_pos (by simp), h3]
def RowsOk (t : Fb.TS) : Prop := (∀ d ∈ t.gr, Sh d 900 2) ∧ (∀ d ∈ t.mm, Sh d 900 2) ∧ ∀ d ∈ t.bd, Sh d 900 2
theorem sh_nD {n m k : Nat} (h : n ≤ 1000000) (hk : 13 ≤ k) : Sh (nD n) k m := sh_int (by omega) hk
theorem sh_rowG {s : Str} {k a : PyData} (hs : s ∈ (["let", "sum", "call", "set", "tell", "give", "fn", "if", "while", "times", "one", "own", "body", "other", "head"] : List Str)) (hk : Sh k 13 1) (ha : Sh a 13 1) : Sh (rowG s k a) 900 2 :=
  (sh_tup (sha_cons (sh_w hs) (sha_cons hk (sha_cons ha (sha_nil 0 1))))).mono (by decide) (by decide)
theorem sh_rowM {x : Str} {k g : Nat} (hx : nm x) (hk : k ≤ 1000000) (hg : g ≤ 1000000) : Sh (rowM x k g) 900 2 :=
  (sh_tup (m := 1) (sha_cons (nm_sh (n := 202) hx (Nat.le_refl _)) (sha_cons (sh_nD (k := 13) hk (Nat.le_refl _)) (sha_cons (sh_nD (k := 13) hg (Nat.le_refl _)) (sha_nil 0 1))))).mono (by decide) (by decide)
theorem sh_rowB {k : PyData} {ps : List Str} (hk : Sh k 13 1) (h : ps.length ≤ 4) (g : ∀ p ∈ ps, nm p) : Sh (rowB k ps) 900 2 :=
  (sh_tup (m := 1) (sha_cons hk (sha_cons (sh_ps h g) (sha_nil 0 1)))).mono (by decide) (by decide)
theorem all_snoc {ds : List PyData} {d : PyData} (h : ∀ e ∈ ds, Sh e 900 2) (hd : Sh d 900 2) : ∀ e ∈ ds ++ [d], Sh e 900 2 := fun e z => by
  rcases List.mem_append.mp z with q | q
  · exact h e q
  · rw [List.mem_singleton.mp q]; exact hd
theorem all_app {a b : List PyData} (h : ∀ e ∈ a, Sh e 900 2) (k : ∀ e ∈ b, Sh e 900 2) : ∀ e ∈ a ++ b, Sh e 900 2 := fun e z => by
  rcases List.mem_append.mp z with q | q
  · exact h e q
  · exact k e q
mutual
theorem rowsS : ∀ (s : Stm) (g b : Nat) (t : Fb.TS), goodS s → g ≤ 100000 → t.n + wS s ≤ 100000 → RowsOk t → RowsOk (layS s g b t)
  | .mk w x r h, g, b, t, gs, hg, hn, hr => by
    rw [goodS] at gs
    rw [layS]
    simp only [TS.n] at hn
    exact ⟨hr.1, all_snoc hr.2.1 (sh_rowM gs.1 (by omega) (by omega)), hr.2.2⟩
  | .no w r h, g, b, t, gs, hg, hn, hr => by
    rw [layS]
    exact hr
  | .fn x ps blk, g, b, t, gs, hg, hn, hr => by
    rw [goodS] at gs
    rw [layS]
    simp only [TS.n, wS] at hn
    refine rowsB blk _ _ _ gs.2.2.2 (by omega) (by simp only [TS.n, List.length_append, List.length_cons, List.length_nil, List.length_map]; omega) ⟨all_snoc hr.1 (sh_rowG (by decide +kernel) (sh_nD (by omega) (Nat.le_refl _)) (sh_nD (by omega) (Nat.le_refl _))), ?_, all_snoc hr.2.2 (sh_rowB (sh_nD (by omega) (Nat.le_refl _)) gs.2.1 gs.2.2.1)⟩
    refine all_app hr.2.1 fun e z => ?_
    rcases List.mem_cons.mp z with q | q
    · rw [q]; exact sh_rowM gs.1 (by omega) (by omega)
    · obtain ⟨y, hy, rfl⟩ := List.mem_map.mp q
      exact sh_rowM (gs.2.2.1 y hy) (by omega) (by omega)
  | .ite c b1 b2, g, b, t, gs, hg, hn, hr => by
    rw [goodS] at gs
    rw [layS]
    simp only [TS.n, wS] at hn
    have w1 := w_layB b1 t.gr.length b { t with pl := t.pl ++ [(dS (.ite c b1 b2), g, b)], gr := t.gr ++ [rowG "one" (nD t.pl.length) (nD g)] }
    have r1 := rowsB b1 t.gr.length b { t with pl := t.pl ++ [(dS (.ite c b1 b2), g, b)], gr := t.gr ++ [rowG "one" (nD t.pl.length) (nD g)] } gs.2.1 (by omega) (by simp only [TS.n, List.length_append, List.length_cons, List.length_nil]; omega) ⟨all_snoc hr.1 (sh_rowG (by decide +kernel) (sh_nD (by omega) (Nat.le_refl _)) (sh_nD (by omega) (Nat.le_refl _))), hr.2.1, hr.2.2⟩
    simp only [TS.n, List.length_append, List.length_cons, List.length_nil] at w1
    refine rowsB b2 _ _ _ gs.2.2 ?_ ?_ ⟨all_snoc r1.1 (sh_rowG (by decide +kernel) (sh_nD (by omega) (Nat.le_refl _)) (sh_nD (by omega) (Nat.le_refl _))), r1.2.1, r1.2.2⟩
    · omega
    · simp only [TS.n, List.length_append, List.length_cons, List.length_nil]
      omega
  | .whl c blk, g, b, t, gs, hg, hn, hr => by
    rw [goodS] at gs
    rw [layS]
    simp only [TS.n, wS] at hn
    exact rowsB blk _ _ _ gs.2 (by omega) (by simp only [TS.n, List.length_append, List.length_cons, List.length_nil]; omega) ⟨all_snoc hr.1 (sh_rowG (by decide +kernel) (sh_nD (by omega) (Nat.le_refl _)) (sh_nD (by omega) (Nat.le_refl _))), hr.2.1, hr.2.2⟩
  | .tms true x c blk, g, b, t, gs, hg, hn, hr => by
    rw [goodS] at gs
    rw [layS]
    simp only [TS.n, wS] at hn
    exact rowsB blk _ _ _ gs.2.2 (by omega) (by simp only [TS.n, List.length_append, List.length_cons, List.length_nil]; omega) ⟨all_snoc (all_snoc hr.1 (sh_rowG (by decide +kernel) (sh_nD (by omega) (Nat.le_refl _)) (sh_nD (by omega) (Nat.le_refl _)))) (sh_rowG (by decide +kernel) (sh_nD (by omega) (Nat.le_refl _)) (sh_nD (by omega) (Nat.le_refl _))), all_snoc hr.2.1 (sh_rowM gs.1 (by omega) (by omega)), hr.2.2⟩
  | .tms false x c blk, g, b, t, gs, hg, hn, hr => by
    rw [goodS] at gs
    rw [layS]
    simp only [TS.n, wS] at hn
    exact rowsB blk _ _ _ gs.2.2 (by omega) (by simp only [TS.n, List.length_append, List.length_cons, List.length_nil]; omega) ⟨all_snoc hr.1 (sh_rowG (by decide +kernel) (sh_nD (by omega) (Nat.le_refl _)) (sh_nD (by omega) (Nat.le_refl _))), all_snoc hr.2.1 (sh_rowM gs.1 (by omega) (by omega)), hr.2.2⟩
theorem rowsB : ∀ (blk : Blk) (g b : Nat) (t : Fb.TS), goodB blk → g ≤ 100000 → t.n + wB blk ≤ 100000 → RowsOk t → RowsOk (layB blk g b t)
  | .nil, g, b, t, _, _, _, hr => hr
  | .cons s r, g, b, t, gb, hg, hn, hr => by
    rw [goodB] at gb
    rw [layB]
    simp only [wB] at hn
    have w1 := w_layS s g b t
    exact rowsB r g b _ gb.2 hg (by omega) (rowsS s g b t gb.1 hg (by omega) hr)
end
/-- a list of good rows is shown -/
theorem sh_rows {ds : List PyData} (h : ∀ d ∈ ds, Sh d 900 2) (n : ds.length ≤ 1000) : Sh (.list ds) 1000000 3 := by
  refine (sh_lst (sha_all h)).mono ?_ (Nat.le_refl _)
  have : ds.length * (900 + 2) ≤ 1000 * (900 + 2) := Nat.mul_le_mul_right _ n
  omega
end Fb
set_option Elab.async false
set_option linter.all false
set_option maxRecDepth 100000
set_option maxHeartbeats 2000000
namespace Fb
open PySem PySem.Spec PyProof.Rows L2
/-! ### the statements in reading order: how many, how they are shown -/
mutual
theorem lenS : ∀ (s : Stm) (g b : Nat) (t : Fb.TS), (layS s g b t).pl.length = t.pl.length + nS s
  | .mk w x r h, g, b, t => by simp [layS, nS]
  | .no w r h, g, b, t => by simp [layS, nS]
  | .fn x ps blk, g, b, t => by
    rw [layS, lenB blk]
    simp only [nS, List.length_append, List.length_cons, List.length_nil]
    omega
  | .ite c b1 b2, g, b, t => by
    rw [layS, lenB b2, lenB b1]
    simp only [nS, List.length_append, List.length_cons, List.length_nil]
    omega
  | .whl c blk, g, b, t => by
    rw [layS, lenB blk]
    simp only [nS, List.length_append, List.length_cons, List.length_nil]
    omega
  | .tms true x c blk, g, b, t => by
    rw [layS, lenB blk]
    simp only [nS, List.length_append, List.length_cons, List.length_nil]
    omega
  | .tms false x c blk, g, b, t => by
    rw [layS, lenB blk]
    simp only [nS, List.length_append, List.length_cons, List.length_nil]
    omega
theorem lenB : ∀ (blk : Blk) (g b : Nat) (t : Fb.TS), (layB blk g b t).pl.length = t.pl.length + nB blk
  | .nil, g, b, t => rfl
  | .cons s r, g, b, t => by
    rw [layB, lenB r, lenS s]
    simp only [nB]
    omega
end
def PlOk (t : Fb.TS) : Prop := ∀ e ∈ t.pl, Sh e.1 96118 40 ∧ e.2.2 ≤ 100000
theorem pl_snoc {l : List (PyData × Nat × Nat)} {d : PyData} {g b : Nat} (h : ∀ e ∈ l, Sh e.1 96118 40 ∧ e.2.2 ≤ 100000) (hd : Sh d 96118 40) (hb : b ≤ 100000) : ∀ e ∈ l ++ [(d, g, b)], Sh e.1 96118 40 ∧ e.2.2 ≤ 100000 := fun e z => by
  rcases List.mem_append.mp z with q | q
  · exact h e q
  · rw [List.mem_singleton.mp q]; exact ⟨hd, hb⟩
theorem sh_stm {s : Stm} (g : goodS s) (n : nS s ≤ 60) (d : (dS s).depth ≤ 40) : Sh (dS s) 96118 40 := by
  obtain ⟨m, h⟩ := shS s g
  exact h.deep.mono (by omega) d
mutual
theorem plS : ∀ (s : Stm) (g b : Nat) (t : Fb.TS), goodS s → nS s ≤ 60 → (dS s).depth ≤ 40 → b ≤ 100000 → t.n + wS s ≤ 100000 → PlOk t → PlOk (layS s g b t)
  | .mk w x r h, g, b, t, gs, hn, hd, hb, hw, hp => by
    rw [layS]
    exact pl_snoc hp (sh_stm gs hn hd) hb
  | .no w r h, g, b, t, gs, hn, hd, hb, hw, hp => by
    rw [layS]
    exact pl_snoc hp (sh_stm gs hn hd) hb
  | .fn x ps blk, g, b, t, gs, hn, hd, hb, hw, hp => by
    have s0 := sh_stm gs hn hd
    rw [goodS] at gs
    rw [layS]
    simp only [nS] at hn
    simp only [dS, PyData.depth, PyData.depthAll] at hd
    simp only [TS.n, wS] at hw
    exact plB blk _ _ _ gs.2.2.2 (by omega) (by omega) (by omega) (by simp only [TS.n, List.length_append, List.length_cons, List.length_nil, List.length_map]; omega) (pl_snoc hp s0 hb)
  | .ite c b1 b2, g, b, t, gs, hn, hd, hb, hw, hp => by
    have s0 := sh_stm gs hn hd
    rw [goodS] at gs
    rw [layS]
    simp only [nS] at hn
    simp only [dS, PyData.depth, PyData.depthAll] at hd
    simp only [TS.n, wS] at hw
    have w1 := w_layB b1 t.gr.length b { t with pl := t.pl ++ [(dS (.ite c b1 b2), g, b)], gr := t.gr ++ [rowG "one" (nD t.pl.length) (nD g)] }
    simp only [TS.n, List.length_append, List.length_cons, List.length_nil] at w1
    refine plB b2 _ _ _ gs.2.2 (by omega) (by omega) hb ?_ (plB b1 _ _ _ gs.2.1 (by omega) (by omega) hb (by simp only [TS.n, List.length_append, List.length_cons, List.length_nil]; omega) (pl_snoc hp s0 hb))
    simp only [TS.n, List.length_append, List.length_cons, List.length_nil]
    omega
  | .whl c blk, g, b, t, gs, hn, hd, hb, hw, hp => by
    have s0 := sh_stm gs hn hd
    rw [goodS] at gs
    rw [layS]
    simp only [nS] at hn
    simp only [dS, PyData.depth, PyData.depthAll] at hd
    simp only [TS.n, wS] at hw
    exact plB blk _ _ _ gs.2 (by omega) (by omega) hb (by simp only [TS.n, List.length_append, List.length_cons, List.length_nil]; omega) (pl_snoc hp s0 hb)
  | .tms true x c blk, g, b, t, gs, hn, hd, hb, hw, hp => by
    have s0 := sh_stm gs hn hd
    rw [goodS] at gs
    rw [layS]
    simp only [nS] at hn
    simp only [dS, PyData.depth, PyData.depthAll] at hd
    simp only [TS.n, wS] at hw
    exact plB blk _ _ _ gs.2.2 (by omega) (by omega) hb (by simp only [TS.n, List.length_append, List.length_cons, List.length_nil]; omega) (pl_snoc hp s0 hb)
  | .tms false x c blk, g, b, t, gs, hn, hd, hb, hw, hp => by
    have s0 := sh_stm gs hn hd
    rw [goodS] at gs
    rw [layS]
    simp only [nS] at hn
    simp only [dS, PyData.depth, PyData.depthAll] at hd
    simp only [TS.n, wS] at hw
    exact plB blk _ _ _ gs.2.2 (by omega) (by omega) hb (by simp only [TS.n, List.length_append, List.length_cons, List.length_nil]; omega) (pl_snoc hp s0 hb)
theorem plB : ∀ (blk : Blk) (g b : Nat) (t : Fb.TS), goodB blk → nB blk ≤ 60 → PyData.depthAll (dB blk) ≤ 40 → b ≤ 100000 → t.n + wB blk ≤ 100000 → PlOk t → PlOk (layB blk g b t)
  | .nil, g, b, t, _, _, _, _, _, hp => hp
  | .cons s r, g, b, t, gb, hn, hd, hb, hw, hp => by
    rw [goodB] at gb
    rw [layB]
    simp only [wB] at hw
    simp only [nB] at hn
    simp only [dB, PyData.depthAll] at hd
    have w1 := w_layS s g b t
    exact plB r g b _ gb.2 (by omega) (by omega) hb (by omega) (plS s g b t gb.1 (by omega) (by omega) hb (by omega) hp)
end
theorem sh_nums {l : List (PyData × Nat × Nat)} (h : ∀ e ∈ l, Sh e.1 96118 40 ∧ e.2.2 ≤ 100000) (n : l.length ≤ 60) : Sh (.list (l.map fun e => nD e.2.2)) 1000 1 := by
  refine (sh_lst (sha_all (a := 13) (m := 0) fun d z => ?_)).mono ?_ (Nat.le_refl _)
  · obtain ⟨e, he, rfl⟩ := List.mem_map.mp z
    exact sh_nD (by have := (h e he).2; omega) (Nat.le_refl _)
  · rw [List.length_map]
    have : l.length * (13 + 2) ≤ 60 * (13 + 2) := Nat.mul_le_mul_right _ n
    omega
theorem sh_stms {l : List (PyData × Nat × Nat)} (h : ∀ e ∈ l, Sh e.1 96118 40 ∧ e.2.2 ≤ 100000) (n : l.length ≤ 60) : Sh (.list (l.map (·.1))) 6000000 41 := by
  have h1 : ∀ d ∈ l.map (·.1), Sh d 96118 40 := fun d z => by
    obtain ⟨e, he, rfl⟩ := List.mem_map.mp z
    exact (h e he).1
  have h2 := sha_all h1
  have h3 := sh_lst h2
  have n2 : (l.map (·.1)).length ≤ 60 := by rw [List.length_map]; exact n
  generalize (l.map (·.1)).length = k at h3 n2
  have h4 : k * (96118 + 2) + 3 ≤ 6000000 := by omega
  exact h3.mono h4 (by omega)
end Fb
set_option Elab.async false
set_option linter.all false
set_option maxRecDepth 100000
set_option maxHeartbeats 2000000
namespace Fb
open PySem
/-! ### a statement put in at a place -/
mutual
def putS (m : Stm) : Stm → Int → Stm × Int
  | .mk w x r h, n => (.mk w x r h, n)
  | .no w r h, n => (.no w r h, n)
  | .fn x ps b, n => (.fn x ps (putB m b n).1, (putB m b n).2)
  | .ite a b1 b2, n => (.ite a (putB m b1 n).1 (putB m b2 (putB m b1 n).2).1, (putB m b2 (putB m b1 n).2).2)
  | .whl a b, n => (.whl a (putB m b n).1, (putB m b n).2)
  | .tms one x a b, n => (.tms one x a (putB m b n).1, (putB m b n).2)
def putB (m : Stm) : Blk → Int → Blk × Int
  | .nil, n => (if n = 0 then .cons m .nil else .nil, n - 1)
  | .cons s r, n => (if n = 0 then .cons m (.cons (putS m s (n - 1)).1 (putB m r (putS m s (n - 1)).2).1) else .cons (putS m s (n - 1)).1 (putB m r (putS m s (n - 1)).2).1, (putB m r (putS m s (n - 1)).2).2)
end
mutual
def cpS : Stm → Nat
  | .mk .. => 0
  | .no .. => 0
  | .fn _ _ b => cpB b
  | .ite _ b1 b2 => cpB b1 + cpB b2
  | .whl _ b => cpB b
  | .tms _ _ _ b => cpB b
def cpB : Blk → Nat
  | .nil => 1
  | .cons s r => 1 + cpS s + cpB r
end
variable {m : Stm}
mutual
theorem putS_2 : ∀ (s : Stm) (n : Int), (putS m s n).2 = n - cpS s
  | .mk .., n => by simp only [putS, cpS]; omega
  | .no .., n => by simp only [putS, cpS]; omega
  | .fn x ps b, n => by simp only [putS, cpS, putB_2 b]
  | .ite a b1 b2, n => by simp only [putS, cpS, putB_2 b1, putB_2 b2]; omega
  | .whl a b, n => by simp only [putS, cpS, putB_2 b]
  | .tms one x a b, n => by simp only [putS, cpS, putB_2 b]
theorem putB_2 : ∀ (b : Blk) (n : Int), (putB m b n).2 = n - cpB b
  | .nil, n => by simp only [putB, cpB]; omega
  | .cons s r, n => by simp only [putB, cpB, putB_2 r, putS_2 s]; omega
end
mutual
theorem putS_neg : ∀ (s : Stm) (n : Int), n < 0 → (putS m s n).1 = s
  | .mk .., n, h => rfl
  | .no .., n, h => rfl
  | .fn x ps b, n, h => by simp only [putS, putB_neg b n h]
  | .ite a b1 b2, n, h => by simp only [putS, putB_neg b1 n h, putB_2 b1, putB_neg b2 (n - cpB b1) (by omega)]
  | .whl a b, n, h => by simp only [putS, putB_neg b n h]
  | .tms one x a b, n, h => by simp only [putS, putB_neg b n h]
theorem putB_neg : ∀ (b : Blk) (n : Int), n < 0 → (putB m b n).1 = b
  | .nil, n, h => by simp only [putB]; rw [if_neg (by omega)]
  | .cons s r, n, h => by
    simp only [putB]
    rw [if_neg (by omega), putS_neg s (n - 1) (by omega), putS_2, putB_neg r _ (by omega)]
end
mutual
theorem putS_far : ∀ (s : Stm) (n : Int), (cpS s : Int) ≤ n → (putS m s n).1 = s
  | .mk .., n, h => rfl
  | .no .., n, h => rfl
  | .fn x ps b, n, h => by simp only [cpS] at h; simp only [putS, putB_far b n h]
  | .ite a b1 b2, n, h => by simp only [cpS] at h; simp only [putS, putB_far b1 n (by omega), putB_2 b1, putB_far b2 (n - cpB b1) (by omega)]
  | .whl a b, n, h => by simp only [cpS] at h; simp only [putS, putB_far b n h]
  | .tms one x a b, n, h => by simp only [cpS] at h; simp only [putS, putB_far b n h]
theorem putB_far : ∀ (b : Blk) (n : Int), (cpB b : Int) ≤ n → (putB m b n).1 = b
  | .nil, n, h => by simp only [cpB] at h; simp only [putB]; rw [if_neg (by omega)]
  | .cons s r, n, h => by
    simp only [cpB] at h
    simp only [putB]
    rw [if_neg (by omega), putS_far s (n - 1) (by omega), putS_2, putB_far r _ (by omega)]
end
mutual
theorem putS_good (gm : goodS m) : ∀ (s : Stm) (n : Int), goodS s → goodS (putS m s n).1
  | .mk .., n, h => h
  | .no .., n, h => h
  | .fn x ps b, n, h => by
    rw [goodS] at h
    simp only [putS]
    rw [goodS]
    exact ⟨h.1, h.2.1, h.2.2.1, putB_good gm b n h.2.2.2⟩
  | .ite a b1 b2, n, h => by
    rw [goodS] at h
    simp only [putS]
    rw [goodS]
    exact ⟨h.1, putB_good gm b1 n h.2.1, putB_good gm b2 _ h.2.2⟩
  | .whl a b, n, h => by
    rw [goodS] at h
    simp only [putS]
    rw [goodS]
    exact ⟨h.1, putB_good gm b n h.2⟩
  | .tms one x a b, n, h => by
    rw [goodS] at h
    simp only [putS]
    rw [goodS]
    exact ⟨h.1, h.2.1, putB_good gm b n h.2.2⟩
theorem putB_good (gm : goodS m) : ∀ (b : Blk) (n : Int), goodB b → goodB (putB m b n).1
  | .nil, n, h => by
    simp only [putB]
    split
    · rw [goodB]; exact ⟨gm, h⟩
    · exact h
  | .cons s r, n, h => by
    rw [goodB] at h
    have h2 : goodB (.cons (putS m s (n - 1)).1 (putB m r (putS m s (n - 1)).2).1) := by
      rw [goodB]
      exact ⟨putS_good gm s _ h.1, putB_good gm r _ h.2⟩
    simp only [putB]
    split
    · rw [goodB]; exact ⟨gm, h2⟩
    · exact h2
end
mutual
theorem putS_n (h1 : nS m = 1) : ∀ (s : Stm) (n : Int), 0 ≤ n → n < cpS s → nS (putS m s n).1 = nS s + 1
  | .mk .., n, a, b => by simp only [cpS] at b; omega
  | .no .., n, a, b => by simp only [cpS] at b; omega
  | .fn x ps b, n, h0, h => by simp only [cpS] at h; simp only [putS, nS, putB_n h1 b n h0 h]; omega
  | .ite a b1 b2, n, h0, h => by
    simp only [cpS] at h
    simp only [putS, nS, putB_2 b1]
    by_cases c : n < cpB b1
    · rw [putB_n h1 b1 n h0 c, putB_neg b2 _ (by omega)]; omega
    · rw [putB_far b1 n (by omega), putB_n h1 b2 (n - cpB b1) (by omega) (by omega)]; omega
  | .whl a b, n, h0, h => by simp only [cpS] at h; simp only [putS, nS, putB_n h1 b n h0 h]; omega
  | .tms one x a b, n, h0, h => by simp only [cpS] at h; simp only [putS, nS, putB_n h1 b n h0 h]; omega
theorem putB_n (h1 : nS m = 1) : ∀ (b : Blk) (n : Int), 0 ≤ n → n < cpB b → nB (putB m b n).1 = nB b + 1
  | .nil, n, h0, h => by
    simp only [cpB] at h
    simp only [putB]
    rw [if_pos (by omega)]
    simp only [nB, h1]
  | .cons s r, n, h0, h => by
    simp only [cpB] at h
    simp only [putB]
    by_cases c : n = 0
    · rw [if_pos c, putS_neg s _ (by omega), putS_2, putB_neg r _ (by omega), nB, h1]; omega
    · rw [if_neg c, putS_2, nB, nB]
      by_cases c2 : n - 1 < cpS s
      · rw [putS_n h1 s (n - 1) (by omega) c2, putB_neg r _ (by omega)]; omega
      · rw [putS_far s (n - 1) (by omega), putB_n h1 r _ (by omega) (by omega)]; omega
end
mutual
theorem putS_d (h1 : (dS m).depth ≤ 1) : ∀ (s : Stm) (n : Int), (dS (putS m s n).1).depth ≤ (dS s).depth + 1
  | .mk .., n => Nat.le_succ _
  | .no .., n => Nat.le_succ _
  | .fn x ps b, n => by
    have := putB_d h1 b n
    simp only [putS, dS, PyData.depth, PyData.depthAll]
    omega
  | .ite a b1 b2, n => by
    have := putB_d h1 b1 n
    have := putB_d h1 b2 (putB m b1 n).2
    simp only [putS, dS, PyData.depth, PyData.depthAll]
    omega
  | .whl a b, n => by
    have := putB_d h1 b n
    simp only [putS, dS, PyData.depth, PyData.depthAll]
    omega
  | .tms one x a b, n => by
    have := putB_d h1 b n
    simp only [putS, dS, PyData.depth, PyData.depthAll]
    omega
theorem putB_d (h1 : (dS m).depth ≤ 1) : ∀ (b : Blk) (n : Int), PyData.depthAll (dB (putB m b n).1) ≤ PyData.depthAll (dB b) + 1
  | .nil, n => by
    simp only [putB]
    split
    · simp only [dB, PyData.depthAll]; omega
    · exact Nat.le_succ _
  | .cons s r, n => by
    have a := putS_d h1 s (n - 1)
    have b := putB_d h1 r (putS m s (n - 1)).2
    simp only [putB]
    split
    · simp only [dB, PyData.depthAll]; omega
    · simp only [dB, PyData.depthAll]; omega
end
/-! ### what is laid of it -/
/-- a number, one more where it is at j or behind -/
def shD (j : Nat) : PyData → PyData
  | .int i => .int (i + if (j : Int) ≤ i then 1 else 0)
  | d => d
def latB (j : Nat) : PyData → PyData
  | .tuple (k :: r) => .tuple (shD j k :: r)
  | d => d
def latG (j : Nat) : PyData → PyData
  | .tuple (a :: k :: r) => .tuple (a :: shD j k :: r)
  | d => d
def kept (j : Nat) : PyData → Bool
  | .tuple (_ :: .int k :: _) => !decide (k = (j : Int))
  | _ => true
theorem sh_up {j n : Nat} (h : j ≤ n) : shD j (nD n) = nD (n + 1) := by
  show PyData.int _ = _
  rw [if_pos (by omega)]
  rfl
theorem sh_low {j n : Nat} (h : n < j) : shD j (nD n) = nD n := by
  show PyData.int _ = _
  rw [if_neg (by omega), Int.add_zero]
inductive Sim : PyData → PyData → Prop
  | same (d : PyData) : Sim d d
  | blk (w : Str) (r r' : List PyData) (h : w = "fn" ∨ w = "if" ∨ w = "while" ∨ w = "times") : Sim (.tuple (.str w :: r)) (.tuple (.str w :: r'))
abbrev PE3 := PyData × Nat × Nat
inductive A2 : List PE3 → List PE3 → Prop
  | nil : A2 [] []
  | cons {d d' : PyData} {q : Nat × Nat} {l l' : List PE3} : Sim d d' → A2 l l' → A2 ((d, q) :: l) ((d', q) :: l')
theorem A2.snoc {d d' : PyData} {q : Nat × Nat} (h : Sim d d') : ∀ {l l' : List PE3}, A2 l l' → A2 (l ++ [(d, q)]) (l' ++ [(d', q)])
  | _, _, .nil => .cons h .nil
  | _, _, .cons a t => .cons a (t.snoc h)
theorem A2.len : ∀ {l l' : List PE3}, A2 l l' → l.length = l'.length
  | _, _, .nil => rfl
  | _, _, .cons _ t => by rw [List.length_cons, List.length_cons, t.len]
theorem A2.app {a a' : List PE3} : ∀ {l l' : List PE3}, A2 l l' → A2 a a' → A2 (l ++ a) (l' ++ a')
  | _, _, .nil, h => h
  | _, _, .cons s t, h => .cons s (t.app h)
/-- ahead of the place -/
structure R0 (t t' : TS) : Prop where
  pl : A2 t.pl t'.pl
  bd : t'.bd = t.bd
  gr : t'.gr = t.gr
  mm : t'.mm = t.mm
  fb : ∀ d ∈ t.bd, ∀ j, t.pl.length ≤ j → latB j d = d
  fg : ∀ d ∈ t.gr, ∀ j, t.pl.length ≤ j → latG j d = d
  fm : ∀ d ∈ t.mm, ∀ j, t.pl.length ≤ j → latG j d = d ∧ kept j d = true
/-- behind it: c how many makings came in -/
structure R1 (m : Stm) (c j : Nat) (t t' : TS) : Prop where
  pl : ∃ A B A' B' q, t.pl = A ++ B ∧ t'.pl = A' ++ (dS m, q) :: B' ∧ A.length = j ∧ A2 A A' ∧ A2 B B'
  bd : t'.bd = t.bd.map (latB j)
  gr : t'.gr = t.gr.map (latG j)
  mm : t'.mm.filter (kept j) = t.mm.map (latG j)
  mn : t'.mm.length = t.mm.length + c
theorem R0.len {t t' : TS} (h : R0 t t') : t'.pl.length = t.pl.length := h.pl.len.symm
theorem R1.le {c j : Nat} {t t' : TS} (h : R1 m c j t t') : j ≤ t.pl.length := by
  obtain ⟨A, B, A', B', q, e, _, l, _, _⟩ := h.pl
  rw [e, List.length_append]
  omega
theorem R1.len {c j : Nat} {t t' : TS} (h : R1 m c j t t') : t'.pl.length = t.pl.length + 1 := by
  obtain ⟨A, B, A', B', q, e, e', l, a, b⟩ := h.pl
  have := a.len
  have := b.len
  rw [e, e', List.length_append, List.length_append, List.length_cons]
  omega
theorem R1.bl {c j : Nat} {t t' : TS} (h : R1 m c j t t') : t'.bd.length = t.bd.length := by rw [h.bd, List.length_map]
theorem R1.gl {c j : Nat} {t t' : TS} (h : R1 m c j t t') : t'.gr.length = t.gr.length := by rw [h.gr, List.length_map]
theorem R1.push {c j : Nat} {t t' : TS} (h : R1 m c j t t') {d d' : PyData} (q : Nat × Nat) (s : Sim d d') : R1 m c j { t with pl := t.pl ++ [(d, q)] } { t' with pl := t'.pl ++ [(d', q)] } := by
  obtain ⟨A, B, A', B', q', e, e', l, a, b⟩ := h.pl
  exact ⟨⟨A, B ++ [(d, q)], A', B' ++ [(d', q)], q', by rw [← List.append_assoc, ← e], by show t'.pl ++ _ = _; rw [e', List.append_assoc]; rfl, l, a, b.snoc s⟩, h.bd, h.gr, h.mm, h.mn⟩
theorem R1.ground {c j : Nat} {t t' : TS} (h : R1 m c j t t') {k : Str} {n : Nat} (hn : j ≤ n) (a : PyData) : R1 m c j { t with gr := t.gr ++ [rowG k (nD n) a] } { t' with gr := t'.gr ++ [rowG k (nD (n + 1)) a] } :=
  ⟨h.pl, h.bd, by show t'.gr ++ [rowG k (nD (n + 1)) a] = List.map (latG j) (t.gr ++ [rowG k (nD n) a]); rw [List.map_append, h.gr, ← sh_up hn]; rfl, h.mm, h.mn⟩
theorem R1.body {c j : Nat} {t t' : TS} (h : R1 m c j t t') {n : Nat} (hn : j ≤ n) (ps : List Str) : R1 m c j { t with bd := t.bd ++ [rowB (nD n) ps] } { t' with bd := t'.bd ++ [rowB (nD (n + 1)) ps] } :=
  ⟨h.pl, by show t'.bd ++ [rowB (nD (n + 1)) ps] = List.map (latB j) (t.bd ++ [rowB (nD n) ps]); rw [List.map_append, h.bd, ← sh_up hn]; rfl, h.gr, h.mm, h.mn⟩
theorem kept_up {j n g : Nat} {x : Str} (h : j ≤ n) : kept j (rowM x (n + 1) g) = true := by
  show (!decide (((n + 1 : Nat) : Int) = (j : Int))) = true
  rw [decide_eq_false (by omega)]
  rfl
theorem R1.make {c j : Nat} {t t' : TS} (h : R1 m c j t t') {n : Nat} (hn : j ≤ n) (x : Str) (g : Nat) : R1 m c j { t with mm := t.mm ++ [rowM x n g] } { t' with mm := t'.mm ++ [rowM x (n + 1) g] } := by
  refine ⟨h.pl, h.bd, h.gr, ?_, ?_⟩
  · show List.filter (kept j) (t'.mm ++ [rowM x (n + 1) g]) = List.map (latG j) (t.mm ++ [rowM x n g])
    rw [List.filter_append, List.map_append, h.mm, List.filter_cons, kept_up hn]
    simp only [if_true, List.filter_nil, List.map_cons, List.map_nil]
    rw [show latG j (rowM x n g) = rowM x (n + 1) g from by show PyData.tuple [_, shD j (nD n), _] = _; rw [sh_up hn]; rfl]
  · show (t'.mm ++ [rowM x (n + 1) g]).length = (t.mm ++ [rowM x n g]).length + c
    have := h.mn
    rw [List.length_append, List.length_append]
    simp only [List.length_cons, List.length_nil]
    omega
theorem R1.makes {c j n g : Nat} (hn : j ≤ n) : ∀ (ps : List Str) {t t' : TS}, R1 m c j t t' → R1 m c j { t with mm := t.mm ++ ps.map fun p => rowM p n g } { t' with mm := t'.mm ++ ps.map fun p => rowM p (n + 1) g }
  | [], t, t', h => by simp only [List.map_nil, List.append_nil]; exact h
  | p :: r, t, t', h => by
    have z := R1.makes (g := g) hn r (h.make hn p g)
    simp only [List.append_assoc] at z
    exact z
mutual
theorem r1S {c j : Nat} : ∀ (s : Stm) (g b : Nat) (t t' : TS), R1 m c j t t' → R1 m c j (layS s g b t) (layS s g b t')
  | .mk w x r h, g, b, t, t', z => by
    rw [layS, layS, z.len]
    exact (z.push (g, b) (.same _)).make z.le x g
  | .no w r h, g, b, t, t', z => by
    rw [layS, layS]
    exact z.push (g, b) (.same _)
  | .fn x ps blk, g, b, t, t', z => by
    rw [layS, layS, z.len, z.bl, z.gl]
    refine r1B blk _ _ _ _ ?_
    have y := R1.makes (g := t.gr.length) z.le ps (((z.push (g, b) (.same (dS (.fn x ps blk)))).make z.le x g))
    simp only [List.append_assoc] at y
    exact (y.body z.le ps).ground z.le (nD g)
  | .ite a b1 b2, g, b, t, t', z => by
    have y := r1B b1 t.gr.length b _ _ ((z.push (g, b) (.same (dS (.ite a b1 b2)))).ground (k := "one") z.le (nD g))
    rw [layS, layS, z.len, z.gl]
    have yl := y.gl
    have w := r1B b2 (layB b1 t.gr.length b { t with pl := t.pl ++ [(dS (.ite a b1 b2), g, b)], gr := t.gr ++ [rowG "one" (nD t.pl.length) (nD g)] }).gr.length b _ _ (y.ground (k := "other") z.le (nD g))
    rw [yl]
    exact w
  | .whl a blk, g, b, t, t', z => by
    rw [layS, layS, z.len, z.gl]
    exact r1B blk _ _ _ _ ((z.push (g, b) (.same (dS (.whl a blk)))).ground z.le (nD g))
  | .tms true x a blk, g, b, t, t', z => by
    rw [layS, layS, z.len, z.gl]
    exact r1B blk _ _ _ _ ((((z.push (g, b) (.same (dS (.tms true x a blk)))).make z.le x t.gr.length).ground z.le (nD g)).ground z.le (nD t.gr.length))
  | .tms false x a blk, g, b, t, t', z => by
    rw [layS, layS, z.len, z.gl]
    exact r1B blk _ _ _ _ (((z.push (g, b) (.same (dS (.tms false x a blk)))).make z.le x t.gr.length).ground z.le (nD g))
theorem r1B {c j : Nat} : ∀ (blk : Blk) (g b : Nat) (t t' : TS), R1 m c j t t' → R1 m c j (layB blk g b t) (layB blk g b t')
  | .nil, _, _, _, _, z => z
  | .cons s r, g, b, t, t', z => by
    rw [layB, layB]
    exact r1B r g b _ _ (r1S s g b t t' z)
end
/-! ahead of the place: nothing is otherwise but the statements around -/
theorem fixB {n j : Nat} {k : PyData} {ps : List Str} (h : shD j k = k) : latB j (rowB k ps) = rowB k ps := by
  show PyData.tuple (shD j k :: _) = _
  rw [h]
  rfl
theorem fixG {j : Nat} {s : Str} {k a : PyData} (h : shD j k = k) : latG j (rowG s k a) = rowG s k a := by
  show PyData.tuple (_ :: shD j k :: _) = _
  rw [h]
  rfl
theorem fixM {j n g : Nat} {x : Str} (h : n < j) : latG j (rowM x n g) = rowM x n g ∧ kept j (rowM x n g) = true := by
  refine ⟨?_, ?_⟩
  · show PyData.tuple (_ :: shD j (nD n) :: _) = _
    rw [sh_low h]
    rfl
  · show (!decide ((n : Int) = (j : Int))) = true
    rw [decide_eq_false (by omega)]
    rfl
theorem R0.push {t t' : TS} (h : R0 t t') {d d' : PyData} (q : Nat × Nat) (s : Sim d d') : R0 { t with pl := t.pl ++ [(d, q)] } { t' with pl := t'.pl ++ [(d', q)] } := by
  have up : ∀ j, (t.pl ++ [(d, q)]).length ≤ j → t.pl.length ≤ j := fun j z => by
    rw [List.length_append] at z
    simp only [List.length_cons, List.length_nil] at z
    omega
  exact ⟨h.pl.snoc s, h.bd, h.gr, h.mm, fun e z j y => h.fb e z j (up j y), fun e z j y => h.fg e z j (up j y), fun e z j y => h.fm e z j (up j y)⟩
theorem R0.ground {t t' : TS} (h : R0 t t') {k : Str} {n : Nat} (hn : n < t.pl.length) (a : PyData) : R0 { t with gr := t.gr ++ [rowG k (nD n) a] } { t' with gr := t'.gr ++ [rowG k (nD n) a] } := by
  refine ⟨h.pl, h.bd, by show t'.gr ++ _ = t.gr ++ _; rw [h.gr], h.mm, h.fb, fun e z j y => ?_, h.fm⟩
  have y' : t.pl.length ≤ j := y
  rcases List.mem_append.mp z with q | q
  · exact h.fg e q j y
  · rw [List.mem_singleton.mp q]
    exact fixG (sh_low (by omega))
theorem R0.body {t t' : TS} (h : R0 t t') {n : Nat} (hn : n < t.pl.length) (ps : List Str) : R0 { t with bd := t.bd ++ [rowB (nD n) ps] } { t' with bd := t'.bd ++ [rowB (nD n) ps] } := by
  refine ⟨h.pl, by show t'.bd ++ _ = t.bd ++ _; rw [h.bd], h.gr, h.mm, fun e z j y => ?_, h.fg, h.fm⟩
  have y' : t.pl.length ≤ j := y
  rcases List.mem_append.mp z with q | q
  · exact h.fb e q j y
  · rw [List.mem_singleton.mp q]
    exact fixB (n := n) (sh_low (by omega))
theorem R0.makes {t t' : TS} (h : R0 t t') {n : Nat} (hn : n < t.pl.length) (l : List (Str × Nat)) : R0 { t with mm := t.mm ++ l.map fun p => rowM p.1 n p.2 } { t' with mm := t'.mm ++ l.map fun p => rowM p.1 n p.2 } := by
  refine ⟨h.pl, h.bd, h.gr, by show t'.mm ++ _ = t.mm ++ _; rw [h.mm], h.fb, h.fg, fun e z j y => ?_⟩
  have y' : t.pl.length ≤ j := y
  rcases List.mem_append.mp z with q | q
  · exact h.fm e q j y
  · obtain ⟨p, _, rfl⟩ := List.mem_map.mp q
    exact fixM (by omega)
theorem lt_push {t : TS} {e : PE3} : t.pl.length < (t.pl ++ [e]).length := by
  rw [List.length_append]
  simp
mutual
theorem r0S : ∀ (s : Stm) (g b : Nat) (t t' : TS), R0 t t' → R0 (layS s g b t) (layS s g b t')
  | .mk w x r h, g, b, t, t', z => by
    rw [layS, layS, z.len]
    exact (z.push (g, b) (.same _)).makes lt_push [(x, g)]
  | .no w r h, g, b, t, t', z => by
    rw [layS, layS]
    exact z.push (g, b) (.same _)
  | .fn x ps blk, g, b, t, t', z => by
    rw [layS, layS, z.len, z.bd, z.gr]
    refine r0B blk _ _ _ _ ?_
    have y := ((((z.push (g, b) (.same (dS (.fn x ps blk)))).makes lt_push ((x, g) :: ps.map fun p => (p, t.gr.length))).body lt_push ps).ground (k := "body") lt_push (nD g))
    simp only [List.map_cons, List.map_map, z.bd, z.gr] at y
    exact y
  | .ite a b1 b2, g, b, t, t', z => by
    have y := r0B b1 t.gr.length b _ _ ((z.push (g, b) (.same (dS (.ite a b1 b2)))).ground (k := "one") lt_push (nD g))
    rw [layS, layS, z.len, show t'.gr.length = t.gr.length by rw [z.gr]]
    have yl : (layB b1 t.gr.length b { t' with pl := t'.pl ++ [(dS (.ite a b1 b2), g, b)], gr := t'.gr ++ [rowG "one" (nD t.pl.length) (nD g)] }).gr.length = (layB b1 t.gr.length b { t with pl := t.pl ++ [(dS (.ite a b1 b2), g, b)], gr := t.gr ++ [rowG "one" (nD t.pl.length) (nD g)] }).gr.length := congrArg List.length y.gr
    have lb := lenB b1 t.gr.length b { t with pl := t.pl ++ [(dS (.ite a b1 b2), g, b)], gr := t.gr ++ [rowG "one" (nD t.pl.length) (nD g)] }
    have lp : t.pl.length < (t.pl ++ [(dS (.ite a b1 b2), g, b)]).length := lt_push
    rw [yl]
    exact r0B b2 _ b _ _ (y.ground (k := "other") (n := t.pl.length) (by rw [lb]; exact Nat.lt_of_lt_of_le lp (Nat.le_add_right _ _)) (nD g))
  | .whl a blk, g, b, t, t', z => by
    rw [layS, layS, z.len, show t'.gr.length = t.gr.length by rw [z.gr]]
    exact r0B blk _ _ _ _ ((z.push (g, b) (.same (dS (.whl a blk)))).ground lt_push (nD g))
  | .tms true x a blk, g, b, t, t', z => by
    rw [layS, layS, z.len, show t'.gr.length = t.gr.length by rw [z.gr]]
    exact r0B blk _ _ _ _ ((((z.push (g, b) (.same (dS (.tms true x a blk)))).makes lt_push [(x, t.gr.length)]).ground lt_push (nD g)).ground lt_push (nD t.gr.length))
  | .tms false x a blk, g, b, t, t', z => by
    rw [layS, layS, z.len, show t'.gr.length = t.gr.length by rw [z.gr]]
    exact r0B blk _ _ _ _ (((z.push (g, b) (.same (dS (.tms false x a blk)))).makes lt_push [(x, t.gr.length)]).ground lt_push (nD g))
theorem r0B : ∀ (blk : Blk) (g b : Nat) (t t' : TS), R0 t t' → R0 (layB blk g b t) (layB blk g b t')
  | .nil, _, _, _, _, z => z
  | .cons s r, g, b, t, t', z => by
    rw [layB, layB]
    exact r0B r g b _ _ (r0S s g b t t' z)
end
/-! ### the place -/
def cM : Stm → Nat
  | .mk .. => 1
  | _ => 0
def flatS : Stm → Prop
  | .mk .. => True
  | .no .. => True
  | _ => False
theorem map_fix {α : Type} {f : α → α} : ∀ {l : List α}, (∀ d ∈ l, f d = d) → l.map f = l
  | [], _ => rfl
  | d :: r, h => by rw [List.map_cons, h d List.mem_cons_self, map_fix fun e z => h e (List.mem_cons_of_mem _ z)]
theorem filter_all {α : Type} {f : α → Bool} : ∀ {l : List α}, (∀ d ∈ l, f d = true) → l.filter f = l
  | [], _ => rfl
  | d :: r, h => by rw [List.filter_cons, if_pos (h d List.mem_cons_self), filter_all fun e z => h e (List.mem_cons_of_mem _ z)]
theorem R0.base {t t' : TS} (fm : flatS m) (h : R0 t t') (g b : Nat) : R1 m (cM m) t.pl.length t (layS m g b t') := by
  have e1 : t.bd.map (latB t.pl.length) = t.bd := map_fix fun d z => h.fb d z _ (Nat.le_refl _)
  have e2 : t.gr.map (latG t.pl.length) = t.gr := map_fix fun d z => h.fg d z _ (Nat.le_refl _)
  have e3 : t.mm.map (latG t.pl.length) = t.mm := map_fix fun d z => (h.fm d z _ (Nat.le_refl _)).1
  have e4 : t.mm.filter (kept t.pl.length) = t.mm := filter_all fun d z => (h.fm d z _ (Nat.le_refl _)).2
  cases m with
  | mk w x r hw =>
    rw [layS]
    refine ⟨⟨t.pl, [], t'.pl, [], (g, b), (List.append_nil _).symm, rfl, rfl, h.pl, .nil⟩, by rw [e1]; exact h.bd, by rw [e2]; exact h.gr, ?_, ?_⟩
    · show List.filter (kept t.pl.length) (t'.mm ++ [rowM x t'.pl.length g]) = List.map (latG t.pl.length) t.mm
      rw [List.filter_append, h.mm, e4, e3, h.len, List.filter_cons, if_neg, List.filter_nil, List.append_nil]
      show ¬ (!decide ((t.pl.length : Int) = (t.pl.length : Int))) = true
      rw [decide_eq_true rfl]
      exact Bool.false_ne_true
    · show (t'.mm ++ [rowM x t'.pl.length g]).length = t.mm.length + 1
      rw [List.length_append, h.mm]
      rfl
  | no w r hw =>
    rw [layS]
    exact ⟨⟨t.pl, [], t'.pl, [], (g, b), (List.append_nil _).symm, rfl, rfl, h.pl, .nil⟩, by rw [e1]; exact h.bd, by rw [e2]; exact h.gr, by rw [e3]; show List.filter _ t'.mm = _; rw [h.mm, e4], by show t'.mm.length = _; rw [h.mm]; rfl⟩
  | fn x ps b => exact fm.elim
  | ite a b1 b2 => exact fm.elim
  | whl a b => exact fm.elim
  | tms one x a b => exact fm.elim
theorem R1.low {c j : Nat} {t t' : TS} (h : R1 m c j t t') {k : Str} {n : Nat} (hn : n < j) (a : PyData) : R1 m c j { t with gr := t.gr ++ [rowG k (nD n) a] } { t' with gr := t'.gr ++ [rowG k (nD n) a] } :=
  ⟨h.pl, h.bd, by show t'.gr ++ [rowG k (nD n) a] = List.map (latG j) (t.gr ++ [rowG k (nD n) a]); rw [List.map_append, h.gr, List.map_cons, fixG (sh_low hn)]; rfl, h.mm, h.mn⟩
theorem sim_fn {x : Str} {ps : List Str} {b b' : Blk} : Sim (dS (.fn x ps b)) (dS (.fn x ps b')) := by
  rw [dS, dS]
  exact .blk _ _ _ (.inl rfl)
theorem sim_ite {a : PyData} {b b' c c' : Blk} : Sim (dS (.ite a b c)) (dS (.ite a b' c')) := by
  rw [dS, dS]
  exact .blk _ _ _ (.inr (.inl rfl))
theorem sim_whl {a : PyData} {b b' : Blk} : Sim (dS (.whl a b)) (dS (.whl a b')) := by
  rw [dS, dS]
  exact .blk _ _ _ (.inr (.inr (.inl rfl)))
theorem sim_tms {one : Bool} {x : Str} {a : PyData} {b b' : Blk} : Sim (dS (.tms one x a b)) (dS (.tms one x a b')) := by
  rw [dS, dS]
  exact .blk _ _ _ (.inr (.inr (.inr rfl)))
theorem len_push {t : TS} {e : PE3} : (t.pl ++ [e]).length = t.pl.length + 1 := by
  rw [List.length_append]
  rfl
mutual
theorem putS_rel (fm : flatS m) : ∀ (s : Stm) (n : Int) (g b : Nat) (t t' : TS), 0 ≤ n → n < cpS s → R0 t t' → ∃ j, t.pl.length < j ∧ R1 m (cM m) j (layS s g b t) (layS (putS m s n).1 g b t')
  | .mk .., n, _, _, _, _, h0, h1, _ => by simp only [cpS] at h1; omega
  | .no .., n, _, _, _, _, h0, h1, _ => by simp only [cpS] at h1; omega
  | .fn x ps blk, n, g, b, t, t', h0, h1, z => by
    simp only [cpS] at h1
    have y := ((((z.push (g, b) (sim_fn (x := x) (ps := ps) (b := blk) (b' := (putB m blk n).1))).makes lt_push ((x, g) :: ps.map fun p => (p, t.gr.length))).body lt_push ps).ground (k := "body") lt_push (nD g))
    simp only [List.map_cons, List.map_map, z.bd, z.gr] at y
    obtain ⟨j, hj, w⟩ := putB_rel fm blk n t.gr.length t.bd.length _ _ h0 h1 y
    refine ⟨j, Nat.lt_of_lt_of_le lt_push hj, ?_⟩
    simp only [putS]
    rw [layS, layS, z.len, z.bd, z.gr]
    exact w
  | .ite a b1 b2, n, g, b, t, t', h0, h1, z => by
    simp only [cpS] at h1
    simp only [putS, putB_2]
    rw [layS, layS, z.len, show t'.gr.length = t.gr.length by rw [z.gr]]
    by_cases c : n < cpB b1
    · rw [putB_neg b2 (n - cpB b1) (by omega)]
      obtain ⟨j, hj, w⟩ := putB_rel fm b1 n t.gr.length b _ _ h0 c ((z.push (g, b) (sim_ite (a := a) (b := b1) (b' := (putB m b1 n).1) (c := b2) (c' := b2))).ground (k := "one") lt_push (nD g))
      have hj' : t.pl.length < j := Nat.lt_of_lt_of_le lt_push hj
      have wl := w.gl
      refine ⟨j, hj', ?_⟩
      rw [wl]
      exact r1B b2 _ b _ _ (w.low (k := "other") hj' (nD g))
    · rw [putB_far b1 n (by omega)]
      have y := r0B b1 t.gr.length b _ _ ((z.push (g, b) (sim_ite (a := a) (b := b1) (b' := b1) (c := b2) (c' := (putB m b2 (n - cpB b1)).1))).ground (k := "one") lt_push (nD g))
      have yl := congrArg List.length y.gr
      have lb := lenB b1 t.gr.length b { t with pl := t.pl ++ [(dS (.ite a b1 b2), g, b)], gr := t.gr ++ [rowG "one" (nD t.pl.length) (nD g)] }
      have lp : t.pl.length < (t.pl ++ [(dS (.ite a b1 b2), g, b)]).length := lt_push
      have ll : t.pl.length < (layB b1 t.gr.length b { t with pl := t.pl ++ [(dS (.ite a b1 b2), g, b)], gr := t.gr ++ [rowG "one" (nD t.pl.length) (nD g)] }).pl.length := by
        rw [lb]
        exact Nat.lt_of_lt_of_le lp (Nat.le_add_right _ _)
      obtain ⟨j, hj, w⟩ := putB_rel fm b2 (n - cpB b1) (layB b1 t.gr.length b { t with pl := t.pl ++ [(dS (.ite a b1 b2), g, b)], gr := t.gr ++ [rowG "one" (nD t.pl.length) (nD g)] }).gr.length b _ _ (by omega) (by omega) (y.ground (k := "other") (n := t.pl.length) ll (nD g))
      refine ⟨j, Nat.lt_of_lt_of_le ll hj, ?_⟩
      rw [yl]
      exact w
  | .whl a blk, n, g, b, t, t', h0, h1, z => by
    simp only [cpS] at h1
    obtain ⟨j, hj, w⟩ := putB_rel fm blk n t.gr.length b _ _ h0 h1 ((z.push (g, b) (sim_whl (a := a) (b := blk) (b' := (putB m blk n).1))).ground (k := "while") lt_push (nD g))
    refine ⟨j, Nat.lt_of_lt_of_le lt_push hj, ?_⟩
    simp only [putS]
    rw [layS, layS, z.len, show t'.gr.length = t.gr.length by rw [z.gr]]
    exact w
  | .tms true x a blk, n, g, b, t, t', h0, h1, z => by
    simp only [cpS] at h1
    obtain ⟨j, hj, w⟩ := putB_rel fm blk n (t.gr.length + 1) b _ _ h0 h1 ((((z.push (g, b) (sim_tms (one := true) (x := x) (a := a) (b := blk) (b' := (putB m blk n).1))).makes lt_push [(x, t.gr.length)]).ground (k := "head") lt_push (nD g)).ground (k := "times") lt_push (nD t.gr.length))
    refine ⟨j, Nat.lt_of_lt_of_le lt_push hj, ?_⟩
    simp only [putS]
    rw [layS, layS, z.len, show t'.gr.length = t.gr.length by rw [z.gr]]
    exact w
  | .tms false x a blk, n, g, b, t, t', h0, h1, z => by
    simp only [cpS] at h1
    obtain ⟨j, hj, w⟩ := putB_rel fm blk n t.gr.length b _ _ h0 h1 (((z.push (g, b) (sim_tms (one := false) (x := x) (a := a) (b := blk) (b' := (putB m blk n).1))).makes lt_push [(x, t.gr.length)]).ground (k := "times") lt_push (nD g))
    refine ⟨j, Nat.lt_of_lt_of_le lt_push hj, ?_⟩
    simp only [putS]
    rw [layS, layS, z.len, show t'.gr.length = t.gr.length by rw [z.gr]]
    exact w
theorem putB_rel (fm : flatS m) : ∀ (blk : Blk) (n : Int) (g b : Nat) (t t' : TS), 0 ≤ n → n < cpB blk → R0 t t' → ∃ j, t.pl.length ≤ j ∧ R1 m (cM m) j (layB blk g b t) (layB (putB m blk n).1 g b t')
  | .nil, n, g, b, t, t', h0, h1, z => by
    simp only [cpB] at h1
    simp only [putB]
    rw [if_pos (by omega), layB, layB, layB]
    exact ⟨_, Nat.le_refl _, z.base fm g b⟩
  | .cons s r, n, g, b, t, t', h0, h1, z => by
    simp only [cpB] at h1
    simp only [putB]
    by_cases c : n = 0
    · rw [if_pos c, putS_neg s _ (by omega), putS_2, putB_neg r _ (by omega), layB, layB, layB]
      exact ⟨_, Nat.le_refl _, r1B r g b _ _ (r1S s g b _ _ (z.base fm g b))⟩
    · rw [if_neg c, putS_2, layB, layB]
      by_cases c2 : n - 1 < cpS s
      · rw [putB_neg r _ (by omega)]
        obtain ⟨j, hj, w⟩ := putS_rel fm s (n - 1) g b t t' (by omega) c2 z
        exact ⟨j, Nat.le_of_lt hj, r1B r g b _ _ w⟩
      · rw [putS_far s (n - 1) (by omega)]
        obtain ⟨j, hj, w⟩ := putB_rel fm r (n - 1 - cpS s) g b _ _ (by omega) (by omega) (r0S s g b _ _ z)
        have ls := lenS s g b t
        exact ⟨j, by omega, w⟩
end
end Fb
set_option Elab.async false
set_option linter.all false
set_option maxRecDepth 100000
set_option maxHeartbeats 2000000
namespace Fb
open PySem PySem.Spec PyProof.Rows L2
/-! rules that name the written part -/
section
variable {X : Cx} (K0 : PySem.W.Frag) (hK : X.K = K0)
include hK
theorem piLK {tg l : Expr} {tl : TE} (hl : PE X l tl) : PI X tg l (iList K0 tl) := by
  subst hK
  exact pi_list hl
theorem piTK {tg l : Expr} {tl : TE} (hl : PE X l tl) : PI X tg l (iTup K0 tl) := by
  subst hK
  exact pi_tup hl
theorem sumK (hc : X.calm = true) : CallR X (.builtin "sum") (rSum K0) := by
  subst hK
  exact cr_sum hc
/-- t + u, whatever they are -/
def rCatU (K : PySem.W.Frag) : R2 := fun x y H Q => ∃ a b xs ys, x = .ref a ∧ y = .ref b ∧ SqT K H a xs ∧ SqT K H b ys ∧ xs.length + ys.length ≤ sizeLine ∧ ∀ p H', SqT K H' p (xs ++ ys) → Same H H' → Q (.ref p) H'
theorem catU : OpR X (binaryOp .Add) (rCatU K0) := by
  subst hK
  intro pins s σ H x y v u Q I rx ry h
  obtain ⟨a, b, xs, ys, rfl, rfl, ha, hb, hz, q⟩ := h
  refine op_catA pins s σ H _ _ v u Q I rx ry ⟨a, b, xs, ys, rfl, rfl, ha, hb, hz, fun e => ?_, fun _ e => ?_, fun _ _ p np => q p _ (SqT.of upd_same) (same_new np)⟩
  · subst e
    exact q b H hb fun _ _ e => e
  · subst e
    exact q a H (by rw [List.append_nil]; exact ha) fun _ _ e => e
/-- t[lo:hi], whatever it is -/
def rSlU (K : PySem.W.Frag) : V → Option Int → Option Int → Hp → VK → Prop := fun x lo hi H Q => ∃ a xs, x = .ref a ∧ SqT K H a xs ∧ ∀ p H', SqT K H' p (cutV xs lo hi) → Same H H' → Q (.ref p) H'
theorem slU : SlR X (rSlU K0) := by
  subst hK
  intro pins s σ H x v vl vu lo hi sl Q I rx hs pl pu h
  obtain ⟨a, xs, rfl, hx, q⟩ := h
  refine sl_tupA pins s σ H _ v vl vu lo hi sl Q I rx hs pl pu ⟨a, xs, rfl, hx, fun e => q a H ?_ fun _ _ e => e, fun _ p np => q p _ (SqT.of upd_same) (same_new np)⟩
  unfold cutV
  rw [e.1, e.2, List.drop_zero, Nat.sub_zero, List.take_length]
  exact hx
theorem listK : CallR X (.type "list") (fun xs H Q => ∃ p ys, xs = [.ref p] ∧ (SqL K0 H p ys ∨ SqT K0 H p ys) ∧ ∀ l, H l = none → Q (.ref l) (L2.upd H l (.lst ys))) := by
  subst hK
  exact call_list_of
end
/-! cuts -/
theorem cut_to {xs : List V} {j : Nat} (h : j ≤ xs.length) : cutV xs none (some (j : Int)) = xs.take j := by
  unfold cutV
  rw [HT.sIx_none, HT.sIx_nat, List.drop_zero, Nat.sub_zero, Nat.min_eq_left h]
theorem cut_from {xs : List V} {j : Nat} (h : j ≤ xs.length) : cutV xs (some (j : Int)) none = xs.drop j := by
  unfold cutV
  rw [HT.sIx_none, HT.sIx_nat, Nat.min_eq_left h]
  exact List.take_of_length_le (by rw [List.length_drop]; omega)
theorem dps_take {K : PySem.W.Frag} {H : Hp} : ∀ {vs : List V} {ds : List PyData} (j : Nat), DpAll K H vs ds → DpAll K H (vs.take j) (ds.take j)
  | _, _, 0, _ => by rw [List.take_zero, List.take_zero]; exact .nil
  | _, _, _ + 1, .nil => .nil
  | _, _, j + 1, .cons a t => .cons a (dps_take j t)
theorem dps_drop {K : PySem.W.Frag} {H : Hp} : ∀ {vs : List V} {ds : List PyData} (j : Nat), DpAll K H vs ds → DpAll K H (vs.drop j) (ds.drop j)
  | _, _, 0, h => h
  | _, _, _ + 1, .nil => .nil
  | _, _, j + 1, .cons a t => dps_drop j t
/-! what is like itself -/
mutual
theorem eqv_refl : ∀ d : PyData, d.canLay0 = true → PyData.eqv d d = true
  | .none, _ => rfl
  | .bool b, _ => by show (b == b) = true; exact beq_self_eq_true b
  | .int i, _ => by show (i == i) = true; exact beq_self_eq_true i
  | .str x, _ => by show (x == x) = true; exact beq_self_eq_true x
  | .list xs, h => by
    show PyData.eqvAll xs xs = true
    exact eqvs_refl xs h
  | .tuple xs, h => by
    show PyData.eqvAll xs xs = true
    exact eqvs_refl xs h
  | .dict _, h => by cases h
theorem eqvs_refl : ∀ ds : List PyData, PyData.canLayAll0 ds = true → PyData.eqvAll ds ds = true
  | [], _ => rfl
  | d :: r, h => by
    rw [PyData.canLayAll0, Bool.and_eq_true] at h
    rw [PyData.eqvAll, eqv_refl d h.1, eqvs_refl r h.2]
    rfl
end
/-! ### the way of the loop: statement by statement, part by part -/
def bks : Stm → List Blk
  | .fn _ _ b => [b]
  | .ite _ b1 b2 => [b1, b2]
  | .whl _ b => [b]
  | .tms _ _ _ b => [b]
  | _ => []
def tB (b : Blk) : PyData := .tuple (dB b)
/-- what stands ahead of its blocks -/
def hdS : Stm → List PyData
  | .mk w x r _ => .str w :: .str x :: r
  | .no w r _ => .str w :: r
  | .fn x ps _ => [.str "fn", .str x, .tuple (ps.map .str)]
  | .ite a _ _ => [.str "if", a]
  | .whl a _ => [.str "while", a]
  | .tms one x a _ => [.str "times", .str (modeS one), .str x, a]
theorem dS_parts (s : Stm) : dS s = .tuple (hdS s ++ (bks s).map tB) := by
  cases s <;> simp [dS, hdS, bks, tB]
def parts (m : Stm) : List Blk → Int → List Blk × Int
  | [], n => ([], n)
  | b :: r, n => ((putB m b n).1 :: (parts m r (putB m b n).2).1, (parts m r (putB m b n).2).2)
theorem parts_snoc {m : Stm} : ∀ (l : List Blk) (b : Blk) (n : Int), parts m (l ++ [b]) n = ((parts m l n).1 ++ [(putB m b (parts m l n).2).1], (putB m b (parts m l n).2).2)
  | [], b, n => rfl
  | c :: r, b, n => by
    show ((putB m c n).1 :: (parts m (r ++ [b]) (putB m c n).2).1, (parts m (r ++ [b]) (putB m c n).2).2) = _
    rw [parts_snoc r]
    rfl
theorem put_parts {m : Stm} (s : Stm) (n : Int) : hdS (putS m s n).1 = hdS s ∧ bks (putS m s n).1 = (parts m (bks s) n).1 ∧ (putS m s n).2 = (parts m (bks s) n).2 := by
  cases s <;> simp [putS, hdS, bks, parts]
theorem parts_len {m : Stm} : ∀ (l : List Blk) (n : Int), (parts m l n).1.length = l.length
  | [], _ => rfl
  | b :: r, n => by
    show ((putB m b n).1 :: _).length = _
    rw [List.length_cons, parts_len r, List.length_cons]
def way (m : Stm) : List Stm → Int → List Stm × Int
  | [], n => ([], n)
  | s :: r, n => ((if n = 0 then [m] else []) ++ (putS m s (n - 1)).1 :: (way m r (putS m s (n - 1)).2).1, (way m r (putS m s (n - 1)).2).2)
theorem way_snoc {m : Stm} : ∀ (l : List Stm) (s : Stm) (n : Int), way m (l ++ [s]) n = ((way m l n).1 ++ (if (way m l n).2 = 0 then [m] else []) ++ [(putS m s ((way m l n).2 - 1)).1], (putS m s ((way m l n).2 - 1)).2)
  | [], s, n => by
    show ((if n = 0 then [m] else []) ++ (putS m s (n - 1)).1 :: [], (putS m s (n - 1)).2) = _
    rfl
  | c :: r, s, n => by
    show ((if n = 0 then [m] else []) ++ (putS m c (n - 1)).1 :: (way m (r ++ [s]) (putS m c (n - 1)).2).1, (way m (r ++ [s]) (putS m c (n - 1)).2).2) = _
    rw [way_snoc r]
    show _ = (((if n = 0 then [m] else []) ++ (putS m c (n - 1)).1 :: (way m r (putS m c (n - 1)).2).1) ++ _ ++ _, _)
    simp only [List.append_assoc, List.cons_append]
    rfl
theorem way_put {m : Stm} : ∀ (b : Blk) (n : Int), stms (putB m b n).1 = (way m (stms b) n).1 ++ (if (way m (stms b) n).2 = 0 then [m] else []) ∧ (putB m b n).2 = (way m (stms b) n).2 - 1
  | .nil, n => by
    simp only [putB, stms, way, List.nil_append]
    refine ⟨?_, trivial⟩
    by_cases h : n = 0
    · rw [if_pos h, if_pos h]; rfl
    · rw [if_neg h, if_neg h]; rfl
  | .cons s r, n => by
    obtain ⟨h1, h2⟩ := way_put (m := m) r (putS m s (n - 1)).2
    simp only [putB, stms, way]
    refine ⟨?_, h2⟩
    by_cases h : n = 0
    · rw [if_pos h, if_pos h]
      show m :: (putS m s (n - 1)).1 :: stms _ = _
      rw [h1]
      rfl
    · rw [if_neg h, if_neg h]
      show (putS m s (n - 1)).1 :: stms _ = _
      rw [h1]
      rfl
theorem hS_bks {s : Stm} {b : Blk} (h : b ∈ bks s) : hB b + 1 ≤ hS s := by
  cases s with
  | mk w x r hw => cases h
  | no w r hw => cases h
  | fn x ps c => rw [List.mem_singleton.mp h, hS]; omega
  | ite a b1 b2 =>
    rw [hS]
    simp only [bks, List.mem_cons, List.not_mem_nil, or_false] at h
    rcases h with e | e <;> (rw [e]; omega)
  | whl a c => rw [List.mem_singleton.mp h, hS]; omega
  | tms one x a c => rw [List.mem_singleton.mp h, hS]; omega
theorem good_bks {s : Stm} (g : goodS s) {b : Blk} (h : b ∈ bks s) : goodB b := by
  cases s with
  | mk w x r hw => cases h
  | no w r hw => cases h
  | fn x ps c => rw [goodS] at g; rw [List.mem_singleton.mp h]; exact g.2.2.2
  | ite a b1 b2 =>
    rw [goodS] at g
    simp only [bks, List.mem_cons, List.not_mem_nil, or_false] at h
    rcases h with e | e
    · rw [e]; exact g.2.1
    · rw [e]; exact g.2.2
  | whl a c => rw [goodS] at g; rw [List.mem_singleton.mp h]; exact g.2
  | tms one x a c => rw [goodS] at g; rw [List.mem_singleton.mp h]; exact g.2.2
theorem nS_bks {s : Stm} {b : Blk} (h : b ∈ bks s) : nB b ≤ nS s := by
  cases s with
  | mk w x r hw => cases h
  | no w r hw => cases h
  | fn x ps c => rw [List.mem_singleton.mp h, nS]; omega
  | ite a b1 b2 =>
    rw [nS]
    simp only [bks, List.mem_cons, List.not_mem_nil, or_false] at h
    rcases h with e | e <;> (rw [e]; omega)
  | whl a c => rw [List.mem_singleton.mp h, nS]; omega
  | tms one x a c => rw [List.mem_singleton.mp h, nS]; omega
theorem nS_mem : ∀ {b : Blk} {s : Stm}, s ∈ stms b → nS s ≤ nB b
  | .nil, _, h => by cases h
  | .cons x r, s, h => by
    rw [nB]
    rcases List.mem_cons.mp h with e | e
    · rw [e]; omega
    · have := nS_mem e
      omega
theorem stms_len : ∀ b : Blk, (stms b).length ≤ nB b
  | .nil => Nat.le_refl _
  | .cons s r => by
    rw [stms, List.length_cons, nB]
    have := stms_len r
    have : 1 ≤ nS s := by cases s <;> simp only [nS] <;> omega
    omega
theorem way_len {m : Stm} : ∀ (l : List Stm) (n : Int), (way m l n).1.length ≤ 2 * l.length
  | [], _ => Nat.le_refl _
  | s :: r, n => by
    have := way_len (m := m) r (putS m s (n - 1)).2
    show ((if n = 0 then [m] else []) ++ (putS m s (n - 1)).1 :: _).length ≤ 2 * (s :: r).length
    rw [List.length_append, List.length_cons, List.length_cons]
    by_cases h : n = 0
    · rw [if_pos h]; simp only [List.length_cons, List.length_nil]; omega
    · rw [if_neg h]; simp only [List.length_nil]; omega
/-- how many places, as the law sums them -/
def cps (s : Stm) : List Int := (bks s).map fun b => (cpB b : Int)
theorem cps_sum (s : Stm) : (cps s).sum = cpS s := by
  cases s <;> simp [cps, bks, cpS]
theorem cp_sum : ∀ b : Blk, 1 + ((stms b).map fun s => 1 + (cps s).sum).sum = (cpB b : Int)
  | .nil => rfl
  | .cons s r => by
    have := cp_sum r
    rw [stms, List.map_cons, List.sum_cons, cps_sum, cpB]
    omega
end Fb
set_option Elab.async false
set_option linter.all false
set_option maxRecDepth 100000
set_option maxHeartbeats 2000000
namespace VL
open PySem PySem.Spec PyProof.Rows L2
/-! ### bridges -/
theorem fnOk_mono {P : Program} {w : World} {K : PySem.W.Frag} {mg : Str → Option Value} {base : Heap} {CX : CXT} {k : Nat} {f : Addr} {fd : FuncData} {ps : List Str} {sp sp' : Sp} (h : FnOk P w K mg base CX k f fd ps sp) (i : ∀ vs H Q E, sp' vs H Q E → sp vs H Q E) : FnOk P w K mg base CX k f fd ps sp' :=
  ⟨fun vs H Q E z => h.len vs H Q E (i vs H Q E z), fun A outer s H args us vs Q E hr e0 hb r z => h.run A outer s H args us vs Q E hr e0 hb r (i vs H Q E z)⟩
theorem cal_mono {P : Program} {w : World} {K : PySem.W.Frag} {mg : Str → Option Value} {base : Heap} {k : Nat} {x : Str} {sp sp' : Sp} {dvs : List V} (h : C8.Cal P w K mg base k x sp dvs) (i : ∀ vs H Q E, sp' vs H Q E → sp vs H Q E) : C8.Cal P w K mg base k x sp' dvs := by
  obtain ⟨f, fd, ps, ds, F, h⟩ := h.ex
  exact ⟨f, fd, ps, ds, fnOk_mono F i, h⟩
theorem cal_vac {P : Program} {w : World} {K : PySem.W.Frag} {mg : Str → Option Value} {base : Heap} {k : Nat} {x : Str} {st : Stmt} {f : Addr} {fd : FuncData} {ps : List Str} {pM : List Sh} {rsh : Sh} {sp : VSp} (F : L2.Fun K x x st f fd) (gm : mg x = some (.ref f)) (b : Binds K fd ps []) (no : ∀ ds Q Qx, ¬ sp ds Q Qx) : C8.Cal P w K mg base k x (spOf K pM rsh sp) [] :=
  ⟨f, fd, ps, [], ⟨fun vs H Q E h => (let ⟨_, ds, Qv, Qx, _, _, _, _, _, z, _⟩ := h; (no ds Qv Qx z).elim), fun A outer s H args us vs Q E hr e0 hb r h => (let ⟨_, ds, Qv, Qx, _, _, _, _, _, z, _⟩ := h; (no ds Qv Qx z).elim)⟩, gm, F.kp, b, .nil⟩
/-! data that is shown, as data here -/
mutual
def dD : PyData → D
  | .none => .non
  | .bool b => .bl b
  | .int i => .int i
  | .str s => .str s
  | .tuple l => .tup (dDs l)
  | .list l => .lst (dDs l)
  | .dict _ => .non
def dDs : List PyData → List D
  | [] => []
  | d :: ds => dD d :: dDs ds
end
mutual
theorem py_dD : ∀ p : PyData, Fb.noL p = true → py (dD p) = p ∧ plain (dD p) = true
  | .none, _ => by simp [dD, py, plain]
  | .bool b, _ => by simp [dD, py, plain]
  | .int i, _ => by simp [dD, py, plain]
  | .str s, _ => by simp [dD, py, plain]
  | .tuple l, h => by
    have z := pys_dDs l (by simpa [Fb.noL] using h)
    simp [dD, py, plain, z]
  | .list l, h => by simp [Fb.noL] at h
  | .dict l, h => by simp [Fb.noL] at h
theorem pys_dDs : ∀ l : List PyData, Fb.noLs l = true → pys (dDs l) = l ∧ plains (dDs l) = true
  | [], _ => by simp [dDs, pys, plains]
  | d :: ds, h => by
    rw [Fb.noLs, Bool.and_eq_true] at h
    have a := py_dD d h.1
    have b := pys_dDs ds h.2
    simp [dDs, pys, plains, a, b]
end
theorem dDs_map : ∀ l : List PyData, dDs l = l.map dD
  | [] => by rw [dDs]; rfl
  | d :: r => by rw [dDs, dDs_map r]; rfl
section
variable {K : PySem.W.Frag} {ow : Addr → Prop} {H : Hp}
mutual
theorem rs_dp : ∀ (p : PyData) (v : V), Dp K H v p → Fb.noL p = true → RS K ow H (dD p) v
  | .none, _, h, _ => by cases h; rw [dD]; exact rs_non
  | .bool b, _, h, _ => by cases h; rw [dD]; exact rs_bl
  | .int i, _, h, _ => by cases h; rw [dD]; exact rs_int
  | .str s, _, h, _ => by cases h; rw [dD]; exact rs_str
  | .tuple l, _, h, n => by
    cases h with
    | tup a b =>
      rw [dD]
      simp only [RS]
      exact ⟨_, _, rfl, a, rss_dp l _ b (by simpa [Fb.noL] using n)⟩
  | .list l, _, _, n => by simp [Fb.noL] at n
  | .dict l, _, _, n => by simp [Fb.noL] at n
theorem rss_dp : ∀ (l : List PyData) (vs : List V), DpAll K H vs l → Fb.noLs l = true → RSs K ow H (dDs l) vs
  | [], _, h, _ => by cases h; rw [dDs]; exact .nil
  | d :: ds, _, h, n => by
    rw [Fb.noLs, Bool.and_eq_true] at n
    cases h with
    | cons a b =>
      rw [dDs]
      exact .cons (rs_dp d _ a n.1) (rss_dp ds _ b n.2)
end
theorem dp_rs {p : PyData} {v : V} (h : RS K ow H (dD p) v) (n : Fb.noL p = true) : Dp K H v p := by
  have z := py_dD p n
  have y := RS.dp _ _ h z.2
  rw [z.1] at y
  exact y
end
/-- a call without things of the caller's own: what it gives is new or read only -/
theorem spOf_S {K : PySem.W.Frag} {pM : List Sh} {rsh : Sh} {sp : VSp} {vs : List V} {H : Hp} {Q : VK} {E : XK} (h : spOf K pM rsh sp vs H Q E) : ∃ (ow : Addr → Prop) (ds : List D) (Qv : D → Env → Prop) (Qx : Exn → Env → Prop), (∀ sh ∈ pM, sh = .s) → RSs K ow H ds vs ∧ ds.length = pM.length ∧ sp ds Qv Qx ∧
    (∀ v r fp H', Same H H' → fp.Nodup → (∀ a ∈ fp, H a = none) → (∀ ow', (∀ a, ow' a → ow a ∨ a ∈ fp) → RO K ow' H' r rsh v fp) → Qv r (List.replicate pM.length none) → Q v H') := by
  obtain ⟨c, ds, Qv, Qx, rfl, rfl, rfl, h4, ⟨hdl, fT, fV, hX⟩, hs, hq, he⟩ := h
  refine ⟨owOf c fT fV, ds, Qv, Qx, fun hall => ?_⟩
  have svr := hX.vr.strict (by rw [List.length_map]; exact hdl)
  have hlen := svr.len
  rw [List.length_map, List.length_map] at hlen
  have key : ∀ (M : List Sh) (vs : List V) (ds : List D) (fp : List Addr), (∀ sh ∈ M, sh = .s) → RV c.K (owOf c fT fV) c.H0 M (vs.map some) (ds.map some) fp → RSs c.K (owOf c fT fV) c.H0 ds vs := fun M => by
    induction M with
    | nil =>
      rintro vs ds fp _ ⟨a, b, _⟩
      cases vs with
      | nil =>
        cases ds with
        | nil => exact .nil
        | cons _ _ => cases b
      | cons _ _ => cases a
    | cons sh M ih =>
      rintro vs ds fp hs ⟨x, σ', y, e', g1, g2, e1, e2, e3, h1, h3⟩
      cases vs with
      | nil => cases e1
      | cons v vs =>
        cases ds with
        | nil => cases e2
        | cons d ds =>
          rw [List.map_cons] at e1 e2
          cases e1
          cases e2
          have e := hs sh List.mem_cons_self
          subst e
          obtain ⟨u, eu, r⟩ := h1
          cases eu
          exact .cons (RO_s.mp r).2 (ih vs ds g2 (fun sh z => hs sh (List.mem_cons_of_mem _ z)) h3)
  refine ⟨key _ _ _ _ hall svr, hlen.2, hs, fun v r fp H' sm nd fr ro q => hq v r _ H' (by simp) ?_ q⟩
  have hfT : fT = [] := hX.tm
  subst hfT
  have hfV : fV = [] := RV.fpS hall svr
  subst hfV
  have X2 := hX.pushO sm nd fr (sh := rsh) (v := v) (d := r) (ro _ fun a z => by
    rcases z with z | z
    · right
      simpa using z
    · left
      exact .inr z)
  refine ⟨_, _, X2.tm, ?_, X2.nd, X2.fr, X2.kp, X2.tp, X2.al, X2.ok, X2.rt⟩
  have nn : ∀ (M : List Sh) (vs : List V), vs.length = M.length → (∀ sh ∈ M, sh = .s) → RV c.K (owOf c (fp ++ []) []) H' M (vs.map some) (List.replicate M.length none) [] := fun M => by
    induction M with
    | nil =>
      intro vs hl _
      cases vs with
      | nil => exact ⟨rfl, rfl, rfl⟩
      | cons _ _ => cases hl
    | cons sh M ih =>
      intro vs hl hs
      cases vs with
      | nil => cases hl
      | cons v vs => exact ⟨some v, vs.map some, none, _, [], [], rfl, rfl, rfl, rfl, ih vs (Nat.succ.inj hl) fun sh z => hs sh (List.mem_cons_of_mem _ z)⟩
  exact .of (nn c.M vs hlen.1 hall)
end VL
set_option Elab.async false
set_option linter.all false
set_option maxRecDepth 100000
set_option maxHeartbeats 2000000
namespace VL
open PySem PySem.Spec PyProof.Rows L2
/-- a promise whose first parameter is the caller's own -/
theorem spOf_io1 {K : PySem.W.Frag} {sh : Sh} {Ms : List Sh} {rsh : Sh} {sp : VSp} {vs : List V} {H : Hp} {Q : VK} {E : XK} (h : spOf K (sh :: Ms) rsh sp vs H Q E) (hs : ∀ s ∈ Ms, s = .s) (hns : isS sh = false) :
    ∃ (ow : Addr → Prop) (v0 : V) (ws : List V) (d0 : D) (ds : List D) (fp : List Addr) (Qv : D → Env → Prop) (Qx : Exn → Env → Prop), vs = v0 :: ws ∧ RO K ow H d0 sh v0 fp ∧ RSs K ow H ds ws ∧ fp.Nodup ∧ (∀ a ∈ fp, ow a) ∧ ds.length = Ms.length ∧ sp (d0 :: ds) Qv Qx ∧
      ∀ (v : V) (r d' : D) (fp' fpr : List Addr) (H' : Hp), (∀ b o, H b = some o → b ∉ fp → H' b = some o) → ExtT H H' → (∀ b, H b ≠ none → H' b ≠ none) → (fpr ++ fp').Nodup → (∀ a ∈ fpr ++ fp', a ∈ fp ∨ H a = none) → (∀ ow', (∀ a, ow' a → ow a ∨ H a = none) → RO K ow' H' d' sh v0 fp') → (∀ ow', (∀ a, ow' a → ow a ∨ H a = none) → RO K ow' H' r rsh v fpr) →
        Qv r (some d' :: List.replicate Ms.length none) → Q v H' := by
  obtain ⟨c, ds, Qv, Qx, rfl, hM, rfl, h4, ⟨hdl, fT, fV, hX⟩, hsp, hq, he⟩ := h
  have svr := hX.vr.strict (by rw [List.length_map, hM]; exact hdl)
  have hlen := svr.len
  rw [List.length_map, List.length_map, hM] at hlen
  have hfT : fT = [] := hX.tm
  subst hfT
  have vr := svr
  rw [hM] at vr
  obtain ⟨x, σ', y, e', f1, f2, e1, e2, e3, h1, h3⟩ := vr
  cases vs with
  | nil => cases e1
  | cons v0 ws =>
    cases ds with
    | nil => cases e2
    | cons d0 ds =>
      rw [List.map_cons] at e1 e2
      cases e1
      cases e2
      obtain ⟨u, eu, ro⟩ := h1
      cases eu
      have hf2 := RV.fpS hs h3
      subst hf2
      rw [List.append_nil] at e3
      subst e3
      have key : ∀ (M : List Sh) (vs : List V) (ds : List D) (fp : List Addr), (∀ sh ∈ M, sh = .s) → RV c.K (owOf c [] fV) c.H0 M (vs.map some) (ds.map some) fp → RSs c.K (owOf c [] fV) c.H0 ds vs := fun M => by
        induction M with
        | nil =>
          rintro vs ds fp _ ⟨a, b, _⟩
          cases vs with
          | nil =>
            cases ds with
            | nil => exact .nil
            | cons _ _ => cases b
          | cons _ _ => cases a
        | cons sh M ih =>
          rintro vs ds fp hs ⟨x, σ', y, e', g1, g2, e1, e2, e3, h1, h3⟩
          cases vs with
          | nil => cases e1
          | cons v vs =>
            cases ds with
            | nil => cases e2
            | cons d ds =>
              rw [List.map_cons] at e1 e2
              cases e1
              cases e2
              have e := hs sh List.mem_cons_self
              subst e
              obtain ⟨u, eu, r⟩ := h1
              cases eu
              exact .cons (RO_s.mp r).2 (ih vs ds g2 (fun sh z => hs sh (List.mem_cons_of_mem _ z)) h3)
      have nd := hX.nd
      rw [List.nil_append] at nd
      refine ⟨owOf c [] fV, v0, ws, d0, ds, fV, Qv, Qx, rfl, ro, key _ _ _ _ hs h3, nd, fun a z => .inl z, Nat.succ.inj hlen.2, hsp, fun v r d' fp' fpr H' hk hT hal nd' hf' ro' rr q => hq v r _ H' (by simp) ?_ q⟩
      have how : ∀ a, owOf c fpr fp' a → owOf c [] fV a ∨ c.H0 a = none := fun a z => by
        rcases z with z | z
        · rcases hf' a z with w | w
          · exact .inl (.inl w)
          · exact .inr w
        · exact .inl (.inr z)
      have nn : ∀ (M : List Sh) (vs : List V), vs.length = M.length → RV c.K (owOf c fpr fp') H' M (vs.map some) (List.replicate M.length none) [] := fun M => by
        induction M with
        | nil =>
          intro vs hl
          cases vs with
          | nil => exact ⟨rfl, rfl, rfl⟩
          | cons _ _ => cases hl
        | cons sh M ih =>
          intro vs hl
          cases vs with
          | nil => cases hl
          | cons v vs => exact ⟨some v, vs.map some, none, _, [], [], rfl, rfl, rfl, rfl, ih vs (Nat.succ.inj hl)⟩
      have vr' : RV c.K (owOf c fpr fp') H' (sh :: Ms) ((v0 :: ws).map some) (some d' :: List.replicate Ms.length none) fp' := ⟨some v0, ws.map some, some d', _, fp', [], rfl, rfl, by rw [List.append_nil], ⟨v0, rfl, ro' _ how⟩, nn Ms ws (Nat.succ.inj hlen.1)⟩
      have io0 : ∀ a ∈ fV, c.io a := fun a z => by
        rcases hX.fr a (by rw [List.nil_append]; exact z) with w | w
        · exact w
        · obtain ⟨o, u, _⟩ := hX.at a (by rw [List.nil_append]; exact z)
          rw [w] at u
          cases u
      refine ⟨fpr, fp', ⟨fpr, [], by rw [List.append_nil], rr _ how, rfl⟩, by rw [hM]; exact .of vr', nd', fun a z => ?_, fun b o z n => hk b o z fun y => n (io0 b y), hT, hal, hX.ok, hX.rt⟩
      rcases hf' a z with w | w
      · exact .inl (io0 a w)
      · exact .inr w
/-! ### the deal -/
def dealSh : Sh := .d fun k => if k = .inr "left" then .l .s else .s
def dealK : List Key := [.inr "seed", .inr "number", .inr "left"]
def dealV (s n : Int) (ns : List Int) : D := .dct dealK [.int s, .int n, .lst (ns.map D.int)]
def dealOk (s n : Int) (ns : List Int) : Prop := 0 ≤ s ∧ s < 2147483648 ∧ 0 ≤ n ∧ ∀ x ∈ ns, 0 < x
theorem rs_ints {K : PySem.W.Frag} {ow : Addr → Prop} {H : Hp} : ∀ ns : List Int, RSs K ow H (ns.map D.int) (ns.map V.int)
  | [] => .nil
  | _ :: ns => .cons rs_int (rs_ints ns)
theorem RO_deal {K : PySem.W.Frag} {ow : Addr → Prop} {H : Hp} {s n : Int} {ns : List Int} {v : V} {fp : List Addr} : RO K ow H (dealV s n ns) dealSh v fp ↔ ∃ d l, v = .ref d ∧ H d = some (.dK (Fb.dealD s n l)) ∧ H l = some (.lst (ns.map V.int)) ∧ fp = [d, l] := by
  have n1 : ¬ (Fb.kx "seed" = Fb.kx "left") := Fb.ne_sl
  have n2 : ¬ (Fb.kx "number" = Fb.kx "left") := Fb.ne_nl
  unfold dealV dealSh
  simp only [RO, dealK, List.map_cons, List.map_nil]
  rw [if_neg n1, if_neg n2, if_pos trivial]
  constructor
  · rintro ⟨a, vs, fps, rfl, q, hl, t, rfl⟩
    simp only [ROs] at t
    obtain ⟨s1, t1, v1, r1, f1, g1, a1, b1, c1, h1, s2, t2, v2, r2, f2, g2, a2, b2, c2, h2, s3, t3, v3, r3, f3, g3, a3, b3, c3, h3, a4, b4, c4⟩ := t
    cases a1
    cases a2
    cases a3
    subst b1 b2 b3 b4 c1 c2 c3 c4
    have h1 := RO_s.mp h1
    have h2 := RO_s.mp h2
    obtain ⟨z1, z2⟩ := h1
    obtain ⟨z3, z4⟩ := h2
    subst z1 z3
    have e1 := z2.b.int
    have e2 := z4.b.int
    subst e1 e2
    obtain ⟨l, a', ws, el, ea, ha, rs, ef⟩ := RO_l.mp h3
    cases el
    subst ea ef
    have ew := rs.ints
    subst ew
    exact ⟨a, a', rfl, q, ha, rfl⟩
  · rintro ⟨d, l, rfl, hd, hl, rfl⟩
    refine ⟨d, [.int s, .int n, .ref l], [l], rfl, hd, rfl, ?_, rfl⟩
    simp only [ROs]
    exact ⟨.s, _, _, _, [], [l], rfl, rfl, rfl, RO_s.mpr ⟨rfl, rs_int⟩, .s, _, _, _, [], [l], rfl, rfl, rfl, RO_s.mpr ⟨rfl, rs_int⟩, .l .s, _, _, _, [l], [], rfl, rfl, rfl, RO_l.mpr ⟨_, l, _, rfl, rfl, hl, rs_ints ns, rfl⟩, rfl, rfl, rfl⟩
def vpDraw : VSp := fun ds Q _ => ∃ s n ns many, ds = [dealV s n ns, .int many] ∧ dealOk s n ns ∧ 0 < many ∧ many < 4611686018427387904 ∧ ∀ r s' n' ns', 0 ≤ r → r < many → dealOk s' n' ns' → Q (.int r) [some (dealV s' n' ns'), none]
def vpDeal : VSp := fun ds Q _ => ∃ ns : List Int, ds = [.lst (ns.map D.int)] ∧ ns.length ≤ 63 ∧ ∀ s n ls, dealOk s n ls → Q (dealV s n ls) [none]
section
variable {P : Program} {w : World} {K : PySem.W.Frag} {mg : Str → Option Value} {base : Heap} {k : Nat}
theorem keep_frame {H H' : Hp} {d l : Addr} (k : Fb.Keep d l H H') : ∀ b o, H b = some o → b ∉ [d, l] → H' b = some o := fun b o e n => by
  simp only [List.mem_cons, List.not_mem_nil, or_false, not_or] at n
  exact k b o e n.1 n.2
theorem keep_ext {H H' : Hp} {d l : Addr} {s n : Int} {ns : List Int} (D : Fb.DealX H d l s n ns) (k : Fb.Keep d l H H') : ExtT H H' := fun b o e f => by
  refine k b o e (fun q => ?_) (fun q => ?_)
  · subst q
    rw [D.1] at e
    cases e
    exact f
  · subst q
    rw [D.2.1] at e
    cases e
    exact f
theorem keep_al {H H' : Hp} {d l : Addr} {s' n' : Int} {ns' : List Int} (D' : Fb.DealX H' d l s' n' ns') (k : Fb.Keep d l H H') : ∀ b, H b ≠ none → H' b ≠ none := fun b q => by
  by_cases e1 : b = d
  · rw [e1, D'.1]; simp
  · by_cases e2 : b = l
    · rw [e2, D'.2.1]; simp
    · cases z : H b with
      | none => exact absurd z q
      | some o => rw [k b o z e1 e2]; simp
theorem v_draw (h : C8.Cal P w K mg base k "_law_draw" Fb.spDraw []) : C8.Cal P w K mg base k "_law_draw" (spOf K [dealSh, .s] .s vpDraw) [] := cal_mono h fun vs H Q E h => by
  obtain ⟨ow, v0, ws, d0, ds, fp, Qv, Qx, rfl, ro, rs, nd, how, hl, ⟨s, n, ns, many, ed, ok, h0, h1, q⟩, kk⟩ := spOf_io1 h (by simp) rfl
  injection ed with e1 e2
  subst e1 e2
  have ew := rs.i1
  subst ew
  obtain ⟨d, l, rfl, hd, hll, rfl⟩ := RO_deal.mp ro
  refine ⟨d, l, many, rfl, ⟨s, n, ns, hd, hll, ok⟩, h0, h1, fun r H' r0 r1 D' K' => ?_⟩
  obtain ⟨s', n', ns', dx⟩ := D'
  refine kk (.int r) (.int r) (dealV s' n' ns') [d, l] [] H' (keep_frame K') (keep_ext ⟨hd, hll, ok⟩ K') (keep_al dx K') (by simpa using nd) (fun a z => .inl z) (fun ow' _ => RO_deal.mpr ⟨d, l, rfl, dx.1, dx.2.1, rfl⟩) (fun ow' _ => RO_s.mpr ⟨rfl, rs_int⟩) (q r s' n' ns' r0 r1 dx.2.2)
theorem v_deal (h : C8.Cal P w K mg base k "_law_deal" (Fb.spDeal K) []) : C8.Cal P w K mg base k "_law_deal" (spOf K [.s] dealSh vpDeal) [] := cal_mono h fun vs H Q E h => by
  obtain ⟨ow, ds, Qv, Qx, kk⟩ := spOf_S h
  obtain ⟨rs, hl, ⟨ns, rfl, hn, q⟩, k2⟩ := kk (by simp)
  simp only [RSs] at rs
  obtain ⟨v, r, rfl, rv, rfl⟩ := rs
  obtain ⟨a, ws, rfl, sq, rw⟩ := rv.b.lst
  have ew := rw.ints
  subst ew
  refine ⟨a, ns, rfl, sq.sq, hn, fun d l H' nd nl D' sm => ?_⟩
  obtain ⟨s', n', ns', dx⟩ := D'
  refine k2 (.ref d) (dealV s' n' ns') [d, l] H' sm ?_ (fun a z => ?_) (fun ow' _ => RO_deal.mpr ⟨d, l, rfl, dx.1, dx.2.1, rfl⟩) (q s' n' ns' dx.2.2)
  · simp [dx.ne]
  · simp only [List.mem_cons, List.not_mem_nil, or_false] at z
    rcases z with z | z <;> (rw [z]; assumption)
end
/-! a list that a def of the program tells of a program -/
open Fb in
theorem v_rows {P : Program} {w : World} {K : PySem.W.Frag} {mg : Str → Option Value} {base : Heap} {k : Nat} {x : Str} {okP : Blk → Prop} {g : Blk → List PyData} (hg : ∀ b, okP b → goodB b)
    (h : C8.Cal P w K mg base k x (fun vs H Q _ => ∃ (v : V) (b : Blk), vs = [v] ∧ Dp K H v (.tuple (dB b)) ∧ okP b ∧ ∀ l H', Rw K H' l (g b) → H l = none → Same H H' → Q (.ref l) H') []) :
    C8.Cal P w K mg base k x (spOf K [.s] (.l .s) fun ds Q _ => ∃ b, ds = [dD (.tuple (dB b))] ∧ okP b ∧ (noLs (g b) = true → Q (.lst (dDs (g b))) [none])) [] := cal_mono h fun vs H Q E h => by
  obtain ⟨ow, ds, Qv, Qx, kk⟩ := spOf_S h
  obtain ⟨rs, hl, ⟨b, rfl, ok, q⟩, k2⟩ := kk (by simp)
  simp only [RSs] at rs
  obtain ⟨v, r, rfl, rv, rfl⟩ := rs
  refine ⟨v, b, rfl, dp_rs rv (noL_blk (hg b ok)), ok, fun l H' rw' nl sm => ?_⟩
  obtain ⟨us, hu, du, nu⟩ := rw'
  exact k2 (.ref l) _ [l] H' sm (by simp) (fun a z => by rw [List.mem_singleton.mp z]; exact nl) (fun ow' _ => RO_l.mpr ⟨_, l, us, rfl, rfl, hu, rss_dp _ _ du nu, rfl⟩) (q nu)
end VL
set_option Elab.async false
set_option linter.all false
set_option maxRecDepth 100000
set_option maxHeartbeats 2000000
namespace VL
open PySem PySem.Spec PyProof.Rows L2
/-! ### promises with the things that several hold -/
def spA (K : PySem.W.Frag) (pM : List Sh) (rsh : Sh) (sp : VSp) : Sp := fun vs H Q E => ∃ (c : Vc) (ds : List D) (al : List Addr) (l : List D) (Qv : D → Env → Prop) (Qx : Exn → Env → Prop), c.K = K ∧ c.M = pM ∧ c.H0 = H ∧ c.rt = roots pM 0 vs ∧ (ds.length = pM.length ∧ R c [] (vs.map some) (ds.map some ++ [some (.mem al l)]) H) ∧ sp (ds ++ [.mem al l]) Qv Qx ∧
  (∀ v r ps H', R c [(rsh, v, r)] (vs.map some) ps H' → Qv r ps → Q v H') ∧ (∀ x d ps H', R c [] (vs.map some) ps H' → XAt H' x d → Qx x ps → E (.ref x.C) d H')
theorem spA.len {K : PySem.W.Frag} {pM : List Sh} {rsh : Sh} {sp : VSp} {vs : List V} {H : Hp} {Q : VK} {E : XK} (h : spA K pM rsh sp vs H Q E) : vs.length = pM.length := by
  obtain ⟨c, ds, al, l, Qv, Qx, h1, h2, h3, h4, ⟨_, h5⟩, _⟩ := h
  have z := h5.len.1
  rw [List.length_map, h2] at z
  exact z
def ioA (pM : List Sh) (n : Nat) (e : Env) : Env := ioP pM e ++ e.drop n
/-- a def by its body -/
theorem fn_runA {K : PySem.W.Frag} {pM M2 : List Sh} {rsh : Sh} {sp : VSp} {W : XW} {exV : (Exn → Env → Prop) → QX} {ts : TS} {f : VTS} {N : List Str} {vs : List V} {H : Hp} {Q : VK} {E : XK} (hN : N.length = (pM ++ M2).length)
    (hb : ∀ (H0 : Hp) (io av : Addr → Prop) (rt : List (Nat × V)), (∀ i, i ∉ ioIx pM 0 → ∀ p ∈ rt, p.1 ≠ i) → VS ⟨K, H0, io, av, pM ++ M2, rt⟩ W rsh ts f)
    (hx : ∀ (Qx : Exn → Env → Prop) (c : Vc) (T : List Tm) (x : Exn) (d : Option Addr) (σ : L2.St) (e : Env) (H' : Hp), c.M = pM ++ M2 → R c T σ e H' → XAt H' x d → exV Qx x e → (∀ ps, ps = ioA pM (pM ++ M2).length e → Qx x ps → E (.ref x.C) d H') → W (.ref x.C) d σ H')
    (hsp : ∀ (ds : List D) (al : List Addr) (l : List D) (Qv : D → Env → Prop) (Qx : Exn → Env → Prop), ds.length = pM.length → sp (ds ++ [.mem al l]) Qv Qx → f ⟨fun e => rsh = .s ∧ Qv .non (ioA pM (pM ++ M2).length e), fun r e => Qv r (ioA pM (pM ++ M2).length e), fun _ => False, fun _ => False, exV Qx⟩ (ds.map some ++ (nones M2 ++ [some (.mem al l)])))
    (h : spA K pM rsh sp vs H Q E) : ts { nx := fun _ H' => Q .non H', rt := Q } (L2.start N vs) H := by
  have hl := h.len
  obtain ⟨c, ds, al, l, Qv, Qx, rfl, rfl, rfl, h4, ⟨hdl, fT, fV, hX⟩, hs, hq, he⟩ := h
  have hr : ∀ i, i ∉ ioIx c.M 0 → ∀ p ∈ c.rt, p.1 ≠ i := fun i hi p hp z => hi (by
    rw [h4] at hp
    rw [← z]
    exact roots_ix _ _ _ p hp)
  have hst : L2.start N vs = vs.map some ++ List.replicate M2.length none := by
    unfold L2.start
    rw [hN, List.length_append, hl]
    congr 2
    omega
  have hfT : fT = [] := hX.tm
  subst hfT
  have hml : (ds.map some : Env).length = c.M.length := by rw [List.length_map]; exact hdl
  obtain ⟨e0, f0, ee, l0, ef, rv0, rm⟩ := hX.memAt (as := al) (l := l) (by rw [List.getElem?_append_right (by omega), hml, Nat.sub_self]; rfl)
  obtain ⟨ee, -⟩ := List.append_inj ee (by omega)
  subst ee ef
  have start' : R ⟨c.K, c.H0, c.io, c.av, c.M ++ M2, c.rt⟩ [] (vs.map some ++ List.replicate M2.length none) (ds.map some ++ (List.replicate M2.length none ++ [some (.mem al l)])) c.H0 := by
    refine ⟨[], f0 ++ al, rfl, ?_, hX.nd, hX.fr, hX.kp, hX.tp, hX.al, hX.ok, fun p hp => ?_⟩
    · have z := RV.app (RV.nones (K := c.K) (ow := owOf c [] (f0 ++ al)) (H := c.H0) M2) rv0
      rw [List.append_nil] at z
      exact ⟨_, [some (.mem al l)], f0, al, by rw [List.append_assoc], rfl, z, rfl, rm⟩
    · have z := hX.rt p hp
      rw [List.getElem?_append_left ((List.getElem?_eq_some_iff.mp z).1)]
      exact z
  have back : ∀ {T : List Tm} {σ : L2.St} {e : Env} {H' : Hp}, R ⟨c.K, c.H0, c.io, c.av, c.M ++ M2, c.rt⟩ T σ e H' → R c T (vs.map some) (ioA c.M (c.M ++ M2).length e) H' := by
    rintro T σ e H' ⟨gT, gV, Y⟩
    obtain ⟨e0, tl, g0, gt, ee, eg, rv, tt⟩ := Y.vr
    subst ee eg
    have le0 := rv.len
    obtain ⟨σ1, σ2, e1, e2, f1, f2, a, b, cc, h6, h7⟩ := RV.unapp rv
    subst a b cc
    have sub : ∀ x, x ∈ gT ++ (f1 ++ gt) → x ∈ gT ++ ((f1 ++ f2) ++ gt) := fun x z => by
      simp only [List.mem_append] at z ⊢
      rcases z with z | z | z <;> simp [z]
    have how : ∀ x, owOf c gT (f1 ++ gt) x → owOf ⟨c.K, c.H0, c.io, c.av, c.M ++ M2, c.rt⟩ gT ((f1 ++ f2) ++ gt) x ∨ H' x = none := fun x z => by
      rcases z with z | z
      · exact .inl (.inl (sub x z))
      · exact .inl (.inr z)
    have l1 := h6.len
    have ed : ((e1 ++ e2) ++ tl).drop (c.M ++ M2).length = tl := List.drop_left' le0.2
    unfold ioA
    rw [ed, List.append_assoc, ioP_app l1.2]
    refine ⟨gT, f1 ++ gt, Y.tm.fr (fun _ _ q _ => q) (ExtT.refl H') how (fun _ _ _ q => q), ⟨_, tl, f1, gt, rfl, rfl, ?_, tt.fr (fun _ _ q _ => q) (ExtT.refl H') how (fun _ _ _ q => q)⟩, ?_, fun x z => Y.fr x (sub x z), Y.kp, Y.tp, Y.al, Y.ok, fun p hp => ?_⟩
    · refine RV.io (n := 0) (h6.fr (fun _ _ q _ => q) (ExtT.refl H') how (fun _ _ _ q => q)) hl fun p hp => ?_
      have z := Y.rt p (by rw [h4]; exact hp)
      obtain ⟨j, a, b⟩ := roots_at _ _ _ p hp
      refine ⟨j, a, ?_⟩
      rw [Nat.zero_add] at a
      rw [a, List.getElem?_append_left (by
        rw [l1.1, ← hl]
        exact (List.getElem?_eq_some_iff.mp b).1)] at z
      exact z
    · have p1 : List.Perm (gT ++ ((f1 ++ f2) ++ gt)) (f2 ++ (gT ++ (f1 ++ gt))) := by
        rw [List.perm_iff_count]
        intro a
        simp only [List.count_append]
        omega
      exact (List.nodup_append.mp (p1.nodup Y.nd)).2.1
    · have hp' := hp
      rw [h4] at hp'
      obtain ⟨j, a, b⟩ := roots_at _ _ _ p hp'
      rw [Nat.zero_add] at a
      rw [a, List.getElem?_map, b]
      rfl
  rw [hst]
  have hsp' := hsp ds al l Qv Qx hdl hs
  rw [nones_eq] at hsp'
  refine hb c.H0 c.io c.av c.rt hr [] _ _ c.H0 _ _ start' hsp' ⟨fun σ e H' r q => ?_, fun v d σ e H' r q => hq v d _ H' (back r) q, fun _ _ _ _ q => q.elim, fun _ _ _ _ q => q.elim, fun x d σ e H' r y q => hx Qx _ _ x d σ e H' rfl r y q fun ps ep z => ?_⟩
  · obtain ⟨e1, q⟩ := q
    subst e1
    obtain ⟨gT, gV, Y⟩ := r
    exact hq .non .non _ H' (back ⟨gT, gV, Y.pushS rs_non⟩) q
  · subst ep
    exact he x d _ H' (back r) y z
theorem fn_runA0 {K : PySem.W.Frag} {pM M2 : List Sh} {rsh : Sh} {sp : VSp} {ts : TS} {f : VTS} {N : List Str} {vs : List V} {H : Hp} {Q : VK} {E : XK} (hN : N.length = (pM ++ M2).length)
    (hb : ∀ (H0 : Hp) (io av : Addr → Prop) (rt : List (Nat × V)), (∀ i, i ∉ ioIx pM 0 → ∀ p ∈ rt, p.1 ≠ i) → VS ⟨K, H0, io, av, pM ++ M2, rt⟩ W0 rsh ts f)
    (hsp : ∀ (ds : List D) (al : List Addr) (l : List D) (Qv : D → Env → Prop) (Qx : Exn → Env → Prop), ds.length = pM.length → sp (ds ++ [.mem al l]) Qv Qx → f ⟨fun e => rsh = .s ∧ Qv .non (ioA pM (pM ++ M2).length e), fun r e => Qv r (ioA pM (pM ++ M2).length e), fun _ => False, fun _ => False, fun _ _ => False⟩ (ds.map some ++ (nones M2 ++ [some (.mem al l)])))
    (h : spA K pM rsh sp vs H Q E) : ts { nx := fun _ H' => Q .non H', rt := Q } (L2.start N vs) H :=
  fn_runA (exV := fun _ _ _ => False) hN hb (fun _ _ _ _ _ _ _ _ _ _ _ z => z.elim) hsp h
/-! ### calls of such defs -/
def putA (n k : Nat) (as : List (Option Nat)) (ps e : Env) : Env := (giveE as ps (wipeIO as e)).set n (ps[k]?).join
section
variable {c : Vc} {T : List Tm} {σ : L2.St} {e : Env} {H1 : Hp}
theorem wipeIO_app {e1 : Env} {y : Option D} {M : List Sh} : ∀ {as : List (Option Nat)} {pM : List Sh}, e1.length = M.length → ShOk M as pM → ∃ e2, wipeIO as (e1 ++ [y]) = e2 ++ [y] ∧ e2.length = M.length
  | [], _, hl, _ => ⟨e1, rfl, hl⟩
  | none :: as, [], _, hs => by simp only [ShOk] at hs
  | some i :: as, [], _, hs => by simp only [ShOk] at hs
  | none :: as, sh :: pM, hl, ⟨_, hs⟩ => wipeIO_app (as := as) hl hs
  | some i :: as, sh :: pM, hl, ⟨hM, _, _, hs⟩ => by
    obtain ⟨e2, h1, h2⟩ := wipeIO_app (as := as) hl hs
    have hi : i < e2.length := by
      rw [h2]
      exact (List.getElem?_eq_some_iff.mp hM).1
    exact ⟨e2.set i none, by show (wipeIO as (e1 ++ [y])).set i none = _; rw [h1, List.set_append_left _ _ hi], by rw [List.length_set]; exact h2⟩
theorem giveE_set {n : Nat} {x : Option D} {M : List Sh} (hn : n = M.length) : ∀ {as : List (Option Nat)} {pM : List Sh} {ps e : Env}, ShOk M as pM → giveE as ps (e.set n x) = (giveE as ps e).set n x
  | [], _, ps, e, _ => by simp
  | none :: as, [], _, _, hs => by simp only [ShOk] at hs
  | some i :: as, [], _, _, hs => by simp only [ShOk] at hs
  | none :: as, sh :: pM, [], e, hs => rfl
  | some i :: as, sh :: pM, [], e, hs => rfl
  | none :: as, sh :: pM, y :: ps, e, ⟨_, hs⟩ => giveE_set hn (as := as) (ps := ps) hs
  | some i :: as, sh :: pM, none :: ps, e, ⟨_, _, _, hs⟩ => giveE_set hn (as := as) (ps := ps) hs
  | some i :: as, sh :: pM, some d :: ps, e, ⟨hM, _, _, hs⟩ => by
    have hi : i ≠ n := by
      have := (List.getElem?_eq_some_iff.mp hM).1
      omega
    simp only [giveE]
    rw [List.set_comm _ _ hi.symm]
    exact giveE_set hn (as := as) (ps := ps) hs
theorem giveE_app {tl : Env} {M : List Sh} : ∀ {as : List (Option Nat)} {pM : List Sh} {ps e : Env}, ShOk M as pM → ps.length = pM.length → giveE as (ps ++ tl) e = giveE as ps e
  | [], [], ps, e, _, hl => by simp
  | [], _ :: _, _, _, hs, _ => by simp only [ShOk] at hs
  | none :: as, [], _, _, hs, _ => by simp only [ShOk] at hs
  | some i :: as, [], _, _, hs, _ => by simp only [ShOk] at hs
  | _ :: as, sh :: pM, [], e, hs, hl => by cases hl
  | none :: as, sh :: pM, y :: ps, e, ⟨_, hs⟩, hl => giveE_app (as := as) (ps := ps) hs (Nat.succ.inj hl)
  | some i :: as, sh :: pM, none :: ps, e, ⟨_, _, _, hs⟩, hl => giveE_app (as := as) (ps := ps) hs (Nat.succ.inj hl)
  | some i :: as, sh :: pM, some d :: ps, e, ⟨hM, _, _, hs⟩, hl => giveE_app (as := as) (ps := ps) hs (Nat.succ.inj hl)
theorem spA_use {pM : List Sh} {rsh : Sh} {sp : VSp} {as : List (Option Nat)} {fT fV : List Addr} {vs : List V} {ds full : List D} {Q : VK} {E : XK} {al : List Addr} {l : List D} {Qv : QV} {Qx : QX} (X1 : RX c fT fV T σ e H1) (av : ArgV c.K (owOf c fT fV) H1 σ as vs ds) (hfl : fill as ds e = some full) (hs : ShOk c.M as pM)
    (hm : e[c.M.length]? = some (some (.mem al l))) (q : sp (full ++ [.mem al l]) (fun r ps => Qv r (putA c.M.length pM.length as ps e)) (fun x ps => Qx x (putA c.M.length pM.length as ps e)))
    (hn : ∀ v r e' H', R c ((rsh, v, r) :: T) σ e' H' → Qv r e' → Q v H') (hx : ∀ x d e' H', R c T σ e' H' → XAt H' x d → Qx x e' → E (.ref x.C) d H') : spA c.K pM rsh sp vs H1 Q E := by
  obtain ⟨L, gT, gV, X2, eqv, ar⟩ := takeAll X1 av hfl hs
  obtain ⟨fL, fT0, ef, tL, tT⟩ := X2.tm.unapp
  subst ef
  obtain ⟨e1, g1, ee, le1, -, -, -⟩ := X1.memAt hm
  subst ee
  obtain ⟨e2, ew, le2⟩ := wipeIO_app (y := some (.mem al l)) le1 hs
  rw [ew] at X2
  obtain ⟨e3, gV0, ee, le3, eg, rv0, rm0⟩ := X2.memAt (as := al) (l := l) (by rw [List.getElem?_append_right (by omega), le2, Nat.sub_self]; rfl)
  obtain ⟨ee, -⟩ := List.append_inj ee (by omega)
  subst ee eg
  have nd := X2.nd
  have p0 : List.Perm ((fL ++ fT0) ++ (gV0 ++ al)) ((fL ++ al) ++ (fT0 ++ gV0)) := by
    rw [List.perm_iff_count]
    intro a
    simp only [List.count_append]
    omega
  obtain ⟨ndL, ndR, ndX⟩ := List.nodup_append.mp (p0.nodup nd)
  have inX : ∀ a, a ∈ (fL ++ al) ++ (fT0 ++ gV0) ↔ a ∈ (fL ++ fT0) ++ (gV0 ++ al) := fun a => p0.mem_iff.symm
  have noav : ∀ a ∈ fL ++ al, ¬ c.av a := fun a z y => by
    rcases X2.fr a ((inX a).mp (List.mem_append_left _ z)) with w | w
    · exact (X2.ok a y).2 w
    · exact (X2.ok a y).1 w
  have ow1 : ∀ a, (a ∈ ([] : List Addr) ++ (fL ++ al) ∨ (a ∈ fT0 ++ gV0 ∨ c.av a)) → owOf c (fL ++ fT0) (gV0 ++ al) a := fun a z => by
    rcases z with z | z | z
    · exact .inl ((inX a).mp (List.mem_append_left _ z))
    · exact .inl ((inX a).mp (List.mem_append_right _ z))
    · exact .inr z
  have lfull := (ArgR.rv ar tL).len.2
  rw [List.length_map] at lfull
  have rv := (ArgR.rv ar tL).fr (H' := H1) (ow' := fun a => a ∈ ([] : List Addr) ++ (fL ++ al) ∨ (a ∈ fT0 ++ gV0 ∨ c.av a)) (fun _ _ q _ => q) (ExtT.refl H1) (fun a z => .inl (ow1 a z)) (fun _ _ _ q => q)
  have rm := rm0.fr (H' := H1) (ow' := fun a => a ∈ ([] : List Addr) ++ (fL ++ al) ∨ (a ∈ fT0 ++ gV0 ∨ c.av a)) (fun _ _ q _ => q) (ExtT.refl H1) (fun a z => .inl (ow1 a z)) (fun _ _ _ q => q)
  have main : ∀ (t : Tm) (ps : Env) (H' : Hp), R ⟨c.K, H1, fun a => a ∈ fL ++ al, fun a => a ∈ fT0 ++ gV0 ∨ c.av a, pM, roots pM 0 vs⟩ [t] (vs.map some) ps H' → R c (t :: T) σ (putA c.M.length pM.length as ps (e1 ++ [some (.mem al l)])) H' := by
    rintro t ps H' ⟨kT, kV, Y⟩
    obtain ⟨ps0, tl, k0, kt, ep, ek, rvp, tlp⟩ := Y.vr
    subst ep ek
    have lps : ps0.length = pM.length := rvp.len.2
    have tb := RV.back rvp
    obtain ⟨f1, f2, e2', r1, r2⟩ := Y.tm
    have r2 : f2 = [] := r2
    subst r2
    rw [List.append_nil] at e2'
    subst e2'
    have ow2 : ∀ a, owOf c (kT ++ (k0 ++ fT0)) (gV0 ++ kt) a → (a ∈ kT ++ (k0 ++ kt) ∨ (a ∈ fT0 ++ gV0 ∨ c.av a)) := fun a z => by
      rcases z with z | z
      · simp only [List.mem_append] at z ⊢
        rcases z with (z | z | z) | z | z <;> simp [z]
      · exact .inr (.inr z)
    have ow3 : ∀ a, owOf c (kT ++ (k0 ++ fT0)) (gV0 ++ kt) a → owOf c (fL ++ fT0) (gV0 ++ al) a ∨ H1 a = none := fun a z => by
      rcases ow2 a z with z | z | z
      · rcases Y.fr a z with y | y
        · exact .inl (.inl ((inX a).mp (List.mem_append_left _ y)))
        · exact .inr y
      · exact .inl (.inl ((inX a).mp (List.mem_append_right _ z)))
      · exact .inl (.inr z)
    have kp1 : ∀ b o, H1 b = some o → ¬ owOf c (fL ++ fT0) (gV0 ++ al) b → H' b = some o := fun b o z n => Y.kp b o z fun y => n (.inl ((inX b).mp (List.mem_append_left _ y)))
    have kp2 : ∀ b ∈ fT0 ++ gV0, ∀ o, H1 b = some o → H' b = some o := fun b z o w => Y.kp b o w fun y => ndX b y b z rfl
    have mem1 : RX c (kT ++ (k0 ++ fT0)) (gV0 ++ kt) (t :: (backL pM vs ps0 ++ T)) σ (e2 ++ tl) H' := by
      refine ⟨⟨kT, k0 ++ fT0, rfl, RO.fr (fun _ _ q _ => q) (ExtT.refl H') (fun a z => .inl (ow2 a z)) _ _ _ _ r1 (fun _ _ _ q => q), RT.app (tT.fr kp1 Y.tp ow3 (fun b z => kp2 b (List.mem_append_left _ z))) (tb.fr (fun _ _ q _ => q) (ExtT.refl H') (fun a z => .inl (ow2 a z)) (fun _ _ _ q => q))⟩, ⟨e2, tl, gV0, kt, rfl, rfl, rv0.fr kp1 Y.tp ow3 (fun b z => kp2 b (List.mem_append_right _ z)), tlp.fr (fun _ _ q _ => q) (ExtT.refl H') (fun a z => .inl (ow2 a z)) (fun _ _ _ q => q)⟩, ?_, fun a z => ?_, fun b o q n => ?_, X2.tp.trans Y.tp, fun b q => Y.al b (X2.al b q), X2.ok, X2.rt⟩
      · have nn : ((kT ++ (k0 ++ kt)) ++ (fT0 ++ gV0)).Nodup := List.nodup_append.mpr ⟨Y.nd, ndR, fun a z b y q => by
          subst q
          rcases Y.fr a z with w | w
          · exact ndX a w a y rfl
          · obtain ⟨o, u, _⟩ := X2.at a ((inX a).mp (List.mem_append_right _ y))
            have w : H1 a = none := w
            rw [w] at u
            cases u⟩
        have p1 : List.Perm ((kT ++ (k0 ++ kt)) ++ (fT0 ++ gV0)) ((kT ++ (k0 ++ fT0)) ++ (gV0 ++ kt)) := by
          rw [List.perm_iff_count]
          intro a
          simp only [List.count_append]
          omega
        exact p1.nodup nn
      · have z' : a ∈ kT ++ (k0 ++ kt) ∨ a ∈ fT0 ++ gV0 := by
          simp only [List.mem_append] at z ⊢
          rcases z with (z | z | z) | z | z <;> simp [z]
        rcases z' with z | z
        · rcases Y.fr a z with w | w
          · exact X2.fr a ((inX a).mp (List.mem_append_left _ w))
          · exact .inr (X2.new w).2
        · exact X2.fr a ((inX a).mp (List.mem_append_right _ z))
      · refine Y.kp b o (X2.kp b o q n) fun z => ?_
        rcases X2.fr b ((inX b).mp (List.mem_append_left _ z)) with y | y
        · exact n y
        · rw [y] at q
          cases q
    have fin : ∀ (x : Option D), Tail c.K (owOf c (kT ++ (k0 ++ fT0)) (gV0 ++ kt)) H' [x] kt → R c (t :: (backL pM vs ps0 ++ T)) σ (e2 ++ [x]) H' := fun x z => by
      obtain ⟨e4, tl4, g4, gt4, e5, e6, r4, t4⟩ := mem1.vr
      refine ⟨_, _, mem1.tm, ⟨e2, [x], gV0, kt, rfl, rfl, ?_, z⟩, mem1.nd, mem1.fr, mem1.kp, mem1.tp, mem1.al, mem1.ok, mem1.rt⟩
      exact rv0.fr kp1 Y.tp ow3 (fun b z => kp2 b (List.mem_append_right _ z))
    have hput : putA c.M.length pM.length as (ps0 ++ tl) (e1 ++ [some (.mem al l)]) = giveE as ps0 (e2 ++ [(tl[0]?).join]) := by
      unfold putA
      rw [ew, giveE_app hs lps, ← giveE_set rfl hs, List.set_append_right _ _ (by omega), le2, Nat.sub_self, List.getElem?_append_right (by omega), lps, Nat.sub_self]
      rfl
    rw [hput]
    refine giveAll (ps := ps0) (fin _ ?_) av hs lps
    rcases (tlp.fr (fun _ _ q _ => q) (ExtT.refl H') (fun a z => Or.inl (ow2 a z)) (fun _ _ _ q => q) : Tail c.K (owOf c (kT ++ (k0 ++ fT0)) (gV0 ++ kt)) H' tl kt).cs with ⟨rfl, rfl⟩ | ⟨rfl, rfl⟩ | ⟨as', l', rfl, rfl, r⟩
    · rfl
    · rfl
    · exact ⟨rfl, r⟩
  refine ⟨⟨c.K, H1, fun a => a ∈ fL ++ al, fun a => a ∈ fT0 ++ gV0 ∨ c.av a, pM, roots pM 0 vs⟩, full, al, l, fun r ps => Qv r (putA c.M.length pM.length as ps (e1 ++ [some (.mem al l)])), fun x ps => Qx x (putA c.M.length pM.length as ps (e1 ++ [some (.mem al l)])), rfl, rfl, rfl, rfl, ⟨lfull, [], fL ++ al, rfl, ⟨_, _, fL, al, rfl, rfl, rv, rfl, rm⟩, ndL, fun a z => .inl z, fun b o q _ => q, ExtT.refl H1, fun b q => q, fun a z => ?_, fun p hp => ?_⟩, q, fun v r ps H' Y q => hn v r _ H' (main _ ps H' Y) q, fun x d ps H' Y hX q => ?_⟩
  · rcases z with z | z
    · refine ⟨?_, fun y => ndX a y a z rfl⟩
      obtain ⟨o, w, _⟩ := X2.at a ((inX a).mp (List.mem_append_right _ z))
      show H1 a ≠ none
      rw [w]
      simp
    · exact ⟨X2.avn z, fun y => noav a y z⟩
  · obtain ⟨j, a, b⟩ := roots_at _ _ _ p hp
    rw [Nat.zero_add] at a
    rw [a, List.getElem?_map, b]
    rfl
  · obtain ⟨kT, kV, Y⟩ := Y
    exact hx x d _ H' (main (.s, .non, .non) ps H' ⟨kT, kV, Y.pushS rs_non⟩).pop hX q
variable {W : XW} {tA : TA} {fA : VTA} {as : List (Option Nat)}
def vCallA (n k : Nat) (as : List (Option Nat)) (sp : VSp) (fA : VTA) : VT := fun e Q Qx => fA e (fun ds e1 => ∃ full al l, fill as ds e1 = some full ∧ e1[n]? = some (some (.mem al l)) ∧ sp (full ++ [.mem al l]) (fun r ps => Q r (putA n k as ps e1)) fun _ _ => False) Qx
def vCallAX (n k : Nat) (as : List (Option Nat)) (sp : VSp) (fA : VTA) : VT := fun e Q Qx => fA e (fun ds e1 => ∃ full al l, fill as ds e1 = some full ∧ e1[n]? = some (some (.mem al l)) ∧ sp (full ++ [.mem al l]) (fun r ps => Q r (putA n k as ps e1)) fun x ps => Qx x (putA n k as ps e1)) Qx
theorem v_callA {pM : List Sh} {rsh : Sh} {sp : VSp} {E : XK} (hA : VAx c W tA as fA) (hs : ShOk c.M as pM) : VE c W .e (tCall (spA c.K pM rsh sp) [] E tA) rsh (vCallA c.M.length pM.length as sp fA) := fun T σ e H Q Qv Qx hR hf hn hx => by
  refine hA T σ e H _ _ Qx hR hf (fun fT fV vs ds e1 H1 X1 av ⟨full, al, l, hfl, hm, q⟩ => ?_) hx
  rw [List.append_nil]
  exact spA_use (Qx := fun _ _ => False) X1 av hfl hs hm q (fun v r e' H' r1 q1 => hn v r e' H' r1 Post.e q1) (fun x d e' H' _ _ z => z.elim)
theorem v_callAX {pM : List Sh} {rsh : Sh} {sp : VSp} (hA : VAx c W tA as fA) (hs : ShOk c.M as pM) : VE c W .e (tCallS (spA c.K pM rsh sp) (fun σ x d H => W x d σ H) tA) rsh (vCallAX c.M.length pM.length as sp fA) := fun T σ e H Q Qv Qx hR hf hn hx => by
  refine hA T σ e H _ _ Qx hR hf (fun fT fV vs ds e1 H1 X1 av ⟨full, al, l, hfl, hm, q⟩ => ?_) hx
  exact spA_use X1 av hfl hs hm q (fun v r e' H' r1 q1 => hn v r e' H' r1 Post.e q1) (fun x d e' H' r1 y z => hx x d e' H' r1 y z)
end
end VL
set_option Elab.async false
set_option linter.all false
set_option maxRecDepth 100000
set_option maxHeartbeats 2000000
namespace VL
open PySem PySem.Spec PyProof.Rows L2
/-! ### cells read, changed, made -/
def getF {α : Type} : List Str → List α → Str → Option α
  | g :: fs, d :: l, f => if g = f then some d else getF fs l f
  | _, _, _ => none
def putN : List Str → Str → List Str
  | [], f => [f]
  | g :: fs, f => if g = f then g :: fs else g :: putN fs f
def putV {α : Type} : List Str → List α → Str → α → List α
  | g :: fs, d :: l, f, x => if g = f then x :: l else d :: putV fs l f x
  | _, _, _, x => [x]
theorem lookup_zip {f : Str} : ∀ {fs : List Str} {vs : List V}, (fs.zip vs).lookup f = getF fs vs f
  | [], vs => by simp [getF]
  | g :: fs, [] => by simp [getF]
  | g :: fs, v :: vs => by
    rw [List.zip_cons_cons, List.lookup, getF, lookup_zip]
    by_cases e : g = f
    · subst e
      simp
    · have : (f == g) = false := by simp; exact fun z => e z.symm
      rw [this, if_neg e]
theorem putF_zip {f : Str} {y : V} : ∀ {fs : List Str} {vs : List V}, fs.length = vs.length → putF f y (fs.zip vs) = (putN fs f).zip (putV fs vs f y)
  | [], [], _ => rfl
  | g :: fs, v :: vs, h => by
    rw [List.zip_cons_cons, putF, putN, putV]
    by_cases e : g = f
    · rw [if_pos e, if_pos e, if_pos e, List.zip_cons_cons]
    · rw [if_neg e, if_neg e, if_neg e, List.zip_cons_cons, putF_zip (Nat.succ.inj h)]
  | [], _ :: _, h => by cases h
  | _ :: _, [], h => by cases h
theorem putN_len {f : Str} {y : V} : ∀ {fs : List Str} {vs : List V}, fs.length = vs.length → (putN fs f).length = (putV fs vs f y).length
  | [], [], _ => rfl
  | g :: fs, v :: vs, h => by
    rw [putN, putV]
    by_cases e : g = f
    · rw [if_pos e, if_pos e]; exact h
    · rw [if_neg e, if_neg e, List.length_cons, List.length_cons, putN_len (Nat.succ.inj h)]
  | [], _ :: _, h => by cases h
  | _ :: _, [], h => by cases h
section
variable {K : PySem.W.Frag} {ow : Addr → Prop} {H : Hp}
theorem RSs.getF {f : Str} : ∀ {fs : List Str} {l : List D} {vs : List V} {d : D}, RSs K ow H l vs → VL.getF fs l f = some d → ∃ v, VL.getF fs vs f = some v ∧ RS K ow H d v
  | [], _, _, _, _, e => by simp [VL.getF] at e
  | g :: fs, [], _, _, _, e => by simp [VL.getF] at e
  | g :: fs, x :: l, _, d, h, e => by
    simp only [RSs] at h
    obtain ⟨v, r, rfl, h1, h2⟩ := h
    simp only [VL.getF] at e ⊢
    by_cases q : g = f
    · rw [if_pos q] at e ⊢
      cases e
      exact ⟨v, rfl, h1⟩
    · rw [if_neg q] at e ⊢
      exact RSs.getF h2 e
theorem RSs.putV {f : Str} {y : V} {dy : D} (ry : RS K ow H dy y) : ∀ {fs : List Str} {l : List D} {vs : List V}, RSs K ow H l vs → RSs K ow H (VL.putV fs l f dy) (VL.putV fs vs f y)
  | [], _, _, _ => by simp only [VL.putV]; exact .cons ry .nil
  | g :: fs, [], _, h => by
    simp only [RSs] at h
    subst h
    simp only [VL.putV]; exact .cons ry .nil
  | g :: fs, x :: l, _, h => by
    simp only [RSs] at h
    obtain ⟨v, r, rfl, h1, h2⟩ := h
    simp only [VL.putV]
    by_cases q : g = f
    · rw [if_pos q, if_pos q]
      exact .cons ry h2
    · rw [if_neg q, if_neg q]
      exact .cons h1 (RSs.putV ry h2)
/-- a cell, as it stands in the heap -/
theorem RO.cell {d : D} {a : Addr} (h : RO K ow H d (cellSh d) (.ref a) [a]) : (∃ l vs, d = .lst l ∧ H a = some (.lst vs) ∧ RSs K ow H l vs) ∨ (∃ ks l vs, d = .dct ks l ∧ H a = some (.dK (ks.zip vs)) ∧ ks.length = vs.length ∧ RSs K ow H l vs) ∨ ∃ C fs l dx vs, d = .obj C fs l ∧ H a = some (.ins C dx (fs.zip vs)) ∧ fs.length = vs.length ∧ RSs K ow H l vs := by
  have sm : ∀ {ds : List D} {shs : List Sh} {vs : List V} {fp : List Addr}, (∀ s ∈ shs, s = .s) → ROs K ow H ds shs vs fp → RSs K ow H ds vs := fun {ds} => by
    induction ds with
    | nil =>
      intro shs vs fp _ h
      simp only [ROs] at h
      rw [h.2.1]
      exact .nil
    | cons d ds ih =>
      intro shs vs fp hs h
      simp only [ROs] at h
      obtain ⟨sh, shs', v, vs', f1, f2, e1, e2, e3, h1, h2⟩ := h
      subst e1 e2
      have z := hs sh List.mem_cons_self
      subst z
      exact .cons (RO_s.mp h1).2 (ih (fun s z => hs s (List.mem_cons_of_mem _ z)) h2)
  cases d with
  | lst l =>
    simp only [cellSh, RO] at h
    obtain ⟨a', vs, fps, e, q, t, _⟩ := h
    cases e
    exact .inl ⟨l, vs, rfl, q, sm (fun s z => by obtain ⟨_, _, e⟩ := List.mem_map.mp z; exact e.symm) t⟩
  | dct ks l =>
    simp only [cellSh, RO] at h
    obtain ⟨a', vs, fps, e, q, n, t, _⟩ := h
    cases e
    exact .inr (.inl ⟨ks, l, vs, rfl, q, n, sm (fun s z => by obtain ⟨_, _, e⟩ := List.mem_map.mp z; exact e.symm) t⟩)
  | obj C fs l =>
    simp only [cellSh, RO] at h
    obtain ⟨a', dx, vs, fps, e, q, n, t, _⟩ := h
    cases e
    exact .inr (.inr ⟨C, fs, l, dx, vs, rfl, q, n, sm (fun s z => by obtain ⟨_, _, e⟩ := List.mem_map.mp z; exact e.symm) t⟩)
  | _ => simp [cellSh, RO] at h
theorem ROs.ofS {l : List D} {vs : List V} {shs : List Sh} (hs : ∀ s ∈ shs, s = .s) (hl : shs.length = l.length) (h : RSs K ow H l vs) : ROs K ow H l shs vs [] := by
  induction l generalizing shs vs with
  | nil =>
    cases shs with
    | nil =>
      simp only [RSs] at h
      simp only [ROs]
      exact ⟨trivial, h, trivial⟩
    | cons _ _ => cases hl
  | cons d l ih =>
    cases shs with
    | nil => cases hl
    | cons s shs =>
      simp only [RSs] at h
      obtain ⟨v, r, rfl, h1, h2⟩ := h
      have z := hs s List.mem_cons_self
      subst z
      simp only [ROs]
      exact ⟨.s, shs, v, r, [], [], rfl, rfl, rfl, RO_s.mpr ⟨rfl, h1⟩, ih (fun s z => hs s (List.mem_cons_of_mem _ z)) (Nat.succ.inj hl) h2⟩
theorem RO.lcell {l : List D} {vs : List V} {a : Addr} (q : H a = some (.lst vs)) (h : RSs K ow H l vs) : RO K ow H (.lst l) (cellSh (.lst l)) (.ref a) [a] := by
  simp only [cellSh, RO]
  exact ⟨a, vs, [], rfl, q, ROs.ofS (fun s z => by obtain ⟨_, _, e⟩ := List.mem_map.mp z; exact e.symm) (by simp) h, rfl⟩
theorem RO.dcell {ks : List Key} {l : List D} {vs : List V} {a : Addr} (q : H a = some (.dK (ks.zip vs))) (n : ks.length = vs.length) (h : RSs K ow H l vs) : RO K ow H (.dct ks l) (cellSh (.dct ks l)) (.ref a) [a] := by
  simp only [cellSh, RO]
  exact ⟨a, vs, [], rfl, q, n, ROs.ofS (fun s z => by obtain ⟨_, _, e⟩ := List.mem_map.mp z; exact e.symm) (by rw [List.length_map, n, h.len]) h, rfl⟩
theorem RO.ocell {C : Addr} {fs : List Str} {l : List D} {dx : Addr} {vs : List V} {a : Addr} (q : H a = some (.ins C dx (fs.zip vs))) (n : fs.length = vs.length) (h : RSs K ow H l vs) : RO K ow H (.obj C fs l) (cellSh (.obj C fs l)) (.ref a) [a] := by
  simp only [cellSh, RO]
  exact ⟨a, dx, vs, [], rfl, q, n, ROs.ofS (fun s z => by obtain ⟨_, _, e⟩ := List.mem_map.mp z; exact e.symm) (by rw [List.length_map, n, h.len]) h, rfl⟩
theorem RO.cellB {d : D} {a : Addr} (h : RO K ow H d (cellSh d) (.ref a) [a]) : RB K ow H d (.ref a) := by
  rcases h.cell with ⟨l, vs, rfl, q, r⟩ | ⟨ks, l, vs, rfl, q, n, r⟩ | ⟨C, fs, l, dx, vs, rfl, q, n, r⟩
  · exact ⟨a, vs, rfl, .inl (.inl q), r⟩
  · exact ⟨a, vs, rfl, .inl q, n, r⟩
  · exact ⟨a, dx, vs, rfl, q, n, r⟩
end
/-! the cells at the data's side -/
abbrev Cell (n : Nat) (e : Env) (a : Addr) (d : D) : Prop := ∃ al l, e[n]? = some (some (.mem al l)) ∧ cellAt al l a = some d
def setC (n : Nat) (e : Env) (a : Addr) (d : D) : Env :=
  match e[n]? with
  | some (some (.mem al l)) => e.set n (some (.mem al (cellSet al l a d)))
  | _ => e
def newC (n : Nat) (e : Env) (a : Addr) (d : D) : Env :=
  match e[n]? with
  | some (some (.mem al l)) => e.set n (some (.mem (a :: al) (d :: l)))
  | _ => e
def noC (n : Nat) (e : Env) (a : Addr) : Prop :=
  match e[n]? with
  | some (some (.mem al _)) => a ∉ al
  | _ => False
section
variable {c : Vc} {W : XW} {m : Md} {te ta tv : TE} {fe fa fv : VT} {fT fV : List Addr} {T : List Tm} {σ : L2.St} {e : Env} {H H' : Hp}
theorem RX.cellB {a : Addr} {d : D} (h : RX c fT fV T σ e H) (hc : Cell c.M.length e a d) : RB c.K (owOf c fT fV) H d (.ref a) ∧ owOf c fT fV a ∧ RO c.K (owOf c fT fV) H d (cellSh d) (.ref a) [a] := by
  obtain ⟨al, l, hm, ha⟩ := hc
  obtain ⟨z, r⟩ := h.cell hm ha
  exact ⟨r.cellB, .inl z, r⟩
theorem RX.setC {a : Addr} {d d' : D} (h : RX c fT fV T σ e H) (hc : Cell c.M.length e a d) (hk : ∀ b o, H b = some o → b ≠ a → H' b = some o) (hT : ExtT H H') (hal : ∀ b, H b ≠ none → H' b ≠ none)
    (hro : ∀ ow', (∀ a, ow' a → owOf c fT fV a ∨ H a = none) → RO c.K ow' H' d' (cellSh d') (.ref a) [a]) : ∃ fV', RX c fT fV' T σ (VL.setC c.M.length e a d') H' := by
  obtain ⟨al, l, hm, ha⟩ := hc
  unfold VL.setC
  rw [hm]
  exact h.setCell hm ha hk hT hal hro
/-- one's own thing on top becomes a cell -/
theorem R.cellN {sh : Sh} {v : V} {d : D} (h : R c ((sh, v, d) :: T) σ e H) (hs : sh = cellSh d) (ns : isS sh = false) (hm : ∃ al l, e[c.M.length]? = some (some (.mem al l))) : ∃ a, v = .ref a ∧ noC c.M.length e a ∧ R c ((.s, .ref a, .ref a) :: T) σ (newC c.M.length e a d) H := by
  obtain ⟨fT, fV, h⟩ := h
  obtain ⟨al, l, hm⟩ := hm
  obtain ⟨f1, f2, e1, h1, h2⟩ := h.tm
  have h1 : RO c.K (owOf c fT fV) H d sh v f1 := h1
  subst e1 hs
  have ⟨a, ev, ef⟩ : ∃ a, v = .ref a ∧ f1 = [a] := by
    have key : ∀ {ds : List D} {shs : List Sh} {vs : List V} {fp : List Addr}, (∀ s ∈ shs, s = .s) → ROs c.K (owOf c (f1 ++ f2) fV) H ds shs vs fp → fp = [] := fun {ds} => by
      induction ds with
      | nil =>
        intro shs vs fp _ h
        simp only [ROs] at h
        exact h.2.2
      | cons d ds ih =>
        intro shs vs fp hs h
        simp only [ROs] at h
        obtain ⟨sh, shs', v, vs', g1, g2, e1, e2, e3, h1, h2⟩ := h
        subst e1 e2 e3
        have z := hs sh List.mem_cons_self
        subst z
        rw [(RO_s.mp h1).1, ih (fun s z => hs s (List.mem_cons_of_mem _ z)) h2]
        rfl
    cases d with
    | lst l =>
      simp only [cellSh, RO] at h1
      obtain ⟨a', vs, fps, e, q, t, ef⟩ := h1
      rw [key (fun s z => by obtain ⟨_, _, e⟩ := List.mem_map.mp z; exact e.symm) t] at ef
      exact ⟨a', e, ef⟩
    | dct ks l =>
      simp only [cellSh, RO] at h1
      obtain ⟨a', vs, fps, e, q, n, t, ef⟩ := h1
      rw [key (fun s z => by obtain ⟨_, _, e⟩ := List.mem_map.mp z; exact e.symm) t] at ef
      exact ⟨a', e, ef⟩
    | obj C fs l =>
      simp only [cellSh, RO] at h1
      obtain ⟨a', dx, vs, fps, e, q, n, t, ef⟩ := h1
      rw [key (fun s z => by obtain ⟨_, _, e⟩ := List.mem_map.mp z; exact e.symm) t] at ef
      exact ⟨a', e, ef⟩
    | _ => simp [cellSh, isS] at ns
  subst ev ef
  obtain ⟨e0, f0, ee, le0, ef, rv, rm⟩ := h.memAt hm
  subst ee ef
  have hna : a ∉ al := fun z => by
    have n := h.nd
    rw [List.cons_append, List.cons_append] at n
    exact (List.nodup_cons.mp n).1 (by simp [z])
  have eN : newC c.M.length (e0 ++ [some (.mem al l)]) a d = e0 ++ [some (.mem (a :: al) (d :: l))] := by
    unfold newC
    rw [hm]
    show (e0 ++ [some (D.mem al l)]).set c.M.length _ = _
    rw [List.set_append_right _ _ (by omega), le0, Nat.sub_self]
    rfl
  refine ⟨a, rfl, by unfold noC; rw [hm]; exact hna, ?_⟩
  rw [eN]
  have p0 : List.Perm ([a] ++ f2 ++ (f0 ++ al)) (f2 ++ (f0 ++ a :: al)) := by
    rw [List.perm_iff_count]
    intro b
    simp only [List.count_append, List.count_cons, List.count_nil]
    omega
  have how : ∀ b, owOf c f2 (f0 ++ a :: al) b → owOf c ([a] ++ f2) (f0 ++ al) b ∨ H b = none := fun b z => by
    rcases z with z | z
    · exact .inl (.inl (p0.mem_iff.mpr z))
    · exact .inl (.inr z)
  exact ⟨f2, f0 ++ a :: al, ⟨[], f2, rfl, RO_s.mpr ⟨rfl, by simp only [RS]⟩, h2.fr (fun _ _ q _ => q) (ExtT.refl H) how (fun _ _ _ q => q)⟩, ⟨e0, _, f0, a :: al, rfl, rfl, rv.fr (fun _ _ q _ => q) (ExtT.refl H) how (fun _ _ _ q => q), rfl, RO.fr (fun _ _ q _ => q) (ExtT.refl H) how _ _ _ _ h1 (fun _ _ _ q => q), rm.fr (fun _ _ q _ => q) (ExtT.refl H) how (fun _ _ _ q => q)⟩, p0.nodup h.nd, fun b z => h.fr b (p0.mem_iff.mpr z), h.kp, h.tp, h.al, h.ok, h.rt⟩
def vCell (n : Nat) (fe : VT) : VT := fun e Q Qx => fe e (fun d e1 => (∃ al l, e1[n]? = some (some (.mem al l))) ∧ ∀ a, noC n e1 a → Q (.ref a) (newC n e1 a d)) Qx
theorem v_cellL (h : VE c W .e te (.l .s) fe) : VE c W .e te .s (vCell c.M.length fe) := fun T σ e H Q Qv Qx hR hf hn hx =>
  h T σ e H _ _ Qx hR hf (fun v d e1 H1 R1 _ ⟨hm, q⟩ => by
    have hd : ∃ l, d = .lst l := by
      obtain ⟨fT, fV, X⟩ := R1
      obtain ⟨f1, f2, e1, h1, h2⟩ := X.tm
      have h1 : RO _ _ _ d (.l .s) v f1 := h1
      exact h1.bl.2
    obtain ⟨l, rfl⟩ := hd
    obtain ⟨a, rfl, hno, R2⟩ := R1.cellN rfl rfl hm
    exact hn _ _ _ _ R2 Post.e (q a hno)) hx
theorem v_cellD (h : VE c W .e te (.d fun _ => .s) fe) : VE c W .e te .s (vCell c.M.length fe) := fun T σ e H Q Qv Qx hR hf hn hx =>
  h T σ e H _ _ Qx hR hf (fun v d e1 H1 R1 _ ⟨hm, q⟩ => by
    have hd : ∃ ks l, d = .dct ks l := by
      obtain ⟨fT, fV, X⟩ := R1
      obtain ⟨f1, f2, e1, h1, h2⟩ := X.tm
      have h1 : RO _ _ _ d (.d fun _ => .s) v f1 := h1
      cases d <;> first | exact ⟨_, _, rfl⟩ | (simp only [RO] at h1)
    obtain ⟨ks, l, rfl⟩ := hd
    obtain ⟨a, rfl, hno, R2⟩ := R1.cellN rfl rfl hm
    exact hn _ _ _ _ R2 Post.e (q a hno)) hx
/-! reading -/
def vDr (n : Nat) (fe : VT) : VT := fun e Q Qx => fe e (fun x e1 => ∃ a d, x = .ref a ∧ Cell n e1 a d ∧ Q d e1) Qx
theorem b_cell (h : VQ c te fe) : VB c te (vDr c.M.length fe) := fun fT fV T σ e H Q Qv Qx hR hf hn =>
  h fT fV T σ e H _ _ Qx hR hf fun v d r ⟨a, d', ed, hc, q⟩ => by
    subst ed
    have z : v = .ref a := by simpa only [RS] using r
    subst z
    exact hn _ _ (hR.cellB hc).1 q
def vFld (C : Addr) (f : Str) (fe : VT) : VT := fun e Q Qx => fe e (fun x e1 => ∃ fs l d, x = .obj C fs l ∧ getF fs l f = some d ∧ Q d e1) Qx
theorem q_fld {C : Addr} {f : Str} (hC : Cls c.K C) (hN : NoAttr c.K C f) (h : VB c te fe) : VQ c (tFld c.K te f) (vFld C f fe) := fun fT fV T σ e H Q Qv Qx hR hf hn =>
  h fT fV T σ e H _ _ Qx hR hf fun v x r ⟨fs, l, d, ex, hg, q⟩ => by
    subst ex
    obtain ⟨a, dx, vs, rfl, ha, n, rs⟩ := r
    obtain ⟨w, hw, rw⟩ := rs.getF hg
    exact ⟨a, C, dx, _, w, rfl, ha, hC, hN, by rw [lookup_zip]; exact hw, hn _ _ rw q⟩
/-! changing -/
theorem frC {a : Addr} {o o' : HO} (ha : H a = some o) (nf : ¬ Fx o) : ExtT H (L2.upd H a o') := ExtT.upd fun u q => by rw [ha] at q; cases q; exact nf
def vAppC (n : Nat) (fe fv : VT) : VT := fun e Q Qx => fe e (fun x e1 => ∃ a, x = .ref a ∧ (∃ l, Cell n e1 a (.lst l)) ∧ fv e1 (fun y e2 => ∃ l, Cell n e2 a (.lst l) ∧ l.length < sizeLine ∧ Q .non (setC n e2 a (.lst (l ++ [y])))) Qx) Qx
theorem RX.setL {a : Addr} {l l' : List D} {vs vs' : List V} (h : RX c fT fV T σ e H) (hc : Cell c.M.length e a (.lst l)) (ha : H a = some (.lst vs)) (hr : ∀ ow', (∀ a, ow' a → owOf c fT fV a ∨ H a = none) → RSs c.K ow' (L2.upd H a (.lst vs')) l' vs') : ∃ fV', RX c fT fV' T σ (VL.setC c.M.length e a (.lst l')) (L2.upd H a (.lst vs')) :=
  h.setC hc (fun b o q z => by rw [upd_ne z]; exact q) (frC ha id) al_upd fun ow' how => RO.lcell upd_same (hr ow' how)
theorem RX.cellL {a : Addr} {l : List D} (h : RX c fT fV T σ e H) (hc : Cell c.M.length e a (.lst l)) : ∃ vs, H a = some (.lst vs) ∧ RSs c.K (owOf c fT fV) H l vs := by
  obtain ⟨_, _, r⟩ := h.cellB hc
  rcases r.cell with ⟨l', vs, e, q, rs⟩ | ⟨ks, l', vs, e, _⟩ | ⟨C, fs, l', dx, vs, e, _⟩
  · cases e
    exact ⟨vs, q, rs⟩
  · cases e
  · cases e
theorem RX.frL {a : Addr} {o o' : HO} (ha : H a = some o) (nf : ¬ Fx o) (oa : owOf c fT fV a) : Fr (owOf c fT fV) H (L2.upd H a o') := ⟨fun b u q n => by
  rw [upd_ne (fun z => n (by rw [z]; exact oa))]
  exact q, frC ha nf⟩
theorem v_appC (he : VQ c te fe) (hv : VE c W .e tv .s fv) : VE c W .e (tBM c.K "list" rAppend te (tCons tv tNil)) .s (vAppC c.M.length fe fv) := fun T σ e H Q Qv Qx ⟨fT, fV, hX⟩ hf hn hx =>
  he fT fV T σ e H _ _ Qx hX hf fun v d r ⟨a, ed, ⟨l0, hc0⟩, q⟩ => by
    subst ed
    have z : v = .ref a := by simpa only [RS] using r
    subst z
    obtain ⟨vs0, ha0, _⟩ := hX.cellL hc0
    refine ⟨tyV_l ha0, hv T σ e H _ _ Qx ⟨fT, fV, hX⟩ q (fun y dy e1 H1 R1 _ ⟨l, hc, hz, q⟩ => ?_) hx⟩
    obtain ⟨fT1, fV1, X1⟩ := R1
    obtain ⟨ry, X1⟩ := X1.topS
    obtain ⟨vs, ha, rs⟩ := X1.cellL hc
    have F := RX.frL (o' := .lst (vs ++ [y])) ha id (X1.cellB hc).2.1
    obtain ⟨fV2, X2⟩ := X1.setL hc ha (l' := l ++ [dy]) (vs' := vs ++ [y]) fun ow' how => RSs.app (.cons (RS.fr F how _ _ ry) .nil) (RSs.fr F how _ _ rs)
    exact ⟨a, vs, y, rfl, rfl, ha, by rw [rs.len]; exact hz, hn _ _ _ _ ⟨fT1, fV2, X2.pushS rs_non⟩ Post.e q⟩
/-- the last one taken off -/
def vPopC (n : Nat) (fe : VT) : VT := fun e Q Qx => fe e (fun x e1 => ∃ a l y, x = .ref a ∧ Cell n e1 a (.lst (l ++ [y])) ∧ Q y (setC n e1 a (.lst l))) Qx
theorem RSs.unapp1 {K : PySem.W.Frag} {ow : Addr → Prop} {H : Hp} {y : D} : ∀ {l : List D} {vs : List V}, RSs K ow H (l ++ [y]) vs → ∃ ws w, vs = ws ++ [w] ∧ RSs K ow H l ws ∧ RS K ow H y w
  | [], _, h => by
    simp only [List.nil_append, RSs] at h
    obtain ⟨v, r, rfl, h1, rfl⟩ := h
    exact ⟨[], v, rfl, .nil, h1⟩
  | x :: l, _, h => by
    rw [List.cons_append, RSs] at h
    obtain ⟨v, r, rfl, h1, h2⟩ := h
    obtain ⟨ws, w, rfl, h3, h4⟩ := RSs.unapp1 h2
    exact ⟨v :: ws, w, rfl, .cons h1 h3, h4⟩
theorem v_popC (he : VQ c te fe) : VE c W .e (tBM0 c.K "list" rPop te) .s (vPopC c.M.length fe) := fun T σ e H Q Qv Qx ⟨fT, fV, hX⟩ hf hn hx =>
  he fT fV T σ e H _ _ Qx hX hf fun v d r ⟨a, l, y, ed, hc, q⟩ => by
    subst ed
    have z : v = .ref a := by simpa only [RS] using r
    subst z
    obtain ⟨vs, ha, rs⟩ := hX.cellL hc
    obtain ⟨ws, w, rfl, r1, r2⟩ := rs.unapp1
    have F := RX.frL (o' := .lst ws) ha id (hX.cellB hc).2.1
    have hX2 := hX.pushS r2
    obtain ⟨fV2, X2⟩ := hX2.setL hc ha (l' := l) (vs' := ws) fun ow' how => RSs.fr F how _ _ r1
    exact ⟨tyV_l ha, a, ws ++ [w], w, rfl, rfl, ha, by simp, by rw [List.dropLast_concat]; exact hn _ _ _ _ ⟨fT, fV2, X2⟩ Post.e q⟩
/-- x.f = y -/
def vSetF (n : Nat) (C : Addr) (f : Str) (fe fv : VT) : VTS := fun D e => fv e (fun y e1 => fe e1 (fun x e2 => ∃ a fs l, x = .ref a ∧ Cell n e2 a (.obj C fs l) ∧ fs.length < 1000 ∧ D.nx (setC n e2 a (.obj C (putN fs f) (putV fs l f y)))) D.ex) D.ex
theorem vs_setF {rsh : Sh} {C : Addr} {f : Str} (hC : Cls c.K C) (hN : NoAttr c.K C f) (he : VQ c te fe) (hv : VE c W .e tv .s fv) : VS c W rsh (sFld c.K te tv f) (vSetF c.M.length C f fe fv) := fun T σ e H D Dv hR hf L =>
  hv T σ e H _ _ Dv.ex hR hf (fun y dy e1 H1 ⟨fT, fV, hX⟩ _ q => by
    obtain ⟨ry, hX⟩ := hX.topS
    refine he fT fV T σ e1 H1 _ _ Dv.ex hX q fun v d r ⟨a, fs, l, ed, hc, hlt, q⟩ => ?_
    subst ed
    have z : v = .ref a := by simpa only [RS] using r
    subst z
    rcases (hX.cellB hc).2.2.cell with ⟨l', vs, e', _⟩ | ⟨ks, l', vs, e', _⟩ | ⟨C', fs', l', dx, vs, e', ha, n, rs⟩
    · cases e'
    · cases e'
    cases e'
    have F := RX.frL (o' := .ins C dx (putF f y (fs.zip vs))) ha id (hX.cellB hc).2.1
    obtain ⟨fV2, X2⟩ := hX.setC (H' := L2.upd H1 a (.ins C dx (putF f y (fs.zip vs)))) (d' := .obj C (putN fs f) (putV fs l f dy)) hc (fun b o q z => by rw [upd_ne z]; exact q) (frC ha id) al_upd fun ow' how => RO.ocell (dx := dx) (vs := putV fs vs f y) (by rw [upd_same, putF_zip n]) (putN_len n) (RSs.putV (RS.fr F how _ _ ry) (RSs.fr F how _ _ rs))
    exact ⟨a, C, dx, _, rfl, ha, hC, hN, by rw [List.length_zip]; omega, L.nx σ _ _ ⟨fT, fV2, X2⟩ q⟩) (fun x d e' H' r y q => L.ex x d σ e' H' r y q)
end
end VL
set_option Elab.async false
set_option linter.all false
set_option maxRecDepth 100000
set_option maxHeartbeats 2000000
namespace Fb
open PySem PySem.Spec PyProof.Rows L2 L2H HotX
/-! ### an exception that is handled: asked and read in the suite, and in defs that the suite calls -/
/-- p is the exception that X handles; its class, its dict -/
structure Held (X : Cx) (p : Addr × Obj) (cls : Value) (d : Option Addr) : Prop where
  mem : p ∈ X.pn
  hd : X.A.handled = some (.ref p.1)
  zn : L2N.Zn cls d p.2
  fl : ∃ vs, p.2.data = .fields vs
theorem Held.hot {X : Cx} {p : Addr × Obj} {cls : Value} {d : Option Addr} (h : Held X p cls d) : Hot1 X.A p := by
  obtain ⟨vs, e⟩ := h.fl
  exact ⟨h.hd, vs, e, h.zn.2.2 vs e⟩
theorem Held.hotC {X : Cx} {p : Addr × Obj} {cls : Value} {d : Option Addr} (h : Held X p cls d) : HotC X := ⟨p, h.hot, h.mem⟩
theorem held_suite {X : Cx} {a : Addr} {oe : Obj} {cls : Value} {d : Option Addr} {pn : List (Addr × Obj)} (z : L2N.Zn cls d oe) (f : ∃ vs, oe.data = .fields vs) : Held (X.suite a ((a, oe) :: pn)) (a, oe) cls d := ⟨List.mem_cons_self, rfl, z, f⟩
/-- its dict, if it has one, stands in H -/
def DictAt (d : Option Addr) (H : Hp) : Prop := d = none ∨ ∃ (dd : Addr) (fs : List (Str × V)), d = some dd ∧ H dd = some (.xd fs)
theorem Held.inst {X : Cx} {p : Addr × Obj} {C : Addr} {d : Option Addr} {pins : List (Addr × Obj)} {σ : L2.St} {H : Hp} {s : Shared} (h : Held X p (.ref C) d) (I : Inv X pins σ H s) (hd : DictAt d H) : ∃ od, PySem.W.InstAt s.heap p.1 p.2 C od := by
  have g := (I.pin p (List.mem_append_left _ h.mem)).1
  obtain ⟨vs, e⟩ := h.fl
  have nc : PySem.W.notCls p.2 = true := by unfold PySem.W.notCls; rw [e] <;> rfl
  rcases hd with rfl | ⟨dd, fs, rfl, ed⟩
  · exact ⟨none, g, h.zn.1, nc, by rw [h.zn.2.1]; trivial⟩
  · have x : ObjOk X.prog X.w H s.heap dd (.xd fs) := I.hok dd _ ed
    obtain ⟨mA, hns, _⟩ := x
    obtain ⟨od, ho, _⟩ := lookIn_ns hns
    exact ⟨some od, g, h.zn.1, nc, by rw [h.zn.2.1]; exact ho⟩
/-- isinstance(e, c) -/
def rIsX (K : PySem.W.Frag) (a : Addr) (cls : Value) (d : Option Addr) : List V → Hp → VK → Prop := fun xs H Q => ∃ (D : Addr) (c : V) (u : Value) (b : Bool), xs = [.ref a, c] ∧ cls = .ref D ∧ ExcC K D ∧ ClsV c u ∧ PySem.W.kitOne K (.ref D) u = some b ∧ DictAt d H ∧ Q (.bl b) H
theorem call_isX {X : Cx} {a : Addr} {oe : Obj} {cls : Value} {d : Option Addr} (K : PySem.W.Frag) (hK : X.K = K) (h : Held X (a, oe) cls d) : CallR X (.builtin "isinstance") (rIsX K a cls d) := by
  subst hK
  intro pins s σ H xs us Q I r hh
  obtain ⟨D, c, u, b, rfl, rfl, C, cv, e, hd, q⟩ := hh
  obtain ⟨u1, u2, rfl, r1, r2⟩ := vals2 r
  obtain rfl : u1 = Value.ref a := r1
  obtain rfl := cv.eq r2
  obtain ⟨od, J⟩ := h.inst I hd
  obtain ⟨cd, hc, _⟩ := PySem.W.any_some C.hd
  exact PySem.W.kia_one (PySem.W.kitx_exc (by rw [hc]; rfl) C.hg C.hk C.hs C.ha C.hn C.ht C.hm) I.kIn J e (fun z => nomatch z) fun tk => ⟨.bl b, H, I.kept (t' := tk) fun _ _ z => z, rfl, q⟩
/-- e.f -/
def tXfX (K : PySem.W.Frag) (a : Addr) (cls : Value) (d : Option Addr) (f : Str) (te : TE) : TE := fun σ H Q => te σ H fun x H1 => x = .ref a ∧ ∃ (C dd : Addr) (fs : List (Str × V)) (v : V), cls = .ref C ∧ XfC K C ∧ PySem.W.findIn K (.ref C) f = some none ∧ d = some dd ∧ H1 dd = some (.xd fs) ∧ fs.lookup f = some v ∧ Q v H1
theorem pe_xfX {X : Cx} {a : Addr} {oe : Obj} {cls : Value} {d : Option Addr} {e : Expr} {te : TE} {pos : Pos} {n : Str} (K : PySem.W.Frag) (hK : X.K = K) (h : Held X (a, oe) cls d) (he : PE X e te) (hb : attributeBase e n X.env (eval e X.env) = eval e X.env := by rfl) : PE X (.Attribute e n pos) (tXfX K a cls d n te) := by
  subst hK
  refine ⟨fun pins s σ H Q I hw => ?_⟩
  refine attr_of hb (thn (he.run pins s σ H _ I hw) fun u s1 hh => ?_)
  obtain ⟨x, H1, I1, rx, rfl, C, dd, fs, v, rfl, T, hno, rfl, ed, l, q⟩ := hh
  obtain rfl : u = Value.ref a := rx
  obtain ⟨vs, ev⟩ := h.fl
  have x : ObjOk X.prog X.w H1 s1.heap dd (.xd fs) := I1.hok dd _ ed
  obtain ⟨mA, hns, hr⟩ := x
  obtain ⟨od, ho, hl⟩ := lookIn_ns hns
  obtain ⟨u, hu, ru⟩ := RelO.some_of (v := v) (o := mA n) (by rw [← l]; exact hr n)
  have J : PySem.W.InstAt s1.heap a oe C (some od) := ⟨(I1.pin (a, oe) (List.mem_append_left _ h.mem)).1, h.zn.1, by unfold PySem.W.notCls; rw [show oe.data = _ from ev] <;> rfl, by rw [show oe.dict = _ from h.zn.2.1]; exact ho⟩
  exact HandSPX.exc_get I1.kIn J T.ga T.gg T.exC (PySem.W.findObj_own T.hdC hno rfl (by rw [hl, hu])) (handed_of ru) ⟨v, H1, I1.tok _, ru, q⟩

/-! ### a def that is called in the suite, and knows of the exception -/
structure FnE (P : Program) (w : World) (K : PySem.W.Frag) (mg : Str → Option Value) (base : Heap) (k : Nat) (f : Addr) (fd : FuncData) (ps : List Str) (sp : Addr → Value → Option Addr → Sp) : Prop where
  len : ∀ a c d vs H Q E, sp a c d vs H Q E → vs.length = ps.length
  run : ∀ (A : Around) (outer : List Env) (s : Shared) (H : Hp) (args : Args) (us : List Value) (vs : List V) (Q : VK) (E : XK) (p : Addr × Obj) (c : Value) (d : Option Addr), A.handled = some (.ref p.1) → L2N.Zn c d p.2 → (∃ fv, p.2.data = .fields fv) → RoomH k A → PinOk outer H s p →
    Env0 P w K mg base A outer s H → BindsTo s fd args (ps.zip us) → Vals vs us → sp p.1 c d vs H Q E → codeAny (model P w) A (.call (.ref f) args) (CR CX0 outer P w H s Q E) s
section
variable {P : Program} {w : World} {K : PySem.W.Frag} {mg : Str → Option Value} {base : Heap}
theorem ok_E {x qual : Str} {st : Stmt} {f : Addr} {fd : FuncData} {N ps : List Str} {k : Nat} {sp : Addr → Value → Option Addr → Sp} (F : L2.Fun K x qual st f fd) (S : FnScope N ps (defScope st)) (len : ∀ a c d vs H Q E, sp a c d vs H Q E → vs.length = ps.length)
    (walk : ∀ (cdv : Value) (A : Around) (outer : List Env) (s : Shared) (H : Hp) (vs : List V) (Q : VK) (E : XK) (p : Addr × Obj) (c : Value) (d : Option Addr), RoomH k (A.deeper (envOfC qual (defScope st) s.heap.objs.size f cdv)) →
      Held (cxH CX0 P w K mg base N qual (defScope st) f cdv A outer s H E p).nox p c d → sp p.1 c d vs H Q E →
      ∃ t, PSs (cxH CX0 P w K mg base N qual (defScope st) f cdv A outer s H E p).nox (defBody st) t ∧ t { nx := fun _ H' => Q .non H', rt := Q } (start N vs) H) : FnE P w K mg base (k + 1) f fd ps sp := by
  obtain ⟨oc, od, kV, dc, pm, an, cdv, ct, osl, rfl, lk, hcd⟩ := F.ex
  refine ⟨len, fun A outer s H args us vs Q E p c d hh zn fl hr pin e0 hb r hs0 => ?_⟩
  have hl := len _ _ _ _ _ _ _ hs0
  have kIn : K.In s.heap := e0.mod.kin.keeps fun b o e => (e0.bs b o e).1
  have nolim : s.heap.NoLimit := e0.mod.nolimit.keeps fun b o e => (e0.bs b o e).1
  have kinds : ∀ y ∈ ps.zip us, (defScope st).names.lookup y.1 = some .local ∨ ((defScope st).names.lookup y.1 = some .cell ∧ ((cellsFrom (s.heap.objs.size + 1) (defScope st).names []).lookup y.1).isSome = true) := fun ⟨n, v⟩ hy => by
    rcases S.par n (List.of_mem_zip hy).1 with z | z
    · exact .inl z
    · exact .inr ⟨z, PySem.W.cellsFrom_some _ _ _ (.inl z)⟩
  refine codeAny_call_function hr.depth (kIn _ _ lk) rfl S.co S.gen rfl (PySem.W.codeRec_of kIn hcd) (hb _ _ _ _ ?_)
  refine wpAny_newFunctionEnv_cells S.kind kinds fun env he s1 y => ?_
  subst he
  refine ⟨nolim.keeps y.toInCall.keep, codeAny_func ?_⟩
  obtain ⟨t, ht, hq⟩ := walk cdv A outer s H vs Q E p c d (hr.deeper _) ⟨List.mem_cons_self, hh, zn, fl⟩ hs0
  have I0 : Inv (cxH CX0 P w K mg base N qual (defScope st) f cdv A outer s H E p) [] (start N vs) H s1 := inv_startH S pin e0 hl r y
  refine wpAny_mono (ht.nox.run [] s1 (start N vs) H _ I0 hq) (fun fl s' z => ?_) fun e s' z => z
  have out : ∀ {σ' : L2.St} {H' : Hp} {v : V} {u : Value}, Inv (cxH CX0 P w K mg base N qual (defScope st) f cdv A outer s H E p) [] σ' H' s' → RelV v u → Q v H' → CE outer P w H s Q u s' := fun {σ' H' v u} J rv q => ⟨v, H', J.os, J.bare, J.base, J.hok, rv, q⟩
  cases fl with
  | ret u =>
    obtain ⟨v, σ', H', J, rv, q⟩ := z
    exact out J rv q
  | next =>
    obtain ⟨σ', H', J, q⟩ := z
    exact out (v := V.non) (u := Value.none) J rfl q
  | brk =>
    obtain ⟨_, _, _, q⟩ := z
    exact q.elim
  | cont =>
    obtain ⟨_, _, _, q⟩ := z
    exact q.elim
end
/-- such a def under its name -/
structure CalE (P : Program) (w : World) (K : PySem.W.Frag) (mg : Str → Option Value) (base : Heap) (k : Nat) (x : Str) (sp : Addr → Value → Option Addr → Sp) : Prop where
  ex : ∃ (f : Addr) (fd : FuncData) (ps : List Str), FnE P w K mg base k f fd ps sp ∧ mg x = some (.ref f) ∧ PySem.W.keepIn K (.ref f) = true ∧ Binds K fd ps []
section
variable {X : Cx} {k j : Nat} {x : Str} {sp : Addr → Value → Option Addr → Sp} {p pos : Pos} {e : Expr} {es : List Expr} {t : TA} {a : Addr} {oe : Obj} {cls : Value} {d : Option Addr}
theorem pe_cE (c : CalE X.prog X.w X.K X.mg X.base k x sp) (h : Held X (a, oe) cls d) (hr : RoomH j X.A) (hk : k ≤ j) (hg : Gl X x) (ha : PA X (e :: es) t) (hdb : (x == ("__debug__" : Str)) = false := by decide)
    (he : starEach (e :: es) X.env = (false, eval e X.env) :: starEach es X.env := by rfl) (hpl : (backTo pos (starEach es X.env)).any (·.1) = false := by rfl) : PE X (.Call (.Name x p) (e :: es) [] pos) (tCall (sp a cls d) [] E0 t) := by
  obtain ⟨f, fd, ps, F, hm, kp, b⟩ := c.ex
  refine ⟨fun pins s σ H Q I hw => ?_⟩
  refine wpAny_Call_Name_kw (ld_glob I hg hm ?_ hdb)
  refine PySem.W.callWith_K (h₀ := X.base) I.ok.mod.kin kp (thn (ha.run pos pins s σ H _ I hw) fun us s1 ⟨vs, H1, I1, r, q⟩ => ⟨I1.kIn, ?_⟩) he hpl
  have q2 : sp a cls d vs H1 Q E0 := by have z : sp a cls d (vs ++ []) H1 Q E0 := q; rw [List.append_nil] at z; exact z
  have hl : us.length = ps.length := by rw [← r.length]; exact F.len _ _ _ _ _ _ _ q2
  have P1 := I1.pin (a, oe) (List.mem_append_left _ h.mem)
  have pin : PinOk X.stack H1 s1 (a, oe) := ⟨P1.1, P1.2.1, fun z => (List.mem_cons.mp (I1.stkSub a z)).elim P1.2.2.1 P1.2.2.2.1, P1.2.2.2.2⟩
  refine wpAny_call (codeAny_mono (F.run X.A X.stack s1 H1 ⟨us, []⟩ us vs Q E0 (a, oe) cls d h.hd h.zn h.fl (hr.mono hk) pin I1.env0 (by have z := b s1 us I1.kIn (by rw [List.append_nil]; exact hl); rw [List.append_nil] at z; exact z) r q2) fun r' s' hq => ?_)
  cases r' with
  | error e => exact hq.elim
  | ok fl =>
    cases fl with
    | ret u => exact I1.after hq
    | next => exact hq.elim
    | brk => exact hq.elim
    | cont => exact hq.elim
end
end Fb
namespace Fb
open PySem L2
theorem kit_own {K : PySem.W.Frag} {C : Addr} : PySem.W.kitOne K (.ref C) (.ref C) = some true := by
  unfold PySem.W.kitOne
  exact if_pos (beq_self_eq_true _)
theorem kit_not {K : PySem.W.Frag} {a b : Addr} {r : Bool} (ne : (Value.ref a == Value.ref b) = false) (h1 : PySem.W.isClsIn K b = true) (h2 : PySem.W.typeIn K (.ref b) = some (.type "type")) (h3 : PySem.W.subIn K (.ref a) (.ref b) = some r) : PySem.W.kitOne K (.ref a) (.ref b) = some r := by
  have h1' : (PySem.W.clsIn K b).isSome = true := h1
  unfold PySem.W.kitOne PySem.W.kitCls
  rw [ne, if_neg Bool.false_ne_true]
  dsimp only
  rw [h1', h2, if_pos (by rfl)]
  exact h3
theorem kit_ty {K : PySem.W.Frag} {a : Addr} {T : String} {r : Bool} (hm : PySem.W.kitMeta T = true) (h : PySem.W.subIn K (.ref a) (.type T) = some r) : PySem.W.kitOne K (.ref a) (.type T) = some r := by
  unfold PySem.W.kitOne PySem.W.kitCls
  rw [if_neg (show ¬ (Value.ref a == Value.type T) = true from fun z => by cases beq_iff_eq.mp z)]
  dsimp only
  rw [if_pos hm]
  exact h
theorem eqDK {X : Cx} (K : PySem.W.Frag) (hK : X.K = K) (hu : X.A.units + 64 < cLine) : OpR X (compareOp .Eq) (rEqD K) := hK ▸ op_eqD hu
theorem neDK {X : Cx} (K : PySem.W.Frag) (hK : X.K = K) (hu : X.A.units + 64 < cLine) : OpR X (compareOp .NotEq) (rNeD K) := hK ▸ op_neD hu
theorem roomS {k : Nat} {A : Around} (r : Room k A) {v : Option Value} : L2H.RoomH k (A.mark v) := ⟨r.dp, r.un⟩
end Fb
namespace Fb
open PySem L2
/-- what is looked at of a class object, so that it is an exception class over ValueError with an __init__ of its own -/
def oexOk (C : Addr) (cd : ClassData) (sl : Array (Option Value)) : Bool :=
  match cd.mro, sl.toList with
  | .ref c :: bm, [_, _, _, _, some (.builtin n), _] => decide (c = C) && (decide (n = "ValueError.__new__") && (!cd.hasDel && (cd.hasDict && PySem.HandSPX.refsVE bm)))
  | _, _ => false
theorem oex_of {K : PySem.W.Frag} {C : Addr} {dd : Option Addr} {cd : ClassData} {sl : Array (Option Value)} (hl : K.lookup C = some ⟨.type "type", dd, .cls cd, sl⟩) (h : oexOk C cd sl = true)
    (sa : PySem.W.findIn K (.ref C) "__setattr__" = some (some (.builtin "object.__setattr__"))) (ex : PySem.W.subIn K (.ref C) (.type "BaseException") = some true) (ty : PySem.W.typeIn K (.ref C) = some (.type "type")) (kp : PySem.W.keepIn K (.ref C) = true) : OexC K C := by
  refine ⟨?_, sa, ex, ty, kp⟩
  obtain ⟨nm, bs, mro, ns, qn, hd, sn, sub, ab, col, del⟩ := cd
  obtain ⟨l⟩ := sl
  unfold oexOk at h
  dsimp only at h
  split at h
  · rename_i c bm s0 s1 s2 s3 n s5
    obtain ⟨h1, h⟩ := Bool.and_eq_true_iff.mp h
    obtain ⟨h2, h⟩ := Bool.and_eq_true_iff.mp h
    obtain ⟨h3, h⟩ := Bool.and_eq_true_iff.mp h
    obtain ⟨h4, h5⟩ := Bool.and_eq_true_iff.mp h
    have h1 := of_decide_eq_true h1
    have h2 := of_decide_eq_true h2
    have h3 : del = false := by simpa using h3
    subst h1 h2 h3 h4
    exact ⟨_, _, _, _, _, _, _, _, _, _, _, _, _, _, _, hl, h5⟩
  · cases h
end Fb
set_option Elab.async false
set_option linter.all false
set_option maxRecDepth 100000
set_option maxHeartbeats 2000000
namespace Fb
open PySem PySem.Spec PyProof.Rows L2 L2H HotX
/-! ### exceptions made where nothing is handled: their context is None -/
section
variable {X : Cx} {x : Str} {e : Expr} {es : List Expr} {ta : TA} {p pos : Pos} {C fI : Addr}
/-- C(e, ..), its own __init__ keeping sp -/
theorem pmk_oexN {k j : Nat} {fd : FuncData} {ps : List Str} {sp : Sp} (T : OexC X.K C) (iC : PySem.W.findIn X.K (.ref C) "__init__" = some (some (.ref fI))) (tI : PySem.W.typeIn X.K (.ref fI) = some (.type "function"))
    (F1 : FnOk X.prog X.w X.K X.mg X.base CX0 k fI fd ps sp) (hr : Room j X.A) (hk : k + 1 ≤ j) (hb : Binds X.K fd ps []) (hg : Gl X x) (hm : X.mg x = some (.ref C)) (ha : PA X (e :: es) ta) (hdb : (x == ("__debug__" : Str)) = false := by decide)
    (he : starEach (e :: es) X.env = (false, eval e X.env) :: starEach es X.env := by rfl) (hpl : (backTo pos (starEach es X.env)).any (·.1) = false := by rfl) : L2N.PMk X (.Call (.Name x p) (e :: es) [] pos) (tMkO C sp [] ta) := by
  intro pins s σ H Q I hw
  obtain ⟨nm, qn, N, bs, bm, sn, sub, ab, col, dd, k0, k1, k2, k3, k5, lkC, vb⟩ := T.cls
  refine wpAny_Call_Name_kw (ld_glob I hg hm ?_ hdb)
  refine PySem.W.callWith_K (h₀ := X.base) I.ok.mod.kin T.kC (thn (ha.run pos pins s σ H _ I hw) fun us s1 z => ?_) he hpl
  obtain ⟨vs, H1, I1, r1, few, q1⟩ := z
  refine ⟨I1.kIn, (show wpAny _ _ (call (.ref C) us) _ _ _ from ?_)⟩
  obtain ⟨hp, gn, dr, tk, os⟩ := s1
  have above : hp.objs.size ≤ hp.objs.size + 1 := Nat.le_succ _
  have q2 := q1 (hp.objs.size + 1) (I1.hok.fresh above)
  rw [List.append_nil] at q2
  have stays : ∀ b o, hp.get? b = some o → ((hp.push (PySem.W.kdv_tup us)).push (PySem.HandSPX.excO C hp.objs.size)).get? b = some o := fun b o z => Heap.get?_push_of_some _ (Heap.get?_push_of_some _ z)
  have there : ((hp.push (PySem.W.kdv_tup us)).push (PySem.HandSPX.excO C hp.objs.size)).get? (hp.objs.size + 1) = some (PySem.HandSPX.excO C hp.objs.size) := by heap_get
  have J : Inv X pins σ (upd H1 (hp.objs.size + 1) (exo (hp.objs.size + 1) C none)) ⟨(hp.push (PySem.W.kdv_tup us)).push (PySem.HandSPX.excO C hp.objs.size), gn, dr, tk, os⟩ := I1.laid (t' := tk) stays above (exo_ok there)
  have r2 : Vals (V.ref (hp.objs.size + 1) :: vs) (Value.ref (hp.objs.size + 1) :: us) := .cons rfl r1
  have hl : (Value.ref (hp.objs.size + 1) :: us).length = ps.length := by rw [← r2.length, F1.len _ _ _ _ q2]
  have hus : us.length ≤ sizeLine := by rw [← Paired.length r1, sizeLine_eq]; omega
  have bd := hb _ (Value.ref (hp.objs.size + 1) :: us) J.kIn (by rw [List.append_nil]; exact hl)
  rw [List.append_nil] at bd
  refine wpAny_call (PySem.HandSPX.call_own F.excBase_ValueError (fun Y => PySem.HandSPX.refsVE_contains Y bm vb) (I1.kIn _ _ lkC) (PySem.W.looks_findIn I1.kIn iC) (fun self => PySem.W.bind_fn I1.kIn self tI) hus
    (codeAny_mono (F1.run _ X.stack _ _ ⟨Value.ref (hp.objs.size + 1) :: us, []⟩ (Value.ref (hp.objs.size + 1) :: us) _ _ (fun _ _ _ => False) ((hr.mono hk).make C us []) (J.env0.make C us []) bd r2 q2) fun r s' z => ?_))
  cases r with
  | error er => exact z.elim
  | ok fl =>
    cases fl with
    | next => exact z.elim
    | brk => exact z.elim
    | cont => exact z.elim
    | ret u =>
      obtain ⟨v, H2, os2, bare2, un2, hok2, rv, ev, d, fs, ea, ed, hd1, q3⟩ := z
      subst ev
      obtain ⟨h2, g2, d2, t2, os'⟩ := s'
      obtain ⟨t0, G, JG, kG, ge, hoe, na⟩ := mk_end0 (d2 := d2) (t2 := t2) I1 above stays un2 hok2 os2 bare2 ea ed hd1
      exact ⟨rv, hp.objs.size + 1, _, _, ⟨G, g2, d2, t2, os'⟩, _, .ref C, some d, rfl, JG, kG, ge, hoe, ⟨rfl, rfl, fun vs hv => by cases hv; rfl⟩, rfl, rfl, na, rfl, bare2, raises_own T.exC T.tyC, q3⟩
/-- C(), no __init__ of its own -/
theorem pmk_own0 {bmB : List Value} {B newId initId : String} (F : ExcBaseFacts B newId initId bmB) (q : PySem.W.excIn X.K C bmB newId = true) (gC : X.mg x = some (.ref C)) (kC : PySem.W.keepIn X.K (.ref C) = true) (r : Raises X (.ref C)) (hg : Gl X x)
    (hdb : (x == ("__debug__" : Str)) = false := by decide) : L2N.PMk X (.Call (.Name x p) [] [] pos) (fun _ H Q => Q (.ref C) none H) := by
  intro pins s σ H Q I hw
  refine wpAny_Call_Name_kw (ld_glob I hg gC ?_ hdb)
  refine PySem.W.callWith_K0 I.kIn kC (show wpAny _ _ (call (.ref C) []) _ _ _ from ?_)
  obtain ⟨bm, N, nm, qn, bs, hdct, sn, sub, ab, col, dd, k0, k1, k2, k3, k5, mN, hC, hN, hni, T⟩ := exc_obj I.kIn q
  exact wpAny_call_exc_subT F T hC hN hni (fun h' e hm => L2N.mk_of I hm r hw (I.hok.gone hm.new)) (Nat.zero_le _)
end

/-! ### try: body, a first clause that takes none of the body's exceptions, a second one that takes all: except x as n -/
def wSkip (K : PySem.W.Frag) (c1 c : Value) (i : Nat) (ts : Addr → Value → Option Addr → L2.TS) (D : Ends) : WX := fun cls d σ H => PySem.W.exmOne K cls c1 = some false ∧ PySem.W.exmOne K cls c = some true ∧
  ∀ a, H a = none → ts a cls d { nx := fun σ' H' => D.nx (σ'.set i none) H', rt := D.rt, bk := fun σ' H' => D.bk (σ'.set i none) H', ct := fun σ' H' => D.ct (σ'.set i none) H' } (σ.set i (some (.ref a))) H
section
variable {X : Cx} {x1 x n : Str} {c1 c : Value} {i : Nat} {body st1 suite : List Stmt} {b₀ : Stmt} {np1 np pos pos1 pos' : Pos} {tb : WX → L2.TS} {ts : Addr → Value → Option Addr → L2.TS}
theorem ps_try_skip (hs : X.stack = X.env :: X.outer) (hf : X.env.frame = some X.env.locals) (hN : X.N.Nodup) (hi : X.N[i]? = some n) (hln : X.env.kindOf n = some .local) (hc1 : Names X x1 c1) (hc : Names X x c)
    (hb : ∀ (W : WX) (pn : List (Addr × Obj)) (xe : Value → Shared → Prop), L2N.Takes (X.tr pn xe) W → PSs (X.tr pn xe) body (tb W))
    (hsu : ∀ (a : Addr) (oe : Obj) (cls : Value) (d : Option Addr) (pn : List (Addr × Obj)), Held (X.suite a ((a, oe) :: pn)) (a, oe) cls d → PSs (X.suite a ((a, oe) :: pn)) (b₀ :: suite) (ts a cls d)) :
    PS X (.Try body [.ExceptHandler (some (.Name x1 np1)) none st1 pos1, .ExceptHandler (some (.Name x np)) (some n) (b₀ :: suite) pos'] [] [] pos) (fun D σ H => tb (wSkip X.K c1 c i ts D) D σ H) := by
  refine ⟨fun pins s σ H D I hw => ?_⟩
  have ok := I.ok
  have hfr : X.A.frames = some (X.env :: X.outer) := by rw [ok.frames, hs]
  refine wpAny_Try_except (wpAny_mono ((hb (wSkip X.K c1 c i ts D) (X.pn ++ pins) _ fun u s' xx => ?_).run [] s σ H D (I.toTry _) hw) (fun fl s1 z => ?_) fun e s1 z => z)
  · obtain ⟨a, B, sI, pins', σ', H', cls, d, rfl, J', nb, up, sky, na, os, ag, no1, yes, go⟩ := xx
    have J : Inv X pins σ' H' sI := J'.ofTry ok
    refine L2N.Sky.land L2N.Zn.steady hfr hf (show Sky B (X.env :: X.outer) a (L2N.Zn cls d) X.env.locals s'.heap by rw [← hs]; exact sky) fun h3 f3 up3 => ?_
    have J3 : Inv X pins σ' H' { s' with heap := h3 } := J.landed nb f3.1 (up.trans up3) os ag
    obtain ⟨o3, v3, e3, z3, d3⟩ := f3.there
    have nfr : a ∉ frs (X.env :: X.outer) := fun hm => by
      obtain ⟨_, o', e', hnf⟩ := f3.2.2.1.mem hm
      rw [e3] at e'; cases e'
      exact hnf _ d3
    have nL : a ≠ X.env.locals := fun z => nfr (List.mem_filterMap.mpr ⟨X.env, List.mem_cons_self, by rw [hf, z]⟩)
    have nF : a ∉ X.fs := fun hm => by
      obtain ⟨ev, he, q⟩ := List.mem_filterMap.mp hm
      exact nfr (List.mem_filterMap.mpr ⟨ev, List.mem_cons_of_mem _ he, q⟩)
    have S3 := J3.suite e3 d3 na nL nF
    have isC : PySem.W.Looks (model X.prog X.w) h3 (typeOf (.ref a)) cls := fun A Q E s k q => wpAny_typeOf_ref (k _ _ e3) (by rw [z3.1]; exact q)
    have named : ∀ {y : Str} {cv : Value} {q : Pos} {Q : Value → Shared → Prop} {E : Value → Shared → Prop}, Names X y cv → Q cv { s' with heap := h3 } → wpAny (model X.prog X.w) (X.A.mark (some (.ref a))) (eval (.Name y q) X.env) Q E { s' with heap := h3 } := fun {y cv q Q E} nm qq => by
      obtain ⟨g, db, m | ⟨m, v, nn⟩⟩ := nm
      · exact ld_glob (X := X.suite a ((a, o3) :: (X.pn ++ pins))) S3 g m qq db
      · exact ld_blt (X := X.suite a ((a, o3) :: (X.pn ++ pins))) S3 g m v qq nn db
    refine wpAny_handleBy_cons (codeAny_handlers_test (named hc1 ((PySem.W.exm_one (M := model X.prog X.w) J3.kIn isC no1).here ?_))) (by intro q; cases q)
    show wpAny _ X.A (handleBy (.ref a) X.env [_]) _ _ _
    refine wpAny_handleBy_cons (codeAny_handlers_test (named hc ((PySem.W.exm_one (M := model X.prog X.w) J3.kIn isC yes).here ?_))) (by intro q; cases q)
    refine codeAny_handlers_suite_as (HandSPX.lands_againZ f3 fun h4 f4 up4 => ?_)
    have J4 : Inv X pins σ' H' { s' with heap := h4 } := J.landed nb f4.1 ((up.trans up3).trans up4) os ag
    obtain ⟨o4, v4, e4, z4, d4⟩ := f4.there
    have S4 := J4.suite e4 d4 na nL nF
    refine store_ok (X := X.suite a ((a, o4) :: (X.pn ++ pins))) (v := .ref a) S4 hN hi (.inl hln) rfl (fun s5 S5 => ?_) (.inr hln)
    refine wpAny_mono ((hsu a o4 cls d (X.pn ++ pins) (held_suite z4 ⟨_, d4⟩)).run [] s5 _ H' _ S5 (go a na)) (fun fl s6 z => ?_) (fun _ _ z => z.elim)
    have back : ∀ {σ6 : L2.St} {H6 : Hp} {Q : Shared → Prop}, Inv (X.suite a ((a, o4) :: (X.pn ++ pins))) [] σ6 H6 s6 → (∀ s7, Inv X pins (σ6.set i none) H6 s7 → Q s7) →
        wpAny (model X.prog X.w) X.A (do bindName X.env n .none; unbindBehindTheSuite X.env n pos') (fun _ s7 => Q s7) X.xe s6 := fun {σ6 H6 Q} S6 hq => gone_ok (S6.unsuite ok) hN hi hln hq
    cases fl with
    | next => obtain ⟨σ6, H6, S6, q6⟩ := z; exact back S6 fun s7 J7 => ⟨_, _, J7, q6⟩
    | brk => obtain ⟨σ6, H6, S6, q6⟩ := z; exact back S6 fun s7 J7 => ⟨_, _, J7, q6⟩
    | cont => obtain ⟨σ6, H6, S6, q6⟩ := z; exact back S6 fun s7 J7 => ⟨_, _, J7, q6⟩
    | ret u => obtain ⟨v6, σ6, H6, S6, r6, q6⟩ := z; exact back S6 fun s7 J7 => ⟨_, _, _, J7, r6, q6⟩
  · cases fl with
    | next => obtain ⟨σ', H', J', q⟩ := z; exact wpAny_execs_nil ⟨σ', H', J'.ofTry ok, q⟩
    | brk => obtain ⟨σ', H', J', q⟩ := z; exact ⟨σ', H', J'.ofTry ok, q⟩
    | cont => obtain ⟨σ', H', J', q⟩ := z; exact ⟨σ', H', J'.ofTry ok, q⟩
    | ret u => obtain ⟨v, σ', H', J', r, q⟩ := z; exact ⟨v, σ', H', J'.ofTry ok, r, q⟩
/-- one clause that takes all: except x as n -/
theorem ps_try_all (hs : X.stack = X.env :: X.outer) (hf : X.env.frame = some X.env.locals) (hN : X.N.Nodup) (hi : X.N[i]? = some n) (hln : X.env.kindOf n = some .local) (hc : Names X x c)
    (hb : ∀ (W : WX) (pn : List (Addr × Obj)) (xe : Value → Shared → Prop), L2N.Takes (X.tr pn xe) W → PSs (X.tr pn xe) body (tb W))
    (hsu : ∀ (a : Addr) (oe : Obj) (cls : Value) (d : Option Addr) (pn : List (Addr × Obj)), Held (X.suite a ((a, oe) :: pn)) (a, oe) cls d → PSs (X.suite a ((a, oe) :: pn)) (b₀ :: suite) (ts a cls d)) :
    PS X (.Try body [.ExceptHandler (some (.Name x np)) (some n) (b₀ :: suite) pos'] [] [] pos) (fun D σ H => tb (wAs X.K c i ts (fun _ _ _ _ => False) D) D σ H) :=
  L2N.ps_try_as hs hf hN hi hln hc (fun _ _ ⟨_, _, _, _, _, _, _, _, _, _, _, _, _, _, _, _, w⟩ => w.elim) (fun W pn xe tk _ => hb W pn xe tk) fun a oe cls d pn z f => hsu a oe cls d pn (held_suite z f)
end
end Fb
namespace Fb
open PySem PySem.Spec PyProof.Rows L2 L2H HotX
/-- an own exception class under its name, its __init__ keeping sp -/
structure MkN (P : Program) (w : World) (K : PySem.W.Frag) (mg : Str → Option Value) (base : Heap) (k : Nat) (x : Str) (C : Addr) (sp : Sp) : Prop where
  ex : ∃ (f : Addr) (fd : FuncData) (ps : List Str), OexC K C ∧ PySem.W.findIn K (.ref C) "__init__" = some (some (.ref f)) ∧ PySem.W.typeIn K (.ref f) = some (.type "function") ∧ FnOk P w K mg base CX0 k f fd ps sp ∧ Binds K fd ps [] ∧ mg x = some (.ref C)
theorem pmk_N {X : Cx} {x : Str} {e : Expr} {es : List Expr} {ta : TA} {p pos : Pos} {C : Addr} {k j : Nat} {sp : Sp} (c : MkN X.prog X.w X.K X.mg X.base k x C sp) (hr : Room j X.A) (hk : k + 1 ≤ j) (hg : Gl X x) (ha : PA X (e :: es) ta)
    (hdb : (x == ("__debug__" : Str)) = false := by decide) (he : starEach (e :: es) X.env = (false, eval e X.env) :: starEach es X.env := by rfl) (hpl : (backTo pos (starEach es X.env)).any (·.1) = false := by rfl) :
    L2N.PMk X (.Call (.Name x p) (e :: es) [] pos) (tMkO C sp [] ta) := by
  obtain ⟨f, fd, ps, T, i, t, F, b, m⟩ := c.ex
  exact pmk_oexN T i t F hr hk b hg m ha hdb he hpl
/-- what such an __init__ leaves: the fields ns, in the order of the arguments -/
def spI (K : PySem.W.Frag) (ns : List Str) : Sp := fun vs H Q _ => ∃ (a C : Addr) (ys : List V), vs = .ref a :: ys ∧ ys.length = ns.length ∧ OexC K C ∧ (∀ f ∈ ns, PySem.W.findIn K (.ref C) f = some none) ∧ H a = some (exo a C none) ∧
  ∀ (dx : Addr) (H' : Hp), H dx = none → dx ≠ a → H' a = some (exo a C (some dx)) → H' dx = some (exd dx (ns.zip ys).reverse) → (∀ b, b ≠ a → b ≠ dx → H' b = H b) → Q .non H'
end Fb
set_option Elab.async false
set_option linter.all false
set_option maxRecDepth 100000
set_option maxHeartbeats 2000000
namespace VL
open PySem PySem.Spec PyProof.Rows L2
/-- a def that makes cells of its own, by its body -/
theorem fn_runM {K : PySem.W.Frag} {pM M2 : List Sh} {rsh : Sh} {sp : VSp} {W : XW} {exV : (Exn → Env → Prop) → QX} {ts : TS} {f : VTS} {N : List Str} {vs : List V} {H : Hp} {Q : VK} {E : XK} (hN : N.length = (pM ++ M2).length)
    (hb : ∀ (H0 : Hp) (io av : Addr → Prop) (rt : List (Nat × V)), (∀ i, i ∉ ioIx pM 0 → ∀ p ∈ rt, p.1 ≠ i) → VS ⟨K, H0, io, av, pM ++ M2, rt⟩ W rsh ts f)
    (hx : ∀ (Qx : Exn → Env → Prop) (c : Vc) (T : List Tm) (x : Exn) (d : Option Addr) (σ : L2.St) (e : Env) (H' : Hp), c.M = pM ++ M2 → R c T σ e H' → XAt H' x d → exV Qx x e → (∀ ps, ps = ioP pM e → Qx x ps → E (.ref x.C) d H') → W (.ref x.C) d σ H')
    (hsp : ∀ (ds : List D) (Qv : D → Env → Prop) (Qx : Exn → Env → Prop), ds.length = pM.length → sp ds Qv Qx → f ⟨fun e => rsh = .s ∧ Qv .non (ioP pM e), fun r e => Qv r (ioP pM e), fun _ => False, fun _ => False, exV Qx⟩ (ds.map some ++ (nones M2 ++ [some (.mem [] [])])))
    (h : spOf K pM rsh sp vs H Q E) : ts { nx := fun _ H' => Q .non H', rt := Q } (L2.start N vs) H := by
  have hl := h.len
  obtain ⟨c, ds, Qv, Qx, rfl, rfl, rfl, h4, ⟨hdl, fT, fV, hX⟩, hs, hq, he⟩ := h
  have hr : ∀ i, i ∉ ioIx c.M 0 → ∀ p ∈ c.rt, p.1 ≠ i := fun i hi p hp z => hi (by
    rw [h4] at hp
    rw [← z]
    exact roots_ix _ _ _ p hp)
  have hst : L2.start N vs = vs.map some ++ List.replicate M2.length none := by
    unfold L2.start
    rw [hN, List.length_append, hl]
    congr 2
    omega
  have hfT : fT = [] := hX.tm
  subst hfT
  have start' : R ⟨c.K, c.H0, c.io, c.av, c.M ++ M2, c.rt⟩ [] (vs.map some ++ List.replicate M2.length none) (ds.map some ++ (List.replicate M2.length none ++ [some (.mem [] [])])) c.H0 := by
    refine ⟨[], fV, rfl, ?_, hX.nd, hX.fr, hX.kp, hX.tp, hX.al, hX.ok, fun p hp => ?_⟩
    · have z := RV.app (RV.nones (K := c.K) (ow := owOf c [] fV) (H := c.H0) M2) (hX.vr.strict (by rw [List.length_map]; exact hdl))
      rw [List.append_nil] at z
      exact ⟨_, [some (.mem [] [])], fV, [], by rw [List.append_assoc], by simp, z, rfl, trivial⟩
    · have z := hX.rt p hp
      rw [List.getElem?_append_left ((List.getElem?_eq_some_iff.mp z).1)]
      exact z
  have back : ∀ {T : List Tm} {σ : L2.St} {e : Env} {H' : Hp}, R ⟨c.K, c.H0, c.io, c.av, c.M ++ M2, c.rt⟩ T σ e H' → R c T (vs.map some) (ioP c.M e) H' := by
    rintro T σ e H' ⟨gT, gV, Y⟩
    obtain ⟨e0, tl, g0, gt, ee, eg, rv, _⟩ := Y.vr
    subst ee eg
    obtain ⟨σ1, σ2, e1, e2, f1, f2, a, b, cc, h6, h7⟩ := RV.unapp rv
    subst a b cc
    have sub : ∀ x, x ∈ gT ++ f1 → x ∈ gT ++ ((f1 ++ f2) ++ gt) := fun x z => by
      simp only [List.mem_append] at z ⊢
      rcases z with z | z <;> simp [z]
    have how : ∀ x, owOf c gT f1 x → owOf ⟨c.K, c.H0, c.io, c.av, c.M ++ M2, c.rt⟩ gT ((f1 ++ f2) ++ gt) x ∨ H' x = none := fun x z => by
      rcases z with z | z
      · exact .inl (.inl (sub x z))
      · exact .inl (.inr z)
    have l1 := h6.len
    rw [List.append_assoc, ioP_app l1.2]
    refine ⟨gT, f1, Y.tm.fr (fun _ _ q _ => q) (ExtT.refl H') how (fun _ _ _ q => q), .of ?_, ?_, fun x z => Y.fr x (sub x z), Y.kp, Y.tp, Y.al, Y.ok, fun p hp => ?_⟩
    · refine RV.io (n := 0) (h6.fr (fun _ _ q _ => q) (ExtT.refl H') how (fun _ _ _ q => q)) hl fun p hp => ?_
      have z := Y.rt p (by rw [h4]; exact hp)
      obtain ⟨j, a, b⟩ := roots_at _ _ _ p hp
      refine ⟨j, a, ?_⟩
      rw [Nat.zero_add] at a
      rw [a, List.getElem?_append_left (by
        rw [l1.1, ← hl]
        exact (List.getElem?_eq_some_iff.mp b).1)] at z
      exact z
    · have n := Y.nd
      rw [List.append_assoc, ← List.append_assoc] at n
      exact (List.nodup_append.mp n).1
    · have hp' := hp
      rw [h4] at hp'
      obtain ⟨j, a, b⟩ := roots_at _ _ _ p hp'
      rw [Nat.zero_add] at a
      rw [a, List.getElem?_map, b]
      rfl
  have lio : ∀ {T : List Tm} {σ : L2.St} {e : Env} {H' : Hp}, R ⟨c.K, c.H0, c.io, c.av, c.M ++ M2, c.rt⟩ T σ e H' → (ioP c.M e).length = c.M.length := fun r => ioP_len (by
    have z := r.len
    simp only [List.length_append] at z
    omega)
  rw [hst]
  have hsp' := hsp ds Qv Qx hdl hs
  rw [nones_eq] at hsp'
  refine hb c.H0 c.io c.av c.rt hr [] _ _ c.H0 _ _ start' hsp' ⟨fun σ e H' r q => ?_, fun v d σ e H' r q => hq v d _ H' (lio r) (back r) q, fun _ _ _ _ q => q.elim, fun _ _ _ _ q => q.elim, fun x d σ e H' r y q => hx Qx _ _ x d σ e H' rfl r y q fun ps ep z => ?_⟩
  · obtain ⟨e1, q⟩ := q
    subst e1
    obtain ⟨gT, gV, Y⟩ := r
    exact hq .non .non _ H' (lio ⟨gT, gV, Y⟩) (back ⟨gT, gV, Y.pushS rs_non⟩) q
  · subst ep
    exact he x d _ H' (lio r) (back r) y z
/-- .. of a def that raises nothing -/
theorem fn_runM0 {K : PySem.W.Frag} {pM M2 : List Sh} {rsh : Sh} {sp : VSp} {ts : TS} {f : VTS} {N : List Str} {vs : List V} {H : Hp} {Q : VK} {E : XK} (hN : N.length = (pM ++ M2).length)
    (hb : ∀ (H0 : Hp) (io av : Addr → Prop) (rt : List (Nat × V)), (∀ i, i ∉ ioIx pM 0 → ∀ p ∈ rt, p.1 ≠ i) → VS ⟨K, H0, io, av, pM ++ M2, rt⟩ W0 rsh ts f)
    (hsp : ∀ (ds : List D) (Qv : D → Env → Prop) (Qx : Exn → Env → Prop), ds.length = pM.length → sp ds Qv Qx → f ⟨fun e => rsh = .s ∧ Qv .non (ioP pM e), fun r e => Qv r (ioP pM e), fun _ => False, fun _ => False, fun _ _ => False⟩ (ds.map some ++ (nones M2 ++ [some (.mem [] [])])))
    (h : spOf K pM rsh sp vs H Q E) : ts { nx := fun _ H' => Q .non H', rt := Q } (L2.start N vs) H :=
  fn_runM (exV := fun _ _ _ => False) hN hb (fun _ _ _ _ _ _ _ _ _ _ _ z => z.elim) hsp h
/-! ### instances: made, asked -/
section
variable {c : Vc} {W : XW} {m : Md} {te : TE} {fe : VT} {tA : TA} {fA : VTA} {as : List (Option Nat)}
/-- the place of the cells gets one more that was not there -/
theorem RX.newM {fT fV : List Addr} {T : List Tm} {σ : L2.St} {e : Env} {H H' : Hp} {a : Addr} {d : D} {al : List Addr} {l : List D} (h : RX c fT fV T σ e H) (hm : e[c.M.length]? = some (some (.mem al l))) (s : Same H H') (ha : H a = none) (hro : ∀ ow', (∀ b, ow' b → owOf c fT fV b ∨ H b = none) → RO c.K ow' H' d (cellSh d) (.ref a) [a]) : ∃ fV', a ∉ al ∧ (∀ b, b ∈ fT ++ fV' → b ∈ fT ++ fV ∨ H b = none) ∧ RX c fT fV' T σ (newC c.M.length e a d) H' := by
  obtain ⟨e0, f0, ee, le0, ef, rv, rm⟩ := h.memAt hm
  have hna : a ∉ al := fun z => by
    obtain ⟨o, q, _⟩ := rm.at a z
    rw [ha] at q
    cases q
  have nd : al.Nodup := by
    have n := h.nd
    rw [ef] at n
    exact (List.nodup_append.mp (List.nodup_append.mp n).2.1).2.1
  obtain ⟨fV', hsub, X⟩ := h.setMem' (S := []) (as' := a :: al) (l' := d :: l) hm (fun b z => by cases z) (fun b o q _ => s b o q) (ExtT.same s) (fun b q z => q (by
    cases y : H b with
    | none => rfl
    | some o => rw [s b o y] at z; cases z)) (List.nodup_cons.mpr ⟨hna, nd⟩) (fun b z => (List.mem_cons.mp z).elim (fun q => .inr (by rw [q]; exact ha)) .inl) fun ow' how => ⟨hro ow' how, rm.fr (fun b o q _ => s b o q) (ExtT.same s) how (fun b _ o q => s b o q)⟩
  refine ⟨fV', hna, fun b z => ?_, ?_⟩
  · rcases List.mem_append.mp z with z | z
    · exact .inl (List.mem_append_left _ z)
    · rcases hsub b z with z | z
      · exact .inl (List.mem_append_right _ z)
      · rcases List.mem_cons.mp z with z | z
        · exact .inr (by rw [z]; exact ha)
        · exact .inl (by rw [ef]; simp [z])
  unfold newC
  rw [hm]
  exact X
def vMakeA (n k : Nat) (C : Addr) (as : List (Option Nat)) (sp : VSp) (fA : VTA) : VT := fun e Q Qx => fA e (fun ds e1 => ∃ full al l, fill as ds e1 = some full ∧ e1[n]? = some (some (.mem al l)) ∧ ∀ a, a ∉ al → sp (.ref a :: full ++ [.mem (a :: al) (.obj C [] [] :: l)]) (fun r ps => r = .non ∧ Q (.ref a) (putA n k (none :: as) ps (newC n e1 a (.obj C [] [])))) fun _ _ => False) Qx
theorem fill_new {n : Nat} {x : Option D} {M : List Sh} (hn : n = M.length) {ds : List D} {e : Env} : ∀ {as : List (Option Nat)} {pM : List Sh} {ds : List D} {e : Env}, ShOk M as pM → fill as ds (e.set n x) = fill as ds e
  | [], [], [], e, _ => rfl
  | [], [], _ :: _, e, _ => rfl
  | [], _ :: _, _, _, hs => by simp only [ShOk] at hs
  | none :: as, [], _, _, hs => by simp only [ShOk] at hs
  | some i :: as, [], _, _, hs => by simp only [ShOk] at hs
  | none :: as, sh :: pM, [], e, ⟨_, hs⟩ => rfl
  | none :: as, sh :: pM, d :: ds, e, ⟨_, hs⟩ => by
    simp only [fill]
    rw [fill_new hn hs (ds := ds) (e := e)]
    all_goals assumption
  | some i :: as, sh :: pM, ds, e, ⟨hM, _, _, hs⟩ => by
    have hi : n ≠ i := by
      have := (List.getElem?_eq_some_iff.mp hM).1
      omega
    simp only [fill]
    rw [List.getElem?_set_ne hi, fill_new hn hs (ds := ds) (e := e)]
    all_goals assumption
theorem ArgV.same {K : PySem.W.Frag} {ow ow' : Addr → Prop} {H H' : Hp} {σ : L2.St} (s : Same H H') (how : ∀ a, ow' a → ow a ∨ H a = none) : ∀ {as : List (Option Nat)} {vs : List V} {ds : List D}, ArgV K ow H σ as vs ds → ArgV K ow' H' σ as vs ds
  | [], _, _, h => h
  | none :: as, _, _, ⟨v, r, d, ss, a, b, q, t⟩ => ⟨v, r, d, ss, a, b, RS.fr (Fr.same s) how _ _ q, ArgV.same s how t⟩
  | some i :: as, _, _, ⟨v, r, a, b, t⟩ => ⟨v, r, a, b, ArgV.same s how t⟩
theorem v_makeA {pM : List Sh} {sp : VSp} {E : XK} {C : Addr} (hA : VAx c W tA as fA) (hs : ShOk c.M as pM) : VE c W .e (tMake C (spA c.K (.s :: pM) .s sp) [] E tA) .s (vMakeA c.M.length (pM.length + 1) C as sp fA) := fun T σ e H Q Qv Qx hR hf hn hx => by
  refine hA T σ e H _ _ Qx hR hf (fun fT fV vs ds e1 H1 X1 av ⟨full, al, l, hfl, hm, q⟩ => ?_) hx
  rw [List.append_nil]
  intro x dx hx0 hdx0 ne
  have s1 : Same H1 (L2.upd (L2.upd H1 dx (.own x)) x (.ins C dx [])) := fun b o z => by
    rw [upd_ne (ne_of_none z hx0), upd_ne (ne_of_none z hdx0)]
    exact z
  obtain ⟨fV', hna, hsub, X2⟩ := X1.newM (a := x) (d := .obj C [] []) hm s1 hx0 fun ow' how => RO.ocell (dx := dx) (vs := []) upd_same rfl .nil
  have hm2 : (newC c.M.length e1 x (.obj C [] []))[c.M.length]? = some (some (.mem (x :: al) (.obj C [] [] :: l))) := by
    unfold newC
    rw [hm]
    show (e1.set c.M.length _)[c.M.length]? = _
    rw [List.getElem?_set_self ((List.getElem?_eq_some_iff.mp hm).1)]
  have how2 : ∀ a, owOf c fT fV' a → owOf c fT fV a ∨ H1 a = none := fun a z => by
    rcases z with z | z
    · rcases hsub a z with z | z
      · exact .inl (.inl z)
      · exact .inr z
    · exact .inl (.inr z)
  have av2 : ArgV c.K (owOf c fT fV') (L2.upd (L2.upd H1 dx (.own x)) x (.ins C dx [])) σ (none :: as) (.ref x :: vs) (.ref x :: ds) := ⟨.ref x, vs, .ref x, ds, rfl, rfl, by simp only [RS], av.same s1 how2⟩
  refine spA_use (as := none :: as) (full := .ref x :: full) (Qv := fun r e' => r = .non ∧ Qv (.ref x) e') (Qx := fun _ _ => False) X2 av2 ?_ ⟨rfl, hs⟩ hm2 (q x hna) (fun v r e' H' r1 q1 => ?_) (fun _ _ _ _ _ _ z => z.elim)
  · simp only [fill]
    have e : newC c.M.length e1 x (.obj C [] []) = e1.set c.M.length (some (.mem (x :: al) (.obj C [] [] :: l))) := by
      unfold newC
      rw [hm]
    rw [e, fill_new rfl hs (ds := ds) (e := e1), hfl]
    · rfl
    all_goals assumption
  · obtain ⟨er, q1⟩ := q1
    subst er
    obtain ⟨gT, gV, Y⟩ := r1
    obtain ⟨ry, Y⟩ := Y.topS
    have z : v = .non := by simpa only [RS] using ry
    exact ⟨z, hn _ _ e' H' ⟨gT, gV, Y.pushS (by simp only [RS])⟩ Post.e q1⟩
end
end VL
set_option Elab.async false
set_option linter.all false
set_option maxRecDepth 100000
set_option maxHeartbeats 2000000
namespace VL
open PySem PySem.Spec PyProof.Rows L2 L2H HotX
/-! ### methods -/
theorem getF_no {α : Type} {f : Str} : ∀ {fs : List Str} {l : List α}, f ∉ fs → getF fs l f = none
  | [], _, _ => by simp [getF]
  | g :: fs, [], _ => by simp [getF]
  | g :: fs, x :: l, h => by
    rw [getF, if_neg (fun z => h (by rw [z]; exact List.mem_cons_self))]
    exact getF_no fun z => h (List.mem_cons_of_mem _ z)
section
variable {c : Vc} {W : XW} {m : Md} {te : TE} {fe : VT} {tA : TA} {fA : VTA} {as : List (Option Nat)}
def vMethA (n k : Nat) (C : Addr) (m : Str) (as : List (Option Nat)) (sp : VSp) (fe : VT) (fA : VTA) : VT := fun e Q Qx => fe e (fun x e1 => ∃ a fs l, x = .ref a ∧ Cell n e1 a (.obj C fs l) ∧ m ∉ fs ∧ fA e1 (fun ds e2 => ∃ full al l2, fill as ds e2 = some full ∧ e2[n]? = some (some (.mem al l2)) ∧ sp (.ref a :: full ++ [.mem al l2]) (fun r ps => Q r (putA n k (none :: as) ps e2)) fun _ _ => False) Qx) Qx
theorem v_methA {pM : List Sh} {rsh : Sh} {sp : VSp} {E : XK} {C : Addr} {nm : Str} (he : VQ c te fe) (hA : VAx c W tA as fA) (hs : ShOk c.M as pM) : VE c W .e (tMeth C nm (spA c.K (.s :: pM) rsh sp) [] E te tA) rsh (vMethA c.M.length (pM.length + 1) C nm as sp fe fA) := fun T σ e H Q Qv Qx ⟨fT, fV, hX⟩ hf hn hx =>
  he fT fV T σ e H _ _ Qx hX hf fun v d r ⟨a, fs, l, ed, hc, hno, q⟩ => by
    subst ed
    have z : v = .ref a := by simpa only [RS] using r
    subst z
    rcases (hX.cellB hc).2.2.cell with ⟨l', vs, e', _⟩ | ⟨ks, l', vs, e', _⟩ | ⟨C', fs', l', dx, vs, e', ha, n, rs⟩
    · cases e'
    · cases e'
    cases e'
    refine ⟨a, dx, _, rfl, ha, by rw [lookup_zip]; exact getF_no hno, ?_⟩
    refine hA T σ e H _ _ Qx ⟨fT, fV, hX⟩ q (fun fT1 fV1 vs1 ds e1 H1 X1 av ⟨full, al, l2, hfl, hm, q⟩ => ?_) hx
    rw [List.append_nil]
    exact spA_use (as := none :: as) (full := .ref a :: full) (Qx := fun _ _ => False) X1 ⟨.ref a, vs1, .ref a, ds, rfl, rfl, by simp only [RS], av⟩ (by simp only [fill, hfl]; rfl) ⟨rfl, hs⟩ hm q (fun v r e' H' r1 q1 => hn v r e' H' r1 Post.e q1) (fun _ _ _ _ _ _ z => z.elim)
/-! ### raising -/
theorem rev_zip {α β : Type} : ∀ {a : List α} {b : List β}, a.length = b.length → (a.zip b).reverse = a.reverse.zip b.reverse
  | [], [], _ => rfl
  | x :: a, y :: b, h => by
    rw [List.zip_cons_cons, List.reverse_cons, List.reverse_cons, List.reverse_cons, rev_zip (Nat.succ.inj h), List.zip_append (by rw [List.length_reverse, List.length_reverse]; exact Nat.succ.inj h)]
    rfl
  | [], _ :: _, h => by cases h
  | _ :: _, [], h => by cases h
def vRaise (C : Addr) (ns : List Str) (fA : VTA) : VTS := fun D e => fA e (fun ds e1 => ds.length = ns.length ∧ ds.all isSc = true ∧ D.ex ⟨C, ns.reverse, ds.reverse⟩ e1) D.ex
theorem vs_raise {rsh : Sh} {C : Addr} {ns : List Str} (hC : L2.OexC c.K C) (hF : ∀ f ∈ ns, PySem.W.findIn c.K (.ref C) f = some none) (hl : ns.length ≤ 1000) (hA : VA c W .e tA fA) : VS c W rsh (fun _ σ H => tMkO C (Fb.spI c.K ns) [] tA σ H fun cls d H' => W cls d σ H') (vRaise C ns fA) := fun T σ e H D Dv hR hf L =>
  hA T σ e H _ _ Dv.ex hR hf (fun fT fV vs ds e1 H1 X1 rs _ ⟨hlen, hsc, q⟩ => by
    have hv := rs.sc hsc
    have lv := rs.len
    refine ⟨by omega, fun a ha => ?_⟩
    rw [List.append_nil]
    refine ⟨a, C, vs, rfl, by omega, hC, hF, upd_same, fun dx H2 hdx ne h1 h2 h3 => ⟨rfl, dx, _, h1, h2, by rw [upd_ne ne] at hdx; exact hdx, ?_⟩⟩
    have hdx1 : H1 dx = none := by rw [upd_ne ne] at hdx; exact hdx
    have s : Same H1 (L2.upd (L2.del H2 a) dx (.xd (ns.zip vs).reverse)) := fun b o z => by
      have nb : b ≠ a := ne_of_none z ha
      have nd : b ≠ dx := ne_of_none z hdx1
      rw [upd_ne nd]
      show L2.del H2 a b = _
      unfold L2.del
      rw [if_neg nb, h3 b nb nd, upd_ne nb]
      exact z
    refine L.ex ⟨C, ns.reverse, ds.reverse⟩ (some dx) σ e1 _ ⟨fT, fV, X1.same s⟩ (.inr ⟨dx, rfl, ?_, by simp; omega, by simpa using hsc⟩) q
    show L2.upd _ dx _ dx = _
    rw [upd_same, rev_zip (by omega), hv, List.map_reverse]) (fun x d e' H' r y q => L.ex x d σ e' H' r y q)
/-! ### try .. except X as n -/
theorem RX.base {fT fV : List Addr} {T : List Tm} {σ : L2.St} {e : Env} {H : Hp} {rt : List (Nat × V)} (h : RX c fT fV T σ e H) (hr : ∀ p ∈ rt, σ[p.1]? = some (some p.2)) : RX ⟨c.K, H, fun a => a ∈ fT ++ fV, c.av, c.M, rt⟩ fT fV T σ e H :=
  ⟨h.tm, h.vr, h.nd, fun a z => .inl z, fun b o q _ => q, ExtT.refl H, fun b q => q, fun a z => ⟨h.avn z, fun y => by
    rcases h.fr a y with w | w
    · exact (h.ok a z).2 w
    · exact (h.ok a z).1 w⟩, hr⟩
theorem RX.unbase {fT fV gT gV : List Addr} {T T' : List Tm} {σ σ' : L2.St} {e e' : Env} {H H' : Hp} {rt : List (Nat × V)} (h : RX c fT fV T σ e H) (hr : ∀ p ∈ c.rt, σ'[p.1]? = some (some p.2)) (Y : RX ⟨c.K, H, fun a => a ∈ fT ++ fV, c.av, c.M, rt⟩ gT gV T' σ' e' H') : RX c gT gV T' σ' e' H' :=
  have f1 : ∀ a ∈ gT ++ gV, c.io a ∨ c.H0 a = none := fun a z => by
    rcases Y.fr a z with w | w
    · exact h.fr a w
    · exact .inr (h.new w).2
  have f2 : ∀ b o, c.H0 b = some o → ¬ c.io b → H' b = some o := fun b o q n => Y.kp b o (h.kp b o q n) fun z => by
    rcases h.fr b z with w | w
    · exact n w
    · rw [w] at q
      cases q
  ⟨Y.tm, Y.vr, Y.nd, f1, f2, h.tp.trans Y.tp, fun b q => Y.al b (h.al b q), h.ok, hr⟩
def vTry (i : Nat) (xs : List (Addr × List Str)) (fb : VTS) (fs : Exn → VTS) : VTS := fun D e => fb { D with ex := fun x e1 => (x.C, x.fs) ∈ xs ∧ fs x { nx := fun e2 => D.nx (e2.set i none), rt := D.rt, bk := fun e2 => D.bk (e2.set i none), ct := fun e2 => D.ct (e2.set i none), ex := D.ex } (e1.set i none) } e
theorem vs_try {rsh : Sh} {i : Nat} {CB : Value} {xs : List (Addr × List Str)} {tb : WX → TS} {ts : Addr → Value → Option Addr → TS} {fb : VTS} {fs : Exn → VTS} (hM : i < c.M.length) (hi : ∀ p ∈ c.rt, p.1 ≠ i) (hxs : ∀ p ∈ xs, PySem.W.exmOne c.K (.ref p.1) CB = some true) (hb : ∀ W', VS c W' rsh (tb W') fb)
    (hsu : ∀ (H0 : Hp) (io : Addr → Prop) (a : Addr) (d : Option Addr) (x : Exn), XAt H0 x d → (x.C, x.fs) ∈ xs → VS ⟨c.K, H0, io, c.av, c.M, (i, .ref a) :: c.rt⟩ W rsh (ts a (.ref x.C) d) (fs x)) :
    VS c W rsh (fun D σ H => tb (wAs c.K CB i ts W D) D σ H) (vTry i xs fb fs) := fun T σ e H D Dv hR hf L =>
  hb _ T σ e H D _ hR hf ⟨L.nx, L.rt, L.bk, L.ct, fun x d σ1 e1 H1 R1 y ⟨hx, q⟩ => by
    refine ⟨true, hxs _ hx, fun _ a ha => ?_, fun z => by cases z⟩
    obtain ⟨fT, fV, X1⟩ := R1.forget (i := i) (x := some (.ref a)) hi
    have ls : i < σ1.length := by
      have z := R1.len.1
      omega
    have X2 := X1.base (rt := (i, .ref a) :: c.rt) fun p hp => by
      rcases List.mem_cons.mp hp with z | z
      · subst z
        exact List.getElem?_set_self ls
      · exact X1.rt p z
    have back : ∀ {T'} {σ'} {e'} {H'}, R ⟨c.K, H1, fun a => a ∈ fT ++ fV, c.av, c.M, (i, .ref a) :: c.rt⟩ T' σ' e' H' → R c T' σ' e' H' := by
      rintro T' σ' e' H' ⟨gT, gV, Y⟩
      exact ⟨gT, gV, X1.unbase (fun p hp => Y.rt p (List.mem_cons_of_mem _ hp)) Y⟩
    exact hsu H1 _ a d x y hx T _ _ H1 _ _ ⟨fT, fV, X2⟩ q ⟨fun σ' e' H' r z => L.nx _ _ H' ((back r).forget hi) z, fun v d σ' e' H' r z => L.rt v d σ' e' H' (back r) z, fun σ' e' H' r z => L.bk _ _ H' ((back r).forget hi) z, fun σ' e' H' r z => L.ct _ _ H' ((back r).forget hi) z, fun x d σ' e' H' r y z => L.ex x d σ' e' H' (back r) y z⟩⟩
/-- isinstance(n, C) -/
def kits (l : List (Addr × Bool)) (C : Addr) : Option Bool := (l.find? fun p => p.1 = C).map (·.2)
theorem xat_tp {H H' : Hp} {x : Exn} {d : Option Addr} (t : ExtT H H') (y : XAt H x d) : XAt H' x d := by
  rcases y with y | ⟨dd, e, h, r⟩
  · exact .inl y
  · exact .inr ⟨dd, e, t _ _ h True.intro, r⟩
theorem xat_dict {H : Hp} {x : Exn} {d : Option Addr} (y : XAt H x d) : Fb.DictAt d H := by
  rcases y with ⟨_, _, y⟩ | ⟨dd, e, h, r⟩
  · exact .inl y
  · exact .inr ⟨dd, _, e, h⟩
theorem q_isX {i : Nat} {a : Addr} {d : Option Addr} {x : Exn} {H0 : Hp} {io av : Addr → Prop} {K : PySem.W.Frag} {M : List Sh} {rt : List (Nat × V)} {N : Addr} {b : Bool} (y : XAt H0 x d) (hE : L2.ExcC K x.C) (hk : PySem.W.kitOne K (.ref x.C) (.ref N) = some b) : VQ ⟨K, H0, io, av, M, (i, .ref a) :: rt⟩ (tCB (Fb.rIsX K a (.ref x.C) d) (tCons (tVar i) (tCons (tC (.ref N)) tNil))) (vC (.bl b)) := fun fT fV T σ e H Q Qv Qx hR q hn => by
  have hv := hR.rt (i, .ref a) List.mem_cons_self
  refine ⟨_, hv, x.C, .ref N, .ref N, b, rfl, rfl, hE, ?_, hk, ?_, hn _ _ rs_bl q⟩
  · exact .own N
  · exact xat_dict (xat_tp hR.tp y)
def vXf (x : Exn) (f : Str) : VT := fun e Q _ => ∃ dv, getF x.fs x.ds f = some dv ∧ Q dv e
theorem getF_mapS {f : Str} : ∀ {fs : List Str} {l : List D} {d : D}, getF fs l f = some d → l.all isSc = true → getF fs (l.map scV) f = some (scV d) ∧ isSc d = true
  | [], _, _, h, _ => by simp [getF] at h
  | g :: fs, [], _, h, _ => by simp [getF] at h
  | g :: fs, x :: l, d, h, a => by
    rw [List.all_cons, Bool.and_eq_true] at a
    simp only [List.map_cons, getF] at h ⊢
    by_cases e : g = f
    · rw [if_pos e] at h ⊢
      cases h
      exact ⟨rfl, a.1⟩
    · rw [if_neg e] at h ⊢
      exact getF_mapS h a.2
theorem q_xf {i : Nat} {a : Addr} {d : Option Addr} {x : Exn} {H0 : Hp} {io av : Addr → Prop} {K : PySem.W.Frag} {M : List Sh} {rt : List (Nat × V)} {f : Str} (y : XAt H0 x d) (hE : XfC K x.C) (hk : PySem.W.findIn K (.ref x.C) f = some none) : VQ ⟨K, H0, io, av, M, (i, .ref a) :: rt⟩ (Fb.tXfX K a (.ref x.C) d f (tVar i)) (vXf x f) := fun fT fV T σ e H Q Qv Qx hR q hn => by
  have hv := hR.rt (i, .ref a) List.mem_cons_self
  obtain ⟨dv, hg, q⟩ := q
  rcases xat_tp hR.tp y with ⟨y1, _⟩ | ⟨dd, ed, hd, hl, hsc⟩
  · rw [y1] at hg
    simp [getF] at hg
  · obtain ⟨h1, h2⟩ := getF_mapS hg hsc
    exact ⟨_, hv, rfl, x.C, dd, _, _, rfl, hE, hk, ed, hd, by rw [lookup_zip]; exact h1, hn _ _ (rs_sc h2) q⟩
end
end VL
set_option Elab.async false
set_option linter.all false
set_option maxRecDepth 100000
set_option maxHeartbeats 4000000
/-! list(zip(a, b)), and zip of a text and a list, over what the iterators draw -/
namespace Fb
open PySem PySem.Spec PyProof.Rows
section
variable {prog : Program} {w : World} {A : Around} {E : Value → Shared → Prop} {s : Shared} {z TI TO i1 i2 T : Addr} {fp1 fp2 : List Addr} {n1 n2 i : Nat} {P1 P2 : Nat → Value → Prop} {St1 St2 : Nat → Heap → Prop} {f : Bool} {oT : Obj}
/-- the next pair of a zip whose first pair is still held by somebody: a new tuple -/
theorem held_item {Q : Option Value → Shared → Prop} (S : ZipSep2 z TI TO i1 i2 fp1 fp2) (D1 : Draws prog w A.in1 i1 fp1 n1 P1 St1) (D2 : Draws prog w A.in1 i2 fp2 n2 P2 St2) (hz : IsZipHeld s.heap z TI TO T f) (hT : s.heap.get? T = some oT)
    (hTI : IsTupOf2 s.heap TI (.ref i1) (.ref i2)) (a1 : St1 i s.heap) (a2 : St2 i s.heap) (l1 : i < n1) (l2 : i < n2)
    (hQ : ∀ x1 x2 h' tk, P1 i x1 → P2 i x2 → IsZipHeld h' z TI TO T true → St1 (i + 1) h' → St2 (i + 1) h' → IsTupOf2 h' s.heap.objs.size x1 x2 →
      (∀ c o, c ≠ z → c ≠ i1 → c ≠ i2 → s.heap.get? c = some o → h'.get? c = some o) → Q (some (.ref s.heap.objs.size)) { s with heap := h', toks := tk }) : wpAny (model prog w) A (pyNext (.ref z)) Q E s := by
  have ty : s.TypeIs (.ref z) "zip" := ⟨_, hz, rfl⟩
  unfold pyNext
  refine wpAny_bind (wpAny_attempt (wpAny_callSpecial?_slot (name := Str.ofString "__next__") ty F.slot_zip_next (wpAny_call_entry F.slot_zip_next ty F.entry_zip_next ?_ (F.args_zip_next_1 _))))
  show wpAny _ _ (field (.ref z) 2 >>= _) _ _ _
  refine wpAny_bind (wpAny_field hz rfl (x := .bool false) rfl ?_)
  show wpAny _ _ (field (.ref z) 3 >>= _) _ _ _
  refine wpAny_bind (wpAny_field hz rfl (x := .ref TI) rfl (wpAny_bind (wpAny_seqItems hTI rfl ?_)))
  show wpAny _ _ (Builtin.SmallTypes.ownedTupleIsFree (.ref z) >>= _) _ _ _
  refine wpAny_bind (wpAny_tupleHeld_zip hz hT fun g1 z1 s1 => ?_)
  simp only [Bool.false_eq_true, if_false]
  refine wpAny_bind ?_
  rw [← Array.forIn_toList]
  simp only [List.forIn_cons, List.forIn_nil]
  refine wpAny_bind (wpAny_bind (wpAny_holding ?_))
  show wpAny _ _ (Builtin.SmallTypes.nextOf (.ref i1) >>= _) _ _ _
  refine wpAny_bind (D1.item i { s with heap := g1 } _ _ l1 (D1.over a1 s1 S.zf1) fun x1 g2 t2 p1 b1 s2 => wpAny_pure (wpAny_pure ?_))
  have s2 : Heap.SameBut i1 g1 g2 := s2
  refine wpAny_bind (wpAny_bind (wpAny_holding ?_))
  show wpAny _ _ (Builtin.SmallTypes.nextOf (.ref i2) >>= _) _ _ _
  refine wpAny_bind (D2.item i { s with heap := g2, toks := t2 } _ _ l2 (D2.over (D2.over a2 s1 S.zf2) s2 S.sep1_2) fun x2 g3 t3 p2 b2 s3 => wpAny_pure (wpAny_pure (wpAny_pure ?_)))
  have s3 : Heap.SameBut i2 g2 g3 := s3
  show wpAny _ _ (newTuple [x1, x2] >>= _) _ _ _
  refine wpAny_bind (wpAny_newTuple (wpAny_pure ⟨_, rfl, wpAny_pure ?_⟩))
  have es : g3.objs.size = s.heap.objs.size := by rw [s3.1, s2.1, s1.1]
  show Q (some (.ref g3.objs.size)) _
  have zz : IsZipHeld (g3.push { cls := .type "tuple", data := .seq #[x1, x2] }) z TI TO T true := Heap.get?_push_of_some _ (s3.extBut _ _ S.zi2 (s2.extBut _ _ S.zi1 z1))
  have tt : IsTupOf2 (g3.push { cls := .type "tuple", data := .seq #[x1, x2] }) g3.objs.size x1 x2 := Heap.get?_push_size _ rfl
  rw [es] at tt ⊢
  exact hQ x1 x2 _ t3 p1 p2 zz (D1.frame _ _ _ (D1.over b1 s3 S.sep2_1) fun b _ o e => Heap.get?_push_of_some _ e) (D2.frame _ _ _ b2 fun b _ o e => Heap.get?_push_of_some _ e) tt fun c o c1 c2 c3 e => Heap.get?_push_of_some _ (s3.extBut _ _ c3 (s2.extBut _ _ c2 (s1.extBut _ _ c1 e)))
theorem held_end {Q : Option Value → Shared → Prop} (S : ZipSep2 z TI TO i1 i2 fp1 fp2) (D1 : Draws prog w A.in1 i1 fp1 n1 P1 St1) (D2 : Draws prog w A.in1 i2 fp2 n2 P2 St2) (hz : IsZipHeld s.heap z TI TO T f) (hT : s.heap.get? T = some oT)
    (hTI : IsTupOf2 s.heap TI (.ref i1) (.ref i2)) (a1 : St1 i s.heap) (a2 : St2 i s.heap) (l1 : i ≤ n1) (l2 : i ≤ n2) (le : i = n1 ∨ i = n2)
    (hQ : ∀ h' tk, (∀ c o, c ≠ z → c ≠ i1 → c ≠ i2 → s.heap.get? c = some o → h'.get? c = some o) → Q none { s with heap := h', toks := tk }) : wpAny (model prog w) A (pyNext (.ref z)) Q E s := by
  have ty : s.TypeIs (.ref z) "zip" := ⟨_, hz, rfl⟩
  have stop : ∀ h' tk e, (∀ c o, c ≠ z → c ≠ i1 → c ≠ i2 → s.heap.get? c = some o → h'.get? c = some o) → (∃ o, h'.get? e = some o ∧ o.cls = .type "StopIteration") →
      wpAny (model prog w) A (do let b ← isInstance (.ref e) (.type "StopIteration"); if b = true then pure none else throw (.ref e)) Q E { s with heap := h', toks := tk } := fun h' tk e hk ⟨o, ho, hc⟩ =>
    wpAny_bind (wpAny_isInstance (T := "StopIteration") (b := true) ⟨o, ho, hc⟩ isSubtype_stop (wpAny_pure (hQ h' tk hk)))
  unfold pyNext
  refine wpAny_bind (wpAny_attempt (wpAny_callSpecial?_slot (name := Str.ofString "__next__") ty F.slot_zip_next (wpAny_call_entry F.slot_zip_next ty F.entry_zip_next ?_ (F.args_zip_next_1 _))))
  show wpAny _ _ (field (.ref z) 2 >>= _) _ _ _
  refine wpAny_bind (wpAny_field hz rfl (x := .bool false) rfl ?_)
  show wpAny _ _ (field (.ref z) 3 >>= _) _ _ _
  refine wpAny_bind (wpAny_field hz rfl (x := .ref TI) rfl (wpAny_bind (wpAny_seqItems hTI rfl ?_)))
  show wpAny _ _ (Builtin.SmallTypes.ownedTupleIsFree (.ref z) >>= _) _ _ _
  refine wpAny_bind (wpAny_tupleHeld_zip hz hT fun g1 z1 s1 => ?_)
  simp only [Bool.false_eq_true, if_false]
  refine wpAny_bind ?_
  rw [← Array.forIn_toList]
  simp only [List.forIn_cons, List.forIn_nil]
  refine wpAny_bind (wpAny_bind (wpAny_holding ?_))
  show wpAny _ _ (Builtin.SmallTypes.nextOf (.ref i1) >>= _) _ _ _
  by_cases q : i < n1
  · have q2 : i = n2 := by omega
    refine wpAny_bind (D1.item i { s with heap := g1 } _ _ q (D1.over a1 s1 S.zf1) fun x1 g2 t2 p1 b1 s2 => wpAny_pure (wpAny_pure ?_))
    have s2 : Heap.SameBut i1 g1 g2 := s2
    refine wpAny_bind (wpAny_bind (wpAny_holding ?_))
    show wpAny _ _ (Builtin.SmallTypes.nextOf (.ref i2) >>= _) _ _ _
    refine wpAny_bind (D2.done { s with heap := g2, toks := t2 } _ _ (by rw [← q2]; exact D2.over (D2.over a2 s1 S.zf2) s2 S.sep1_2) fun g3 e s3 he => ?_)
    have s3 : Heap.ExtBut i2 g2 g3 := s3
    exact stop g3 t2 e (fun c o c1 c2 c3 y => s3 _ _ c3 (s2.extBut _ _ c2 (s1.extBut _ _ c1 y))) he
  · have q1 : i = n1 := by omega
    refine wpAny_bind (D1.done { s with heap := g1 } _ _ (by rw [← q1]; exact D1.over a1 s1 S.zf1) fun g2 e s2 he => ?_)
    have s2 : Heap.ExtBut i1 g1 g2 := s2
    exact stop g2 s.toks e (fun c o c1 c2 c3 y => s2 _ _ c2 (s1.extBut _ _ c1 y)) he
end
end Fb
namespace Fb
open PySem PySem.Spec PyProof.Rows L2
/-- an iterator over a list (true) or a tuple -/
def itr (k : Bool) (h : Heap) (it a : Addr) (i : Nat) : Prop := if k = true then h.IsListIter it a i else h.IsTupleIter it a i
def sqk (K : PySem.W.Frag) (H : Hp) (k : Bool) (a : Addr) (xs : List V) : Prop := if k = true then SqL K H a xs else SqT K H a xs
def clsk (k : Bool) : String := if k = true then "list_iterator" else "tuple_iterator"
theorem draws_of {X : Cx} {pins : List (Addr × Obj)} {σ : L2.St} {H : Hp} {s : Shared} {a : Addr} {xs : List V} (I : Inv X pins σ H s) (k : Bool) (h : sqk X.K H k a xs) :
    ∃ its : List Value, Vals xs its ∧ a < s.heap.objs.size ∧ (∀ (A : Around) (it : Addr), A.handled = none → a ≠ it → ∃ St : Nat → Heap → Prop, Draws X.prog X.w A it [it, a] its.toArray.size (fun i v => its.toArray[i]? = some v) St ∧ (∀ i, itr k s.heap it a i → St i s.heap) ∧ ∀ i h, St i h → itr k h it a i) ∧
      ∃ Hb : Heap → Prop, Begins (.ref a) { cls := .type (clsk k), data := .fields #[.ref a, .int 0 0] } Hb ∧ Hb s.heap := by
  cases k with
  | true =>
    obtain ⟨its, rv, p, _⟩ := I.list (show SqL X.K H a xs from h)
    exact ⟨its, rv, p.lt, fun A it hh hne => ⟨_, Draws.list hh it a hne its.toArray, fun i z => ⟨z, p.isList⟩, fun i h z => z.1⟩, _, begins_list a its.toArray, p.isList⟩
  | false =>
    obtain ⟨its, rv, p, _⟩ := I.tuple (show SqT X.K H a xs from h)
    have p : s.heap.IsTuple a its.toArray := p
    obtain ⟨o, ho, _⟩ := id p
    exact ⟨its, rv, Heap.lt_size ho, fun A it hh hne => ⟨_, Draws.tuple hh it a hne its.toArray, fun i z => ⟨z, p⟩, fun i h z => z.1⟩, _, begins_tuple a its.toArray, p⟩
theorem sqk_same {K : PySem.W.Frag} {H H' : Hp} {k : Bool} {a : Addr} {xs : List V} (e : ∀ o, H a = some o → H' a = some o) (h : sqk K H k a xs) : sqk K H' k a xs := by
  cases k with
  | true =>
    rcases (show SqL K H a xs from h) with h | h
    · rcases h with h | ⟨o, h⟩
      · exact .inl (.inl (e _ h))
      · exact .inl (.inr ⟨o, e _ h⟩)
    · exact .inr h
  | false =>
    rcases (show SqT K H a xs from h) with h | h
    · rcases h with h | ⟨o, h⟩
      · exact .inl (.inl (e _ h))
      · exact .inl (.inr ⟨o, e _ h⟩)
    · exact .inr h
/-- the pairs laid so far -/
def Prs (H : Hp) (xs ys : List V) (Ts : List Addr) : Prop := ∀ (j : Nat) (T : Addr), Ts[j]? = some T → ∃ x y, xs[j]? = some x ∧ ys[j]? = some y ∧ H T = some (.tup [x, y])
theorem lz_loop {X : Cx} {pins : List (Addr × Obj)} {σ : L2.St} {k1 k2 : Bool} {a b z TI TO i1 i2 S : Addr} {xs ys : List V} {A : Around} {R : Result → Shared → Prop} {res : Value} (hh : A.handled = none) (Sp : ZipSep2 z TI TO i1 i2 [i1, a] [i2, b]) (nS : S ∉ [z, TI, TO, i1, i2]) (nSa : S ≠ a) (nSb : S ≠ b) (na : a ≠ i1) (nb : b ≠ i2) (nTI : TI ∉ [z, TO, i1, i2])
    (hn : min xs.length ys.length < sizeLine) : ∀ (k i : Nat) (s : Shared) (H : Hp) (Ts : List Addr), min xs.length ys.length - i = k → i ≤ min xs.length ys.length → Inv X pins σ H s → (∀ c ∈ [z, TI, TO, i1, i2], FpOk X pins H c) → sqk X.K H k1 a xs → sqk X.K H k2 b ys → Ts.length = i → Prs H xs ys Ts → H S = some (.lst (Ts.map V.ref)) →
      IsTupOf2 s.heap TI (.ref i1) (.ref i2) → (∃ u v, IsTupOf2 s.heap TO u v) → itr k1 s.heap i1 a i → itr k2 s.heap i2 b i → (IsZip s.heap z TI TO .none ∨ ∃ T f oT, IsZipHeld s.heap z TI TO T f ∧ s.heap.get? T = some oT ∧ T ∉ [z, TO, i1, i2, S]) →
      (∀ s' H' Ts', Inv X pins σ H' s' → (∀ c o, c ≠ S → H c = some o → H' c = some o) → Ts'.length = min xs.length ys.length → Prs H' xs ys Ts' → H' S = some (.lst (Ts'.map V.ref)) → R (.ok (.ret res)) s') →
      codeAny (model X.prog X.w) A (.builtin "list.extend.loop" ⟨[.ref S, .ref z, res], []⟩) R s := by
  intro k
  induction k with
  | zero =>
    intro i s H Ts hk hi I hf qa qb hl hp hS tI tO u1 u2 hz hR
    obtain ⟨ia, ra, la, da, _⟩ := draws_of I k1 qa
    obtain ⟨ib, rb, lb, db, _⟩ := draws_of I k2 qb
    obtain ⟨S1, D1, f1, g1⟩ := da A.in1.in1 i1 hh na
    obtain ⟨S2, D2, f2, g2⟩ := db A.in1.in1 i2 hh nb
    have ea : ia.toArray.size = xs.length := by rw [List.size_toArray, ← ra.length]
    have eb : ib.toArray.size = ys.length := by rw [List.size_toArray, ← rb.length]
    refine codeAny_builtin F.entry_extend_loop ?_
    rw [Around.under_plainId F.plain_extend_loop _]
    show wpAny _ A.in1 (pyNext (.ref z) >>= _) _ _ s
    have fin : ∀ h' tk, (∀ c o, c ∉ [z, TI, TO, i1, i2] → s.heap.get? c = some o → h'.get? c = some o) → R (.ok (.ret res)) { s with heap := h', toks := tk } := fun h' tk kp => hR _ H Ts (I.turnedL (t' := tk) kp hf) (fun c o _ e => e) (by omega) hp hS
    refine wpAny_bind ?_
    rcases hz with hz | ⟨T, f, oT, hz, hT, nT⟩
    · obtain ⟨v1, v2, tO⟩ := tO
      exact wpAny_pyNext_zipD2_end Sp D1 D2 hz tI tO (f1 i u1) (f2 i u2) (by omega) (by omega) (by omega) fun h' tk kp => wpAny_pure (fin h' tk fun c o nc e => kp c o (fun q => nc (by simp [q])) (fun q => nc (by simp [q])) (fun q => nc (by simp [q])) (fun q => nc (by simp [q])) e)
    · exact held_end Sp D1 D2 hz hT tI (f1 i u1) (f2 i u2) (by omega) (by omega) (by omega) fun h' tk kp => wpAny_pure (fin h' tk fun c o nc e => kp c o (fun q => nc (by simp [q])) (fun q => nc (by simp [q])) (fun q => nc (by simp [q])) e)
  | succ k ih =>
    intro i s H Ts hk hi I hf qa qb hl hp hS tI tO u1 u2 hz hR
    obtain ⟨ia, ra, la, da, _⟩ := draws_of I k1 qa
    obtain ⟨ib, rb, lb, db, _⟩ := draws_of I k2 qb
    obtain ⟨S1, D1, f1, g1⟩ := da A.in1.in1 i1 hh na
    obtain ⟨S2, D2, f2, g2⟩ := db A.in1.in1 i2 hh nb
    have ea : ia.toArray.size = xs.length := by rw [List.size_toArray, ← ra.length]
    have eb : ib.toArray.size = ys.length := by rw [List.size_toArray, ← rb.length]
    refine codeAny_builtin F.entry_extend_loop ?_
    rw [Around.under_plainId F.plain_extend_loop _]
    show wpAny _ A.in1 (pyNext (.ref z) >>= _) _ _ s
    have lS : S < s.heap.objs.size := by
      obtain ⟨_, its, n, _, _, e⟩ := I.lstM hS
      exact Heap.lt_size e
    have go : ∀ x1 x2 h' tk, ia.toArray[i]? = some x1 → ib.toArray[i]? = some x2 → S1 (i + 1) h' → S2 (i + 1) h' → (∃ u v, IsTupOf2 h' TO u v) → (∃ T f oT, IsZipHeld h' z TI TO T f ∧ h'.get? T = some oT ∧ T ∉ [z, TO, i1, i2, S]) → IsTupOf2 h' s.heap.objs.size x1 x2 → (∀ c o, c ∉ [z, TO, i1, i2] → s.heap.get? c = some o → h'.get? c = some o) →
        wpAny (model X.prog X.w) A.in1 (updateSeq S (·.push (.ref s.heap.objs.size)) >>= fun _ => again (.builtin "list.extend.loop" ⟨[.ref S, .ref z, res], []⟩)) (fun fin s' => match fin with | .done f => R (.ok f) s' | .again c' => c'.quiet = true ∧ codeAny (model X.prog X.w) A c' R s') (fun e s' => R (.error e) s') { s with heap := h', toks := tk } := by
      intro x1 x2 h' tk e1 e2 w1 w2 wO wz wT kp
      obtain ⟨x, hx, rx⟩ : ∃ x, xs[i]? = some x ∧ RelV x x1 := by
        have : i < xs.length := by omega
        obtain ⟨u, hu, ru⟩ := ra.get (List.getElem?_eq_getElem this)
        have : some u = some x1 := by rw [← hu, ← e1]; simp
        cases this
        exact ⟨_, List.getElem?_eq_getElem _, ru⟩
      obtain ⟨y, hy, ry⟩ : ∃ y, ys[i]? = some y ∧ RelV y x2 := by
        have : i < ys.length := by omega
        obtain ⟨u, hu, ru⟩ := rb.get (List.getElem?_eq_getElem this)
        have : some u = some x2 := by rw [← hu, ← e2]; simp
        cases this
        exact ⟨_, List.getElem?_eq_getElem _, ru⟩
      have frT : H s.heap.objs.size = none := I.hok.fresh (Nat.le_refl _)
      have ob : ObjOk X.prog X.w (upd H s.heap.objs.size (.tup [x, y])) h' s.heap.objs.size (.tup [x, y]) := ⟨by show 2 ≤ sizeLine; decide, [x1, x2], .cons rx (.cons ry .nil), ⟨_, wT, rfl, _, rfl⟩⟩
      have J := I.turnedNew (t' := tk) (ch := [z, TI, TO, i1, i2]) (fun c o nc e => kp c o (fun q => nc (by simp at q ⊢; rcases q with q | q | q | q <;> simp [q])) e) hf (Nat.le_refl _) ob
      have hS2 : (upd H s.heap.objs.size (.tup [x, y])) S = some (.lst (Ts.map V.ref)) := by rw [upd_ne (Nat.ne_of_lt lS)]; exact hS
      obtain ⟨_, its, n, rv, el, eS⟩ := J.lstM hS2
      have sz : its.toArray.size = i := by rw [List.size_toArray, ← el, List.length_map]; exact hl
      refine wpAny_bind (wpAny_updateSeq eS rfl (wpAny_pure ⟨plainId_quiet F.plain_extend_loop _, ?_⟩) (by omega) (by rw [Array.size_push]; omega))
      have J2 := J.lset (f := (·.push (.ref s.heap.objs.size))) (its' := its ++ [.ref s.heap.objs.size]) (ys := (Ts ++ [s.heap.objs.size]).map V.ref) (t' := tk) hS2 eS (by simp) (by rw [List.map_append]; exact rv.append (.cons rfl .nil)) (by simp; omega)
      have oth : ∀ c o, c ≠ S → h'.get? c = some o → (h'.update S (Obj.mapSeq (·.push (.ref s.heap.objs.size)))).get? c = some o := fun c o nc e => (Heap.get?_update_other _ _ (Ne.symm nc)).trans e
      have nS' : ∀ c ∈ [z, TI, TO, i1, i2], c ≠ S := fun c hc q => nS (by rw [← q]; exact hc)
      have neT : ∀ c ∈ [z, TI, TO, i1, i2], c ≠ s.heap.objs.size := fun c hc q => by
        have fo := hf c hc
        have : ∃ o, s.heap.get? c = some o := by
          have hc' : c = z ∨ c = TI ∨ c = TO ∨ c = i1 ∨ c = i2 := by simpa using hc
          rcases hc' with q | q | q | q | q
          · subst q
            rcases hz with hz | ⟨_, _, _, hz, _⟩
            · exact ⟨_, hz⟩
            · exact ⟨_, hz⟩
          · subst q; exact ⟨_, tI⟩
          · subst q; obtain ⟨_, _, t⟩ := tO; exact ⟨_, t⟩
          · subst q; exact D1.live i _ (f1 i u1)
          · subst q; exact D2.live i _ (f2 i u2)
        obtain ⟨o, ho⟩ := this
        exact absurd (Heap.lt_size ho) (by rw [q]; exact Nat.lt_irrefl _)
      refine ih (i + 1) _ _ (Ts ++ [s.heap.objs.size]) (by omega) (by omega) J2 (fun c hc => ?_) (sqk_same (fun o e => ?_) qa) (sqk_same (fun o e => ?_) qb) (by simp [hl]) (fun j T hj => ?_) upd_same ?_ ?_ ?_ ?_ ?_ (fun s' H' Ts' J' kH l' p' S' => hR s' H' Ts' J' (fun c o nc e => kH c o nc ?_) l' p' S')
      · obtain ⟨q0, q1⟩ := hf c hc
        exact ⟨by rw [upd_ne (nS' c hc), upd_ne (neT c hc)]; exact q0, q1⟩
      · rw [upd_ne (Ne.symm nSa), upd_ne (fun q => absurd la (by rw [q]; exact Nat.lt_irrefl _))]; exact e
      · rw [upd_ne (Ne.symm nSb), upd_ne (fun q => absurd lb (by rw [q]; exact Nat.lt_irrefl _))]; exact e
      · by_cases q : j < Ts.length
        · rw [List.getElem?_append_left q] at hj
          obtain ⟨x', y', c1, c2, c3⟩ := hp j T hj
          refine ⟨x', y', c1, c2, ?_⟩
          rw [upd_ne (fun q => by subst q; rw [hS] at c3; cases c3), upd_ne (ne_of_none c3 frT)]
          exact c3
        · have q2 : j = Ts.length := by
            have := (List.getElem?_eq_some_iff.mp hj).1
            simp at this
            omega
          subst q2
          rw [List.getElem?_append_right (Nat.le_refl _), Nat.sub_self] at hj
          cases hj
          rw [hl]
          refine ⟨x, y, hx, hy, ?_⟩
          rw [upd_ne (Nat.ne_of_gt lS), upd_same]
      · exact oth _ _ (nS' TI (by simp)) (kp _ _ nTI tI)
      · obtain ⟨u, v, t⟩ := wO
        exact ⟨u, v, oth _ _ (nS' TO (by simp)) t⟩
      · exact g1 _ _ (D1.frame _ _ _ w1 fun c hc o e => oth c o (fun q => by
          have hc' : c = i1 ∨ c = a := by simpa using hc
          rcases hc' with h | h
          · exact nS' c (by simp [h]) q
          · exact nSa (by rw [← q, h])) e)
      · exact g2 _ _ (D2.frame _ _ _ w2 fun c hc o e => oth c o (fun q => by
          have hc' : c = i2 ∨ c = b := by simpa using hc
          rcases hc' with h | h
          · exact nS' c (by simp [h]) q
          · exact nSb (by rw [← q, h])) e)
      · obtain ⟨T, f, oT, t1, t2, t3⟩ := wz
        exact .inr ⟨T, f, oT, oth _ _ (nS' z (by simp)) t1, oth _ _ (fun q => t3 (by simp [q])) t2, t3⟩
      · rw [upd_ne nc, upd_ne (ne_of_none e frT)]
        exact e
    refine wpAny_bind ?_
    rcases hz with hz | ⟨T, f, oT, hz, hT, nT⟩
    · obtain ⟨v1, v2, tO⟩ := tO
      refine wpAny_pyNext_zipD2_item Sp D1 D2 hz tI tO (f1 i u1) (f2 i u2) (by omega) (by omega) fun x1 x2 h' tk p1 p2 z' tO' w1 w2 wT sz kp => go x1 x2 h' tk p1 p2 w1 w2 ⟨_, _, tO'⟩ ⟨s.heap.objs.size, false, _, z', wT, ?_⟩ wT fun c o nc e => kp c o (fun q => nc (by simp [q])) (fun q => nc (by simp [q])) (fun q => nc (by simp [q])) (fun q => nc (by simp [q])) e
      simp only [List.mem_cons, List.not_mem_nil, or_false, not_or]
      refine ⟨Nat.ne_of_gt (Heap.lt_size hz), Nat.ne_of_gt (Heap.lt_size tO), ?_, ?_, Nat.ne_of_gt lS⟩
      · obtain ⟨o, ho⟩ := D1.live i _ (f1 i u1)
        exact Nat.ne_of_gt (Heap.lt_size ho)
      · obtain ⟨o, ho⟩ := D2.live i _ (f2 i u2)
        exact Nat.ne_of_gt (Heap.lt_size ho)
    · obtain ⟨v1, v2, tO⟩ := tO
      simp only [List.mem_cons, List.not_mem_nil, or_false, not_or] at nT
      refine held_item Sp D1 D2 hz hT tI (f1 i u1) (f2 i u2) (by omega) (by omega) fun x1 x2 h' tk p1 p2 z' w1 w2 wT kp => go x1 x2 h' tk p1 p2 w1 w2 ⟨_, _, kp _ _ Sp.TOz Sp.Ti1 Sp.Ti2 tO⟩ ⟨T, true, oT, z', kp _ _ nT.1 nT.2.2.1 nT.2.2.2.1 hT, by simp [nT]⟩ wT fun c o nc e => kp c o (fun q => nc (by simp [q])) (fun q => nc (by simp [q])) (fun q => nc (by simp [q])) e
theorem zip_nolen : typeLookup (.type "zip") "__len__" = pure none := by rw [typeLookup_type, builtinLookup_eq_fast]; kernel_rfl
theorem zip_nohint : typeLookup (.type "zip") "__length_hint__" = pure none := by rw [typeLookup_type, builtinLookup_eq_fast]; kernel_rfl
section
variable {X : Cx} {pins : List (Addr × Obj)} {σ : L2.St} {H : Hp} {s : Shared} {k1 k2 : Bool} {a b z TI TO i1 i2 : Addr} {xs ys : List V}
theorem call_list_zip {A : Around} {E : Value → Shared → Prop} {Q : Value → Shared → Prop} (hh : A.handled = none) (I : Inv X pins σ H s) (hf : ∀ c ∈ [z, TI, TO, i1, i2], FpOk X pins H c) (Sp : ZipSep2 z TI TO i1 i2 [i1, a] [i2, b]) (na : a ≠ i1) (nb : b ≠ i2) (nTI : TI ∉ [z, TO, i1, i2]) (hn : min xs.length ys.length < sizeLine)
    (qa : sqk X.K H k1 a xs) (qb : sqk X.K H k2 b ys) (hz : IsZip s.heap z TI TO .none) (tI : IsTupOf2 s.heap TI (.ref i1) (.ref i2)) (tO : IsTupOf2 s.heap TO .none .none) (u1 : itr k1 s.heap i1 a 0) (u2 : itr k2 s.heap i2 b 0) (la : a < s.heap.objs.size) (lb : b < s.heap.objs.size) (l1 : i1 < s.heap.objs.size) (l2 : i2 < s.heap.objs.size)
    (hQ : ∀ s' H' Ts', Inv X pins σ H' s' → Same H H' → Ts'.length = min xs.length ys.length → Prs H' xs ys Ts' → H' s.heap.objs.size = some (.lst (Ts'.map V.ref)) → Q (.ref s.heap.objs.size) s') : wpAny (model X.prog X.w) A (call (.type "list") [.ref z]) Q E s := by
  have lz := Heap.lt_size hz
  have lI := Heap.lt_size tI
  have lO := Heap.lt_size tO
  have fr : H s.heap.objs.size = none := I.hok.fresh (Nat.le_refl _)
  refine callType_codes (Q₁ := fun obj s₁ => obj = .ref s.heap.objs.size ∧ s₁ = { s with heap := s.heap.push nilL }) PySem.F.called_list (PySem.F.typeCall_list_1 _) PySem.F.entry_list_init (code_list_new _ ⟨rfl, rfl⟩) fun obj s₁ h₁ => ?_
  obtain ⟨rfl, rfl⟩ := h₁
  have hS : (s.heap.push nilL).get? s.heap.objs.size = some nilL := Heap.get?_push_size _ rfl
  have J : Inv X pins σ (upd H s.heap.objs.size (.lst [])) { s with heap := s.heap.push nilL } := I.lnew (t' := s.toks) (its := []) .nil (Nat.zero_le _)
  refine ⟨⟨_, hS, rfl⟩, PySem.F.args_list_init_2 _ _, ?_⟩
  show wpAny _ _ (do let old ← Builtin.List.listItems (.ref s.heap.objs.size); Builtin.List.listUpdate (.ref s.heap.objs.size) (fun _ => #[]); letGo old.toList.reverse; Builtin.List.listExtendWith (.ref s.heap.objs.size) (.ref z) .none) _ _ _
  refine wpAny_bind ?_
  unfold Builtin.List.listItems
  refine wpAny_bind <| wpAny_seqItems hS rfl <| wpAny_pure ?_
  show wpAny _ _ (updateSeq s.heap.objs.size (fun _ => #[]) >>= fun _ => letGo (#[] : Array Value).toList.reverse >>= fun _ => Builtin.List.listExtendWith (.ref s.heap.objs.size) (.ref z) .none) _ _ _
  refine wpAny_bind <| wpAny_updateSeq hS rfl ?_
  have hS2 := Heap.get?_update_self (Obj.mapSeq (fun _ => (#[] : Array Value))) hS rfl
  have J2 := J.lset (f := fun _ => (#[] : Array Value)) (its := []) (its' := []) (ys := []) (t' := s.toks) upd_same hS rfl .nil (Nat.zero_le _)
  have up : ∀ c o, c < s.heap.objs.size → s.heap.get? c = some o → ((s.heap.push nilL).update s.heap.objs.size (Obj.mapSeq (fun _ => (#[] : Array Value)))).get? c = some o := fun c o hc e => (Heap.get?_update_other _ _ (Nat.ne_of_gt hc)).trans (Heap.get?_push_of_some _ e)
  refine wpAny_bind <| wpAny_letGo ?_
  generalize (s.heap.push nilL).update s.heap.objs.size (Obj.mapSeq (fun _ => (#[] : Array Value))) = h2 at hS2 J2 up
  have hz2 := up _ _ lz hz
  have ty : ({ s with heap := h2 } : Shared).TypeIs (.ref z) "zip" := ⟨_, hz2, rfl⟩
  have nS : Builtin.List.listSameRef (.ref s.heap.objs.size) (.ref z) = false := by
    simp [Builtin.List.listSameRef, Nat.ne_of_gt lz]
  unfold Builtin.List.listExtendWith
  refine wpAny_bind <| wpAny_typeOf ty ?_
  rw [if_neg <| by rw [nS]; decide]
  refine wpAny_bind <| wpAny_pyIter_zip hz2 ?_
  refine wpAny_bind <| wpAny_holding ?_
  unfold Builtin.List.listLengthHint
  refine wpAny_bind <| wpAny_specialOf ty zip_nolen ?_
  show wpAny _ _ (specialOf (Value.ref z) (Str.ofString "__length_hint__") >>= _) _ _ _
  refine wpAny_bind <| wpAny_specialOf ty zip_nohint ?_
  refine wpAny_pure ?_
  rw [if_pos <| by rfl]
  refine wpAny_bind (wpAny_rule ?_)
  unfold Builtin.List.listTouch
  refine wpAny_bind ?_
  show wpAny _ _ (updateSeq s.heap.objs.size (·.push .none) >>= fun _ => updateSeq s.heap.objs.size (·.pop)) _ _ _
  refine wpAny_bind <| wpAny_updateSeq hS2 rfl ?_
  have hS3 := Heap.get?_update_self (Obj.mapSeq (fun v : Array Value => v.push .none)) hS2 rfl
  have J3 := J2.lset (f := fun v : Array Value => v.push .none) (its := []) (its' := [.none]) (ys := [.non]) (t' := s.toks) upd_same hS2 rfl (.cons rfl .nil) (by show 1 ≤ sizeLine; decide)
  have up3 : ∀ c o, c < s.heap.objs.size → s.heap.get? c = some o → (h2.update s.heap.objs.size (Obj.mapSeq (fun v : Array Value => v.push .none))).get? c = some o := fun c o hc e => (Heap.get?_update_other _ _ (Nat.ne_of_gt hc)).trans (up c o hc e)
  generalize h2.update s.heap.objs.size (Obj.mapSeq (fun v : Array Value => v.push .none)) = h3 at hS3 J3 up3
  refine wpAny_updateSeq hS3 rfl ?_
  have J4 := J3.lset (f := fun v : Array Value => v.pop) (its := [.none]) (its' := []) (ys := []) (t' := s.toks) upd_same hS3 rfl .nil (Nat.zero_le _)
  have up4 : ∀ c o, c < s.heap.objs.size → s.heap.get? c = some o → (h3.update s.heap.objs.size (Obj.mapSeq (fun v : Array Value => v.pop))).get? c = some o := fun c o hc e => (Heap.get?_update_other _ _ (Nat.ne_of_gt hc)).trans (up3 c o hc e)
  generalize h3.update s.heap.objs.size (Obj.mapSeq (fun v : Array Value => v.pop)) = h4 at J4 up4
  have eH : upd (upd (upd (upd H s.heap.objs.size (.lst [])) s.heap.objs.size (.lst [])) s.heap.objs.size (.lst [.non])) s.heap.objs.size (.lst []) = upd H s.heap.objs.size (.lst []) := by
    funext c
    by_cases e : c = s.heap.objs.size
    · rw [e, upd_same, upd_same]
    · simp only [upd_ne e]
  rw [eH] at J4
  refine wpAny_pure ⟨plainId_quiet F.plain_extend_loop _, lz_loop (A := A.in1) (S := s.heap.objs.size) (k1 := k1) (k2 := k2) (a := a) (b := b) (TI := TI) (TO := TO) (i1 := i1) (i2 := i2) (xs := xs) (ys := ys) hh Sp ?_ (Nat.ne_of_gt la) (Nat.ne_of_gt lb) na nb nTI hn _ 0 _ (upd H s.heap.objs.size (.lst [])) [] rfl (Nat.zero_le _) J4 ?_ ?_ ?_ rfl ?_ upd_same ?_ ?_ ?_ ?_ (.inl ?_) fun s' H' Ts' K1 K2 K3 K4 K5 => ⟨rfl, ?_⟩⟩
  · simp only [List.mem_cons, List.not_mem_nil, or_false, not_or]
    exact ⟨Nat.ne_of_gt lz, Nat.ne_of_gt lI, Nat.ne_of_gt lO, Nat.ne_of_gt l1, Nat.ne_of_gt l2⟩
  · intro c hc
    obtain ⟨q0, q1⟩ := hf c hc
    refine ⟨?_, q1⟩
    rw [upd_ne (fun q => ?_)]
    · exact q0
    · have hc' : c = z ∨ c = TI ∨ c = TO ∨ c = i1 ∨ c = i2 := by simpa using hc
      rcases hc' with w | w | w | w | w <;> (rw [w] at q; first | exact absurd lz (by rw [q]; exact Nat.lt_irrefl _) | exact absurd lI (by rw [q]; exact Nat.lt_irrefl _) | exact absurd lO (by rw [q]; exact Nat.lt_irrefl _) | exact absurd l1 (by rw [q]; exact Nat.lt_irrefl _) | exact absurd l2 (by rw [q]; exact Nat.lt_irrefl _))
  · exact sqk_same (fun o e => by rw [upd_ne (Nat.ne_of_lt la)]; exact e) qa
  · exact sqk_same (fun o e => by rw [upd_ne (Nat.ne_of_lt lb)]; exact e) qb
  · intro j T hj
    simp at hj
  · exact up4 _ _ lI tI
  · exact ⟨_, _, up4 _ _ lO tO⟩
  · cases k1 with
    | true => exact Heap.IsListIter.at (show s.heap.IsListIter i1 a 0 from u1) fun o e => up4 _ _ l1 e
    | false => exact Heap.IsTupleIter.at (show s.heap.IsTupleIter i1 a 0 from u1) fun o e => up4 _ _ l1 e
  · cases k2 with
    | true => exact Heap.IsListIter.at (show s.heap.IsListIter i2 b 0 from u2) fun o e => up4 _ _ l2 e
    | false => exact Heap.IsTupleIter.at (show s.heap.IsTupleIter i2 b 0 from u2) fun o e => up4 _ _ l2 e
  · exact up4 _ _ lz hz
  · exact hQ s' H' Ts' K1 (fun c o e => K2 c o (ne_of_none e fr) (by rw [upd_ne (ne_of_none e fr)]; exact e)) K3 K4 K5
end
/-- list(zip(e, e2)) -/
def tListZip (K : PySem.W.Frag) (ta : TA) : TE := fun σ H Q => ta σ H fun vs H1 => ∃ (a b : Addr) (k1 k2 : Bool) (xs ys : List V), vs = [.ref a, .ref b] ∧ sqk K H1 k1 a xs ∧ sqk K H1 k2 b ys ∧ min xs.length ys.length < sizeLine ∧
  ∀ H2 Ts S, Same H1 H2 → H1 S = none → Ts.length = min xs.length ys.length → Prs H2 xs ys Ts → H2 S = some (.lst (Ts.map V.ref)) → Q (.ref S) H2
theorem pe_listZip {X : Cx} {e e2 : Expr} {ta : TA} {p p2 pos pos2 : Pos} (K : PySem.W.Frag) (hK : X.K = K) (hc : X.calm = true) (hg : Gl X "list") (hm : X.mg "list" = none) (hg2 : Gl X "zip") (hm2 : X.mg "zip" = none) (ha : PA X [e, e2] ta)
    (h1 : starEach [e, e2] X.env = (false, eval e X.env) :: starEach [e2] X.env := by rfl) (h2 : (backTo pos2 (starEach [e2] X.env)).any (·.1) = false := by rfl)
    (h3 : starEach [.Call (.Name "zip" p2) [e, e2] [] pos2] X.env = (false, eval (.Call (.Name "zip" p2) [e, e2] [] pos2) X.env) :: starEach [] X.env := by rfl) :
    PE X (.Call (.Name "list" p) [.Call (.Name "zip" p2) [e, e2] [] pos2] [] pos) (tListZip K ta) := by
  subst hK
  refine ⟨fun pins s σ H Q I h => ?_⟩
  refine Call_ (ld_blt I hg hm boot_list (callWith_type1 (args_cons (Call_ (ld_blt I hg2 hm2 PyProof.Rows.boot_zip (callWith_type1 (thn (ha.run pos2 pins s σ H _ I h) fun us s1 ⟨vs, H1, I1, r1, q1⟩ => ?_) h1 h2))) h3) h3 rfl))
  obtain ⟨a, b, k1, k2, xs, ys, ev, qa, qb, hn, q⟩ := q1
  subst ev
  cases r1 with
  | cons ra rr =>
    cases rr with
    | cons rb rr =>
      cases rr
      cases ra
      cases rb
      obtain ⟨ia, va, la, _, Ba, b1, b2⟩ := draws_of I1 k1 qa
      obtain ⟨ib, vb, lb, _, Bb, b3, b4⟩ := draws_of I1 k2 qb
      refine zip_begins2 b1 b3 b2 b4 fun h' hz tI tO o1 o2 sz kp => args_nil ?_
      have J : Inv X pins σ H1 { s1 with heap := h' } := I1.kept (t' := s1.toks) kp
      have Sp : ZipSep2 (s1.heap.objs.size + 4) (s1.heap.objs.size + 2) (s1.heap.objs.size + 3) s1.heap.objs.size (s1.heap.objs.size + 1) [s1.heap.objs.size, a] [s1.heap.objs.size + 1, b] := zip_sep2 (fp1 := [a]) (fp2 := [b]) (fun c w => by rw [List.mem_singleton.mp w]; exact la) (fun c w => by rw [List.mem_singleton.mp w]; exact lb)
      have up : ∀ j, s1.heap.objs.size ≤ s1.heap.objs.size + j := fun j => Nat.le_add_right _ _
      have it1 : itr k1 h' s1.heap.objs.size a 0 := by cases k1 <;> exact ⟨_, o1, rfl, rfl⟩
      have it2 : itr k2 h' (s1.heap.objs.size + 1) b 0 := by cases k2 <;> exact ⟨_, o2, rfl, rfl⟩
      have ez : (({ s1 with heap := h' } : Shared).heap.objs.size : Nat) = s1.heap.objs.size + 5 := sz
      refine call_list_zip (s := { s1 with heap := h' }) (k1 := k1) (k2 := k2) (I1.ok.hd hc) J (fun c w => ?_) Sp (Nat.ne_of_lt la) (Nat.ne_of_lt (Nat.lt_succ_of_lt lb)) ?_ hn qa qb hz tI tO it1 it2 ?_ ?_ ?_ ?_ fun s' H' Ts' K1 K2 K3 K4 K5 => ⟨.ref _, H', K1, rfl, q H' Ts' _ K2 ?_ K3 K4 K5⟩
      · have w' : c = s1.heap.objs.size + 4 ∨ c = s1.heap.objs.size + 2 ∨ c = s1.heap.objs.size + 3 ∨ c = s1.heap.objs.size + 0 ∨ c = s1.heap.objs.size + 1 := by simpa using w
        have hle : s1.heap.objs.size ≤ c := by rcases w' with w | w | w | w | w <;> (rw [w]; exact up _)
        exact I1.fpOk hle (I1.hok.fresh hle)
      · simp
      · rw [ez]; exact Nat.lt_of_lt_of_le la (up 5)
      · rw [ez]; exact Nat.lt_of_lt_of_le lb (up 5)
      · rw [ez]; exact Nat.lt_add_of_pos_right (by decide)
      · rw [ez]; exact Nat.add_lt_add_left (by decide) _
      · exact I1.hok.fresh (by rw [ez]; exact up 5)
/-! for a, b in zip(text, list) -/
def Itsl (K : PySem.W.Frag) (x : Str) (b : Addr) : It where
  go i H := ∃ (ys : List V) (y : V), SqL K H b ys ∧ i < x.cps.size ∧ ys[i]? = some y
  yld i H v H' := ∃ T c y, v = .ref T ∧ H T = none ∧ H' = upd H T (.tup [.str ⟨#[c]⟩, y]) ∧ x.cps[i]? = some c ∧ ∀ ys, SqL K H b ys → ys[i]? = some y
  stop i H := ∃ ys : List V, SqL K H b ys ∧ i = min x.cps.size ys.length
def ZSt (z TI TO i1 i2 b : Addr) (x : Str) (t : Tok) (i : Nat) (h : Heap) : Prop := IsZip h z TI TO .none ∧ IsTupOf2 h TI (.ref i1) (.ref i2) ∧ (∃ u v, IsTupOf2 h TO u v) ∧ h.IsStrIter i1 (strIterType x) x t i ∧ h.IsListIter i2 b i
theorem turn_sl {P : Program} {w : World} {K : PySem.W.Frag} {elts : List Expr} {kk : Nat} {tpos : Pos} {b z TI TO i1 i2 : Addr} {x : Str} {t : Tok} (S : ZipSep2 z TI TO i1 i2 [i1] [i2, b]) (hb : b ≠ i2) : Turn P w K (.Tuple elts kk tpos) (Itsl K x b) [z, TI, TO, i1, i2] z (ZSt z TI TO i1 i2 b x t) := by
  have go : ∀ (A : Around) (ia : Array Value), A.handled = none → GoesN P w A (.Tuple elts kk tpos) z _ _ _ _ _ := fun A ia hh => GoesN.zip2 (elts := elts) (x1 := kk) (pos := tpos) S (Draws.text (A := A.in1) hh i1 x t) (Draws.list (A := A.in1) hh i2 b hb ia)
  have sub : ∀ c, c ∉ [z, TI, TO, i1, i2] → c ∉ [z, TO, i1, i2] := fun c n q => n (by
    simp only [List.mem_cons, List.not_mem_nil, or_false] at q ⊢
    rcases q with q | q | q | q <;> simp [q])
  refine ⟨by simp, ?_, ?_, ?_, ?_, ?_⟩
  · rintro i h ⟨a1, a2, ⟨_, _, a3⟩, ⟨p1, a4, _, e4⟩, ⟨p2, a5, _, e5⟩⟩ c hc
    simp only [List.mem_cons, List.not_mem_nil, or_false] at hc
    rcases hc with e | e | e | e | e <;> subst e
    · exact ⟨_, a1, fun v q => by cases q⟩
    · exact ⟨_, a2, fun v q => by cases q⟩
    · exact ⟨_, a3, fun v q => by cases q⟩
    · exact ⟨p1, a4, fun v q => by rw [e4] at q; cases q⟩
    · exact ⟨p2, a5, fun v q => by rw [e5] at q; cases q⟩
  · rintro i h h' ⟨a1, a2, ⟨u, v, a3⟩, ⟨p1, a4, r4⟩, a5⟩ k
    exact ⟨k z (by simp) _ a1, k TI (by simp) _ a2, ⟨u, v, k TO (by simp) _ a3⟩, ⟨p1, k i1 (by simp) _ a4, r4⟩, a5.at fun o e => k i2 (by simp) o e⟩
  · rintro X rfl rfl rfl hc i pins s σ H E I hf ⟨a1, a2, a3, a4, a5⟩ ⟨ys, y, qy, l1, hy⟩
    obtain ⟨its, rv, pl, _⟩ := I.list qy
    have ly : i < its.toArray.size := by
      rw [List.size_toArray, ← rv.length]
      exact (List.getElem?_eq_some_iff.mp hy).1
    refine (go X.A its.toArray (I.ok.hd hc)).goes i s (fun u s2 => ∃ x_1 H', Inv X pins σ H' s2 ∧ RelV x_1 u ∧ (Itsl X.K x b).yld i H x_1 H' ∧ ZSt z TI TO i1 i2 b x t (i + 1) s2.heap ∧ ∀ b ∈ [z, TI, TO, i1, i2], H' b = none) E (by omega) ⟨a1, a2, a3, a4, a5, pl.isList⟩ ?_
    rintro v h' tk ⟨T, x1, x2, rfl, nT, ⟨c, u, hcx, rfl⟩, p2, ⟨oT, gT, cT, dT⟩⟩ ⟨z1, z2, z3, z4, z5, _⟩ kp _
    obtain ⟨u2, hu2, ru2⟩ := rv.get hy
    have e2 : u2 = x2 := by
      have : some u2 = some x2 := by rw [← hu2, ← p2]; simp
      cases this
      rfl
    subst e2
    have J := I.turnedNew (t' := tk) (h' := h') (ob := .tup [.str ⟨#[c]⟩, y]) (fun c o n e => kp c o (sub c n) e) hf nT ⟨by show 2 ≤ sizeLine; decide, [_, _], .cons ⟨u, rfl⟩ (.cons ru2 .nil), ⟨oT, gT, cT, dT⟩⟩
    refine ⟨.ref T, _, J, rfl, ⟨T, c, y, rfl, I.hok.fresh nT, rfl, hcx, fun l hl => by rw [I.list_inj hl qy]; exact hy⟩, ⟨z1, z2, z3, z4, z5⟩, fun c hcm => ?_⟩
    rw [upd_ne (fun q => ?_)]
    · exact (hf c hcm).1
    · have lt : c < s.heap.objs.size := by
        simp only [List.mem_cons, List.not_mem_nil, or_false] at hcm
        rcases hcm with e | e | e | e | e <;> subst e
        · exact Heap.lt_size a1
        · exact Heap.lt_size a2
        · obtain ⟨_, _, a3⟩ := a3; exact Heap.lt_size a3
        · obtain ⟨_, e, _⟩ := a4; exact Heap.lt_size e
        · obtain ⟨_, e, _⟩ := a5; exact Heap.lt_size e
      exact absurd (Nat.lt_of_lt_of_le lt nT) (by rw [q]; exact Nat.lt_irrefl _)
  · rintro X rfl rfl rfl hc i pins s σ H E I hf ⟨a1, a2, a3, a4, a5⟩ ⟨ys, qy, hi⟩
    obtain ⟨its, rv, pl, _⟩ := I.list qy
    have ei : its.toArray.size = ys.length := by rw [List.size_toArray, ← rv.length]
    have e : i = min x.cps.size its.toArray.size := by rw [ei]; exact hi
    subst e
    exact (go X.A its.toArray (I.ok.hd hc)).stops s (fun s1 => Inv X pins σ H s1) E ⟨a1, a2, a3, a4, a5, pl.isList⟩ fun h' tk kp _ => I.turnedL (t' := tk) (fun c o n e => kp c o (sub c n) e) hf
  · exact fun A i s Q E st h => wpAny_pyIter_zip st.1 h
def iZipSL (K : PySem.W.Frag) (ta : TA) : TI := fun σ H R => ta σ H fun vs H1 => ∃ x b ys, vs = [.str x, .ref b] ∧ SqL K H1 b ys ∧ R (Itsl K x b) H1
theorem pi_zipSL {X : Cx} {e e2 : Expr} {ta : TA} {p pos tpos : Pos} {elts : List Expr} {kk : Nat} (K : PySem.W.Frag) (hK : X.K = K) (hg : Gl X "zip") (hm : X.mg "zip" = none) (ha : PA X [e, e2] ta)
    (h1 : starEach [e, e2] X.env = (false, eval e X.env) :: starEach [e2] X.env := by rfl) (h2 : (backTo pos (starEach [e2] X.env)).any (·.1) = false := by rfl) : PI X (.Tuple elts kk tpos) (.Call (.Name "zip" p) [e, e2] [] pos) (iZipSL K ta) := by
  subst hK
  refine ⟨fun pins s σ H R I h => Call_ (ld_blt I hg hm PyProof.Rows.boot_zip (callWith_type1 (thn (ha.run pos pins s σ H _ I h) ?_) h1 h2))⟩
  rintro us s1 ⟨vs, H1, I1, r1, x, b, ys, rfl, qy, q⟩
  cases r1 with
  | cons ra rr =>
    cases rr with
    | cons rb rr =>
      cases rr
      obtain ⟨t, rfl⟩ := ra
      cases rb
      obtain ⟨its, rv, pl, _⟩ := I1.list qy
      have lb : b < s1.heap.objs.size := pl.lt
      refine zip_begins2 (begins_text x t) (begins_list b its.toArray) trivial pl.isList fun h' hz tI tO o1 o2 sz kp => wpAny_pyIter_zip hz ?_
      have Sp : ZipSep2 (s1.heap.objs.size + 4) (s1.heap.objs.size + 2) (s1.heap.objs.size + 3) s1.heap.objs.size (s1.heap.objs.size + 1) [s1.heap.objs.size] [s1.heap.objs.size + 1, b] := zip_sep2 (fp1 := []) (fp2 := [b]) (fun c w => by cases w) (fun c w => by rw [List.mem_singleton.mp w]; exact lb)
      refine ⟨_, _, _, _, H1, rfl, I1.kept (t' := s1.toks) kp, turn_sl (x := x) (t := t) Sp (Nat.ne_of_lt (Nat.lt_succ_of_lt lb)), ⟨hz, tI, ⟨_, _, tO⟩, ⟨_, o1, rfl, rfl⟩, ⟨_, o2, rfl, rfl⟩⟩, fun c w => ?_, q⟩
      have w' : c = s1.heap.objs.size + 4 ∨ c = s1.heap.objs.size + 2 ∨ c = s1.heap.objs.size + 3 ∨ c = s1.heap.objs.size + 0 ∨ c = s1.heap.objs.size + 1 := by simpa using w
      have hle : s1.heap.objs.size ≤ c := by rcases w' with w | w | w | w | w <;> (rw [w]; exact Nat.le_add_right _ _)
      exact I1.fpOk hle (I1.hok.fresh hle)
end Fb
set_option Elab.async false
set_option linter.all false
set_option maxRecDepth 100000
set_option maxHeartbeats 2000000
namespace VL
open PySem PySem.Spec PyProof.Rows L2
/-! ### rules that name the written part -/
section
variable {X : Cx} (K0 : PySem.W.Frag) (hK : X.K = K0)
include hK
theorem isiK : CallR X (.builtin "isinstance") (rIsi K0) := by subst hK; exact call_isi
theorem isiTK : CallR X (.builtin "isinstance") (rIsiT K0) := by subst hK; exact call_isiT
theorem boolLK : CallR X (.type "bool") (fun xs H Q => ∃ (a : Addr) (zs : List V), xs = [.ref a] ∧ SqL K0 H a zs ∧ Q (.bl (!zs.isEmpty)) H) := by subst hK; exact call_boolL
theorem truK {a : Expr} {ta : TE} (ha : PE X a ta) (he : ∀ whole, isTrue a X.env whole = (do let v ← whole; standAt a.pos; holding [v] (truthy v))) : PT X a (fun σ H Q => ta σ H fun x H' => ∃ k, TruV K0 x H' k ∧ Q k H') := by subst hK; exact pt_truth ha he
theorem starK {e : Expr} {es : List Expr} {p : Pos} {te : TE} {t : TA} (he : PE X e te) (hr : PA X es t) (hs : starEach (.Starred e p :: es) X.env = (true, eval e X.env) :: starEach es X.env := by rfl) : PA X (.Starred e p :: es) (StX.tStar K0 te t) := by subst hK; exact StX.pa_star he hr hs
theorem lstTK {es : List Expr} {k : Nat} {pos : Pos} {n : Nat} {t : TGs} (hc : X.calm = true) (h : PGs X es t) (hn : (assignEach es X.env).length = n := by rfl) (hst : (assignEach es X.env).findIdx? (·.1) = none := by rfl) : PG X (.Tuple es k pos) (gLst K0 n t) := by subst hK; exact pg_lst hc h hn hst
theorem enumK {e : Expr} {ta : TA} {p pos tpos : Pos} {elts : List Expr} {kk : Nat} (hg : Gl X "enumerate") (hm : X.mg "enumerate" = none) (ha : PA X [e] ta) (hs : starEach [e] X.env = (false, eval e X.env) :: starEach [] X.env := by rfl) : PI X (.Tuple elts kk tpos) (.Call (.Name "enumerate" p) [e] [] pos) (iEnum K0 ta) := by subst hK; exact pi_enum hg hm ha hs
theorem zipAK {e e2 : Expr} {ta : TA} {p pos tpos : Pos} {elts : List Expr} {kk : Nat} (hg : Gl X "zip") (hm : X.mg "zip" = none) (ha : PA X [e, e2] ta) (hs : starEach [e, e2] X.env = (false, eval e X.env) :: starEach [e2] X.env := by rfl) (hpl : (backTo pos (starEach [e2] X.env)).any (·.1) = false := by rfl) : PI X (.Tuple elts kk tpos) (.Call (.Name "zip" p) [e, e2] [] pos) (RZ.iZipA K0 ta) := by subst hK; exact RZ.pi_zipA hg hm ha hs hpl
end
theorem op_mulS {X : Cx} : OpR X (binaryOp .Mult) (fun x y H Q => ∃ (z : Str) (n : Int), x = .str z ∧ y = .int n ∧ PySem.MulOk z n ∧ Q (.str (Txt.mul z n)) H) := by
  intro pins s σ H x y v u Q I rx ry h
  obtain ⟨z, n, rfl, rfl, hn, q⟩ := h
  obtain ⟨t, rfl⟩ := rx
  obtain ⟨t2, rfl⟩ := ry
  exact SB.mul hn fun t' k => ⟨.str _, H, I.tok _, ⟨_, rfl⟩, q⟩
section
variable {K : PySem.W.Frag}
def gMulS : G2
  | .str a, .int n, Q => PySem.MulOk a n ∧ Q (.str (Txt.mul a n))
  | _, _, _ => False
theorem od_mulS : OpD K (fun x y H Q => ∃ (z : Str) (n : Int), x = .str z ∧ y = .int n ∧ PySem.MulOk z n ∧ Q (.str (Txt.mul z n)) H) gMulS := fun ow H x y dx dy Q Qd rx ry hg hn => by
  cases dx <;> first | exact hg.elim | skip
  cases dy <;> first | exact hg.elim | skip
  exact ⟨_, _, rx.str, ry.int, hg.1, hn _ _ rs_str hg.2⟩
def gBoolL : GA
  | [.lst l], Q => Q (.bl (!l.isEmpty))
  | _, _ => False
theorem cd_boolL : CaD K (fun xs H Q => ∃ (a : Addr) (zs : List V), xs = [.ref a] ∧ SqL K H a zs ∧ Q (.bl (!zs.isEmpty)) H) gBoolL := fun ow H vs ds Q Qd rs hg hn => by
  unfold gBoolL at hg
  split at hg
  · rename_i l
    obtain ⟨v, rfl, r⟩ := pr1 rs
    obtain ⟨a, ws, rfl, s, t⟩ := r.lst
    have e : ws.isEmpty = l.isEmpty := by
      have := t.len
      cases ws <;> cases l <;> simp_all
    exact ⟨a, ws, rfl, s.sq, hn _ _ (by rw [e]; exact rs_bl) hg⟩
  · exact hg.elim
def gStrS : GA
  | [.str z], Q => Q (.str z)
  | _, _ => False
theorem cd_strS : CaD K (fun xs H Q => ∃ a, xs = [.str a] ∧ Q (.str a) H) gStrS := fun ow H vs ds Q Qd rs hg hn => by
  unfold gStrS at hg
  split at hg
  · obtain ⟨v, rfl, r⟩ := pr1 rs
    exact ⟨_, by rw [r.str], hn _ _ rs_str hg⟩
  · exact hg.elim
def gIntS : GA
  | [.str z], Q => ∃ n, PySem.intText? z = some n ∧ z.length ≤ 640 ∧ Q (.int n)
  | _, _ => False
theorem cd_intS : CaD K (fun xs H Q => ∃ a n, xs = [.str a] ∧ PySem.intText? a = some n ∧ a.length ≤ 640 ∧ Q (.int n) H) gIntS := fun ow H vs ds Q Qd rs hg hn => by
  unfold gIntS at hg
  split at hg
  · obtain ⟨v, rfl, r⟩ := pr1 rs
    obtain ⟨n, h1, h2, q⟩ := hg
    exact ⟨_, n, by rw [r.str], h1, h2, hn _ _ rs_int q⟩
  · exact hg.elim
end
/-! ### chains of comparisons, truth -/
section
variable {c : Vc} {W : XW} {m : Md} {te ta tb tc : TE} {fe fa fb fc : VT} {tA : TA} {fA : VTA}
def vChain (g g' : G2) (fa fb fc : VT) : VT := fun e Q Qx => fa e (fun x e1 => fb e1 (fun y e2 => g x y fun z => ∃ k, z = .bl k ∧ if k = true then fc e2 (fun w e3 => g' y w fun u => Q u e3) Qx else Q (.bl false) e2) Qx) Qx
theorem q_chain {r r' : R2} {g g' : G2} (ha : VB c ta fa) (hb : VB c tb fb) (hc : VB c tc fc) (ho : OpD c.K r g) (ho' : OpD c.K r' g') : VQ c (tChain r r' ta tb tc) (vChain g g' fa fb fc) := fun fT fV T σ e H Q Qv Qx hR hf hn =>
  ha fT fV T σ e H _ _ Qx hR hf fun x dx rx h1 => hb fT fV T σ e H _ _ Qx hR h1 fun y dy ry h2 => ho _ H x y dx dy _ _ rx ry h2 fun z v rz ⟨k, ek, q⟩ => by
    subst ek
    refine ⟨k, rz.bl_of, ?_⟩
    cases k with
    | true => exact hc fT fV T σ e H _ _ Qx hR q fun w dw rw h3 => ho' _ H y w dy dw _ _ ry rw h3 fun u v ru qu => hn v u ru qu
    | false => exact hn _ _ rs_bl q
def truD : D → (Bool → Prop) → Prop
  | .non, Q => Q false
  | .bl b, Q => Q b
  | .int i, Q => Q (i != 0)
  | .str z, Q => z.length ≤ sizeLine ∧ Q ((z.length : Int) != 0)
  | .lst l, Q => Q (!l.isEmpty)
  | .tup l, Q => Q (!l.isEmpty)
  | _, _ => False
theorem emp_len {α β : Type} {l : List α} {vs : List β} (h : vs.length = l.length) : vs.isEmpty = l.isEmpty := by
  cases l <;> cases vs <;> simp_all
theorem tru_of {K : PySem.W.Frag} {ow : Addr → Prop} {H : Hp} {d : D} {v : V} {Q : Bool → Prop} (r : RB K ow H d v) (h : truD d Q) : ∃ k, TruV K v H k ∧ Q k := by
  cases d with
  | non => rw [r.non]; exact ⟨_, rfl, h⟩
  | bl b => rw [r.bl]; exact ⟨_, rfl, h⟩
  | int i => rw [r.int]; exact ⟨_, rfl, h⟩
  | str z => rw [r.str]; exact ⟨_, ⟨h.1, rfl⟩, h.2⟩
  | lst l =>
    obtain ⟨a, vs, rfl, s, t⟩ := r.lst
    exact ⟨_, .inl ⟨vs, s.sq, rfl⟩, by rw [emp_len t.len]; exact h⟩
  | tup l =>
    obtain ⟨a, vs, rfl, s, t⟩ := r.tup
    exact ⟨_, .inr (.inl ⟨vs, s, rfl⟩), by rw [emp_len t.len]; exact h⟩
  | _ => exact h.elim
def vTru (fe : VT) : VTB := fun e Q Qx => fe e (fun d e1 => truD d fun b => Q b e1) Qx
theorem vt_truB (h : VB c te fe) : VBt c W m (fun σ H Q => te σ H fun x H' => ∃ k, TruV c.K x H' k ∧ Q k H') (vTru fe) := fun T σ e H Q Qv Qx ⟨fT, fV, hR⟩ hf hn hx =>
  h fT fV T σ e H _ _ Qx hR hf fun v d r q => by
    obtain ⟨k, t, q⟩ := tru_of r q
    exact ⟨k, t, hn k e H ⟨fT, fV, hR⟩ (Post.refl _ _ _) q⟩
theorem vt_tru (h : VE c W m te .s fe) : VBt c W m (fun σ H Q => te σ H fun x H' => ∃ k, TruV c.K x H' k ∧ Q k H') (vTru fe) := fun T σ e H Q Qv Qx hR hf hn hx =>
  h T σ e H _ _ Qx hR hf (fun v d e1 H1 ⟨fT, fV, hX⟩ p q => by
    obtain ⟨r, hX⟩ := hX.topS
    obtain ⟨k, t, q⟩ := tru_of r.b q
    exact ⟨k, t, hn k e1 H1 ⟨fT, fV, hX⟩ p q⟩) hx
/-! ### isinstance -/
def tyN : D → Option String
  | .non => some "NoneType"
  | .bl _ => some "bool"
  | .int _ => some "int"
  | .str _ => some "str"
  | .tup _ => some "tuple"
  | _ => none
theorem tyX_of {K : PySem.W.Frag} {ow : Addr → Prop} {H : Hp} {d : D} {v : V} {t : String} (r : RB K ow H d v) (h : tyN d = some t) : TyX K H v (.type t) := by
  cases d with
  | non => cases h; rw [r.non]; exact .base .non
  | bl b => cases h; rw [r.bl]; exact .base (.bl b)
  | int i => cases h; rw [r.int]; exact .base (.int i)
  | str z => cases h; rw [r.str]; exact .base (.str z)
  | tup l =>
    cases h
    obtain ⟨a, vs, rfl, s, t⟩ := r.tup
    rcases s with (s | ⟨o, s⟩) | ⟨o, its, n, s, hc, _⟩
    · exact .base (.tup s)
    · exact .fTuple s
    · exact .kTuple s hc
  | _ => cases h
def isiD (d : D) (T : String) (Q : Bool → Prop) : Prop := ∃ t b, tyN d = some t ∧ kitB t T = some b ∧ Q b
def vIsi (T : String) (fe : VT) : VT := fun e Q Qx => fe e (fun d e1 => isiD d T fun b => Q (.bl b) e1) Qx
theorem q_isi {T : String} (h : VB c te fe) : VQ c (tCB (rIsi c.K) (tCons te (tCons (tC (.ty T)) tNil))) (vIsi T fe) := fun fT fV T' σ e H Q Qv Qx hR hf hn =>
  h fT fV T' σ e H _ _ Qx hR hf fun v d r ⟨t, b, h1, h2, q⟩ => ⟨v, .ty T, .type t, .type T, b, rfl, .ty T, tyX_of r h1, kit_ty h2, hn _ _ rs_bl q⟩
def isiT (d : D) (T1 T2 : String) (Q : Bool → Prop) : Prop := ∃ t b1 b2, tyN d = some t ∧ kitB t T1 = some b1 ∧ kitB t T2 = some b2 ∧ Q (b1 || b2)
def vIsiT (T1 T2 : String) (fe : VT) : VT := fun e Q Qx => fe e (fun d e1 => isiT d T1 T2 fun b => Q (.bl b) e1) Qx
theorem v_isiT {T1 T2 : String} (h : VE c W m te .s fe) : VE c W m (tCB (rIsiT c.K) (tCons te (tCons (tTup (tCons (tC (.ty T1)) (tCons (tC (.ty T2)) tNil))) tNil))) .s (vIsiT T1 T2 fe) := fun T' σ e H Q Qv Qx hR hf hn hx =>
  h T' σ e H _ _ Qx hR hf (fun v d e1 H1 ⟨fT, fV, hX⟩ p ⟨t, b1, b2, h1, h2, h3, q⟩ => by
    obtain ⟨r, hX⟩ := hX.topS
    refine ⟨by show 2 ≤ sizeLine; decide, fun a ha => ?_⟩
    have s : Same H1 (L2.upd H1 a (.tup [.ty T1, .ty T2])) := same_new ha
    refine ⟨v, a, [.ty T1, .ty T2], .type t, [.type T1, .type T2], (b1 || b2), rfl, upd_same, .cons (.ty T1) (.cons (.ty T2) .nil), tyX_of (RS.fr (Fr.same s) (fun _ z => .inl z) _ _ r).b h1, ?_, hn _ _ e1 _ ⟨fT, fV, (hX.same s).pushS rs_bl⟩ (p.trans (Post.same s)) q⟩
    refine kitAny_cons (kit_ty h2) (fun e => ?_) (fun e => by rw [e]; rfl)
    rw [e]
    exact kitAny_cons (kit_ty h3) (fun e => by rw [e]; rfl) (fun e => by rw [e]; rfl)) hx
/-! ### stars in displays -/
theorem RX.pushRs {fT fV : List Addr} {T : List Tm} {σ : L2.St} {e : Env} {H : Hp} (h : RX c fT fV T σ e H) : ∀ {l : List D} {xs : List V}, RSs c.K (owOf c fT fV) H l xs → RX c fT fV (VL.pushR xs l T) σ e H
  | [], _, r => by
    simp only [RSs] at r
    subst r
    exact h
  | d :: l, _, r => by
    simp only [RSs] at r
    obtain ⟨v, w, rfl, r1, r2⟩ := r
    exact (RX.pushRs h r2).pushS r1
theorem RX.popRs {fT fV : List Addr} {T : List Tm} {σ : L2.St} {e : Env} {H : Hp} : ∀ {l : List D} {xs : List V}, RX c fT fV (VL.pushR xs l T) σ e H → xs.length = l.length → RSs c.K (owOf c fT fV) H l xs ∧ RX c fT fV T σ e H
  | [], [], h, _ => ⟨.nil, h⟩
  | [], _ :: _, _, hl => by cases hl
  | _ :: _, [], _, hl => by cases hl
  | d :: l, v :: xs, h, hl => by
    obtain ⟨r, h⟩ := RX.topS (show RX c fT fV ((.s, v, d) :: VL.pushR xs l T) σ e H from h)
    obtain ⟨rs, h⟩ := RX.popRs h (Nat.succ.inj hl)
    exact ⟨.cons r rs, h⟩
def vStar (fe : VT) (fA : VTA) : VTA := fun e Q Qx => fe e (fun d e1 => ∃ l, (d = .tup l ∨ d = .lst l) ∧ fA e1 (fun xs e2 => Q (l ++ xs) e2) Qx) Qx
theorem va_star (ha : VE c W m te .s fe) (hr : VA c W m tA fA) : VA c W m (StX.tStar c.K te tA) (vStar fe fA) := fun T σ e H Q Qv Qx hR hf hn hx => by
  refine ha T σ e H _ _ Qx hR hf (fun x dx e1 H1 R1 P1 ⟨l, hd, h1⟩ => ?_) hx
  obtain ⟨fT0, fV0, X0⟩ := R1
  obtain ⟨rx, X0⟩ := X0.topS
  have go : ∀ (p : Addr) (xs : List V), x = .ref p → RSs c.K (owOf c fT0 fV0) H1 l xs → tA σ H1 fun ys H2 => Q (xs ++ ys) H2 := fun p xs _ rs => by
    have hl := rs.len
    refine hr (VL.pushR xs l T) σ e1 H1 _ _ Qx ⟨fT0, fV0, X0.pushRs rs⟩ h1 (fun fT fV vs ds e2 H2 X2 rs2 P2 h2 => ?_) (fun xn d e' H' ⟨gT, gV, X'⟩ y q' => hx xn d e' H' ⟨gT, gV, (X'.popRs hl).2⟩ y q')
    obtain ⟨r3, X3⟩ := X2.popRs hl
    exact hn fT fV _ _ e2 H2 X3 (RSs.app rs2 r3) (P1.trans P2) h2
  rcases hd with rfl | rfl
  · obtain ⟨p, xs, e, s, rs⟩ := rx.b.tup
    exact ⟨p, xs, e, .inl s, go p xs e rs⟩
  · obtain ⟨p, xs, e, s, rs⟩ := rx.b.lst
    exact ⟨p, xs, e, .inr s.sq, go p xs e rs⟩
/-! ### list(zip(..)) -/
def seqD : D → Option (List D)
  | .lst l => some l
  | .tup l => some l
  | _ => none
def zipD (a b : List D) : List D := List.zipWith (fun x y => .tup [x, y]) a b
def vListZip (fA : VTA) : VT := fun e Q Qx => fA e (fun ds e1 => ∃ x y a b, ds = [x, y] ∧ seqD x = some a ∧ seqD y = some b ∧ min a.length b.length < sizeLine ∧ Q (.lst (zipD a b)) e1) Qx
theorem seq_of {K : PySem.W.Frag} {ow : Addr → Prop} {H : Hp} {d : D} {v : V} {l : List D} (r : RB K ow H d v) (h : seqD d = some l) : ∃ a k vs, v = .ref a ∧ Fb.sqk K H k a vs ∧ RSs K ow H l vs := by
  cases d with
  | tup l' =>
    cases h
    obtain ⟨a, vs, e, s, t⟩ := r.tup
    exact ⟨a, false, vs, e, s, t⟩
  | lst l' =>
    cases h
    obtain ⟨a, vs, e, s, t⟩ := r.lst
    exact ⟨a, true, vs, e, s.sq, t⟩
  | _ => cases h
theorem zip_rs {K : PySem.W.Frag} {ow : Addr → Prop} {H : Hp} : ∀ {a b : List D} {xs ys : List V} {Ts : List Addr}, RSs K ow H a xs → RSs K ow H b ys → Ts.length = min xs.length ys.length → Fb.Prs H xs ys Ts → RSs K ow H (zipD a b) (Ts.map V.ref)
  | [], b, xs, ys, Ts, ha, _, hl, _ => by
    simp only [RSs] at ha
    subst ha
    have : Ts = [] := List.length_eq_zero_iff.mp (by simpa using hl)
    subst this
    exact .nil
  | x :: a, [], xs, ys, Ts, _, hb, hl, _ => by
    simp only [RSs] at hb
    subst hb
    have : Ts = [] := List.length_eq_zero_iff.mp (by simpa using hl)
    subst this
    exact .nil
  | x :: a, y :: b, xs, ys, Ts, ha, hb, hl, hp => by
    simp only [RSs] at ha hb
    obtain ⟨v, r, rfl, a1, a2⟩ := ha
    obtain ⟨w, q, rfl, b1, b2⟩ := hb
    cases Ts with
    | nil => simp at hl
    | cons t Ts =>
      obtain ⟨x', y', e1, e2, ht⟩ := hp 0 t rfl
      simp only [List.getElem?_cons_zero, Option.some.injEq] at e1 e2
      subst e1 e2
      refine .cons ?_ (zip_rs a2 b2 (by simp at hl; omega) fun j T hj => ?_)
      · simp only [RS]
        exact ⟨t, _, rfl, SqT.of ht, .cons a1 (.cons b1 .nil)⟩
      · obtain ⟨x', y', e1, e2, ht⟩ := hp (j + 1) T (by simpa using hj)
        exact ⟨x', y', by simpa using e1, by simpa using e2, ht⟩
theorem v_listZip (hA : VA c W m tA fA) : VE c W m (Fb.tListZip c.K tA) (.l .s) (vListZip fA) := fun T σ e H Q Qv Qx hR hf hn hx =>
  hA T σ e H _ _ Qx hR hf (fun fT fV vs ds e1 H1 X1 rs p ⟨x, y, a, b, hd, hx1, hy1, hlt, q⟩ => by
    subst hd
    obtain ⟨v1, v2, rfl, r1, r2⟩ := pr2 rs.pb
    obtain ⟨p1, k1, xs, rfl, s1, t1⟩ := seq_of r1 hx1
    obtain ⟨p2, k2, ys, rfl, s2, t2⟩ := seq_of r2 hy1
    refine ⟨p1, p2, k1, k2, xs, ys, rfl, s1, s2, by rw [t1.len, t2.len]; exact hlt, fun H2 Ts S sm hS hl hp hS2 => ?_⟩
    have F : Fr (owOf c fT fV) H1 H2 := Fr.same sm
    refine hn _ _ e1 H2 ⟨[S] ++ fT, fV, X1.pushO sm (by simp) (fun a z => by rw [List.mem_singleton.mp z]; exact hS) ?_⟩ (p.trans (Post.same sm)) q
    have how := ow_grow (c := c) (fT := fT) (fV := fV) (H := H1) (fp := [S]) (fun a z => by rw [List.mem_singleton.mp z]; exact hS)
    have z := zip_rs (RSs.fr F how _ _ t1) (RSs.fr F how _ _ t2) hl hp
    exact RO.lcell hS2 z) hx
/-! ### walks over enumerate, zip -/
def vEnum (fA : VTA) : VTI := fun e Q Qx => fA e (fun ds e1 => ∃ l, ds = [.lst l] ∧ Q (l.mapIdx fun i d => .tup [.int (i : Nat), d]) e1) Qx
theorem vi_enum (hA : VA c W m tA fA) : VI c W m (iEnum c.K tA) (vEnum fA) := fun T σ e H Rk Qv Qx hR hf hn hx =>
  hA T σ e H _ _ Qx hR hf (fun fT0 fV0 vs ds e1 H1 X1 rs p ⟨l, hl, q⟩ => by
    subst hl
    simp only [RSs] at rs
    obtain ⟨v, r0, rfl, r, rfl⟩ := rs
    have key : ∀ fT fV T σ e H, RX c fT fV T σ e H → (∀ t ∈ [((.s, v, .lst l) : Tm)], t ∈ T) → ∃ a vs, v = .ref a ∧ LsS c.K (owOf c fT fV) H a vs ∧ RSs c.K (owOf c fT fV) H l vs := fun fT fV T σ e H hX hm => by
      have r := hX.mem (hm _ List.mem_cons_self) rfl
      simpa only [RS] using r
    have X2 := X1.pushS r
    obtain ⟨a, vs, rfl, s, r⟩ := key _ _ _ σ e1 H1 X2 (fun t z => by rw [List.mem_singleton.mp z]; exact List.mem_cons_self)
    have ll : (l.mapIdx fun i d => D.tup [.int (i : Nat), d]).length = l.length := by simp
    refine ⟨a, vs, rfl, s.sq, hn (Ite c.K a) [(.s, .ref a, .lst l)] _ e1 H1 ⟨fun t z => by rw [List.mem_singleton.mp z], ?_, ?_, ?_⟩ ⟨_, _, X2⟩ p q⟩
    · intro fT fV T σ e H i hX hm hi
      obtain ⟨a', vs, ea, s, r⟩ := key fT fV T σ e H hX hm
      cases ea
      have : i < vs.length := by rw [r.len]; omega
      exact ⟨vs, _, s.sq, List.getElem?_eq_getElem this⟩
    · rintro fT fV T σ e H i x H' hX hm hi ⟨T', y, rfl, hT, rfl, hy⟩
      obtain ⟨a', vs, ea, s, r⟩ := key fT fV T σ e H hX hm
      cases ea
      obtain ⟨d, e1, e2⟩ := r.getV (hy vs s.sq)
      refine ⟨same_new hT, .tup [.int (i : Nat), d], by rw [List.getElem?_mapIdx, e1]; rfl, ?_⟩
      simp only [RS]
      exact ⟨T', _, rfl, SqT.of upd_same, .cons rs_int (.cons (RS.fr (Fr.same (same_new hT)) (fun _ z => .inl z) _ _ e2) .nil)⟩
    · intro fT fV T σ e H i hX hm hi
      obtain ⟨a', vs, ea, s, r⟩ := key fT fV T σ e H hX hm
      cases ea
      exact ⟨vs, s.sq, by rw [r.len]; omega⟩) hx
def vZipSL (fA : VTA) : VTI := fun e Q Qx => fA e (fun ds e1 => ∃ z l, ds = [.str z, .lst l] ∧ Q (zipD (sgD z) l) e1) Qx
theorem zipD_get {a b : List D} {i : Nat} : (zipD a b)[i]? = match a[i]?, b[i]? with | some x, some y => some (.tup [x, y]) | _, _ => none := by
  unfold zipD
  rw [List.getElem?_zipWith]
  cases a[i]? <;> cases b[i]? <;> rfl
theorem vi_zipSL (hA : VA c W m tA fA) : VI c W m (Fb.iZipSL c.K tA) (vZipSL fA) := fun T σ e H Rk Qv Qx hR hf hn hx =>
  hA T σ e H _ _ Qx hR hf (fun fT0 fV0 vs ds e1 H1 X1 rs p ⟨z, l, hl, q⟩ => by
    subst hl
    simp only [RSs] at rs
    obtain ⟨u, r0, rfl, ru, v, r1, rfl, r, rfl⟩ := rs
    have eu : u = .str z := by simpa only [RS] using ru
    subst eu
    have key : ∀ fT fV T σ e H, RX c fT fV T σ e H → (∀ t ∈ [((.s, v, .lst l) : Tm)], t ∈ T) → ∃ a vs, v = .ref a ∧ LsS c.K (owOf c fT fV) H a vs ∧ RSs c.K (owOf c fT fV) H l vs := fun fT fV T σ e H hX hm => by
      have r := hX.mem (hm _ List.mem_cons_self) rfl
      simpa only [RS] using r
    have X2 := X1.pushS r
    obtain ⟨a, vs, rfl, s, r⟩ := key _ _ _ σ e1 H1 X2 (fun t z => by rw [List.mem_singleton.mp z]; exact List.mem_cons_self)
    have lz : (zipD (sgD z) l).length = min z.cps.size l.length := by simp [zipD, sgD]
    refine ⟨z, a, vs, rfl, s.sq, hn (Fb.Itsl c.K z a) [(.s, .ref a, .lst l)] _ e1 H1 ⟨fun t z => by rw [List.mem_singleton.mp z], ?_, ?_, ?_⟩ ⟨_, _, X2⟩ p q⟩
    · intro fT fV T σ e H i hX hm hi
      obtain ⟨a', vs, ea, s, r⟩ := key fT fV T σ e H hX hm
      cases ea
      have : i < vs.length := by rw [r.len]; omega
      exact ⟨vs, _, s.sq, by omega, List.getElem?_eq_getElem this⟩
    · rintro fT fV T σ e H i x H' hX hm hi ⟨T', ch, y, rfl, hT, rfl, hc, hy⟩
      obtain ⟨a', vs, ea, s, r⟩ := key fT fV T σ e H hX hm
      cases ea
      obtain ⟨d, e1, e2⟩ := r.getV (hy vs s.sq)
      refine ⟨same_new hT, .tup [.str ⟨#[ch]⟩, d], ?_, ?_⟩
      · have : (sgD z)[i]? = some (.str ⟨#[ch]⟩) := by
          unfold sgD
          rw [List.getElem?_map, Array.getElem?_toList, hc]
          rfl
        rw [zipD_get, this, e1]
      · simp only [RS]
        exact ⟨T', _, rfl, SqT.of upd_same, .cons rs_str (.cons (RS.fr (Fr.same (same_new hT)) (fun _ z => .inl z) _ _ e2) .nil)⟩
    · intro fT fV T σ e H i hX hm hi
      obtain ⟨a', vs, ea, s, r⟩ := key fT fV T σ e H hX hm
      cases ea
      exact ⟨vs, s.sq, by rw [r.len, ← hi, lz]⟩) hx
end
end VL
set_option Elab.async false
set_option linter.all false
set_option maxRecDepth 100000
set_option maxHeartbeats 2000000
namespace VL
open PySem PySem.Spec PyProof.Rows L2
/-! ### one's own list: pop, extend, x[k] = y -/
section
variable {c : Vc} {W : XW} {m : Md} {te ta tb tc tv ti : TE} {fe fa fb fc fv fi : VT} {tA : TA} {fA : VTA} {rsh : Sh}
theorem RX.ownA {fT fV : List Addr} {T : List Tm} {σ : L2.St} {e : Env} {H : Hp} {i : Nat} {l : List D} {a : Addr} (h : RX c fT fV T σ e H) (hM : c.M[i]? = some (.l .s)) (hd : e[i]? = some (some (.lst l))) (hv : σ[i]? = some (some (.ref a))) : owOf c fT fV a := by
  obtain ⟨v, fp, hv', ro, sub, _⟩ := h.upd hM hd
  obtain ⟨l0, a2, vs2, el, ea, ha2, rs2, ef⟩ := RO_l.mp ro
  rw [hv] at hv'
  cases hv'
  cases ea
  exact .inl (sub a (by rw [ef]; exact List.mem_singleton_self a))
def vPop (i : Nat) : VT := fun e Q _ => ∃ l y, e[i]? = some (some (.lst (l ++ [y]))) ∧ Q y (e.set i (some (.lst l)))
theorem v_pop {i : Nat} (hM : c.M[i]? = some (.l .s)) : VE c W .e (tBM0 c.K "list" rPop (tVar i)) .s (vPop i) := fun T σ e H Q Qv Qx ⟨fT, fV, hX⟩ ⟨l, y, hl, q⟩ hn hx => by
  obtain ⟨a, vs, hv, ha, rs, _⟩ := hX.ownL hM hl
  obtain ⟨ws, w, rfl, r1, r2⟩ := rs.unapp1
  have F := RX.frL (o' := .lst ws) ha id (hX.ownA hM hl hv)
  obtain ⟨a', vs', hv', ha', rs', k⟩ := (hX.pushS r2).ownL hM hl
  rw [hv] at hv'
  cases hv'
  rw [ha] at ha'
  cases ha'
  obtain ⟨fV2, X2⟩ := k l ws H (fun _ _ q => q) ha fun ow' how => RSs.fr F how _ _ r1
  exact ⟨_, hv, tyV_l ha, a, _, w, rfl, rfl, ha, by simp, by rw [List.dropLast_concat]; exact hn _ _ _ _ ⟨fT, fV2, X2⟩ Post.e q⟩
def vExt (i : Nat) (fe : VT) : VT := fun e Q Qx => (∃ l, e[i]? = some (some (.lst l))) ∧ fe e (fun d e1 => ∃ l zs, e1[i]? = some (some (.lst l)) ∧ d = .lst zs ∧ l.length + zs.length ≤ sizeLine ∧ Q .non (e1.set i (some (.lst (l ++ zs))))) Qx
theorem v_ext {i : Nat} (hM : c.M[i]? = some (.l .s)) (he : VE c W .e te .s fe) : VE c W .e (tBM c.K "list" (rExtR c.K) (tVar i) (tCons te tNil)) .s (vExt i fe) := fun T σ e H Q Qv Qx ⟨fT, fV, hX⟩ ⟨⟨l0, hl0⟩, hf⟩ hn hx => by
  obtain ⟨a, vs0, hv, ha0, _⟩ := hX.ownL hM hl0
  refine ⟨_, hv, tyV_l ha0, ?_⟩
  refine he T σ e H _ _ Qx ⟨fT, fV, hX⟩ hf (fun y dy e1 H1 R1 _ ⟨l, zs, hl, ed, hz, q⟩ => ?_) hx
  subst ed
  obtain ⟨fT1, fV1, X0⟩ := R1
  obtain ⟨ry, X1⟩ := X0.topS
  clear X0
  obtain ⟨b, ws, rfl, s, rw⟩ := ry.b.lst
  obtain ⟨a1, vs, hv1, ha, rs, k⟩ := X1.ownL hM hl
  rw [hv] at hv1
  cases hv1
  have F := RX.frL (o' := .lst (vs ++ ws)) ha id (X1.ownA hM hl hv)
  obtain ⟨fV2, X2⟩ := k (l ++ zs) (vs ++ ws) H1 (fun _ _ q => q) ha fun ow' how => RSs.app (RSs.fr F how _ _ rw) (RSs.fr F how _ _ rs)
  exact ⟨a, b, vs, ws, rfl, rfl, ha, s, by rw [rs.len, rw.len]; exact hz, hn _ _ _ _ ⟨fT1, fV2, X2.pushS rs_non⟩ Post.e q⟩
def vSetIx (i : Nat) (fi fv : VT) : VTS := fun D e => fv e (fun y e1 => (∃ l, e1[i]? = some (some (.lst l))) ∧ fi e1 (fun k e2 => ∃ l j kk, k = .int kk ∧ e2[i]? = some (some (.lst l)) ∧ ixN l.length kk = some j ∧ D.nx (e2.set i (some (.lst (l.set j y))))) D.ex) D.ex
theorem vs_setIx {i : Nat} (hM : c.M[i]? = some (.l .s)) (hv : VE c W .e tv .s fv) (hi : VE c W .e ti .s fi) : VS c W rsh (tAsg tv (gSub (tVar i) ti rSetL)) (vSetIx i fi fv) := fun T σ e H D Dv hR hf L =>
  hv T σ e H _ _ Dv.ex hR hf (fun y dy e1 H1 R1 _ ⟨⟨l0, hl0⟩, q⟩ => by
    obtain ⟨fT, fV, X1⟩ := R1
    obtain ⟨a, vs0, hva, ha0, _⟩ := X1.ownL hM hl0
    refine ⟨_, hva, hi _ σ e1 H1 _ _ Dv.ex ⟨fT, fV, X1⟩ q (fun k dk e2 H2 R2 _ ⟨l, j, kk, ek, hl, hj, q⟩ => ?_) (fun x d e' H' r y q => L.ex x d σ e' H' r.pop y q)⟩
    subst ek
    obtain ⟨gT, gV, X2⟩ := R2
    obtain ⟨rk, X2⟩ := X2.topS
    obtain ⟨ry, X2⟩ := X2.topS
    have ek : k = .int kk := by simpa only [RS] using rk
    obtain ⟨a1, vs, hv1, ha, rs, kp⟩ := X2.ownL hM hl
    rw [hva] at hv1
    cases hv1
    have F := RX.frL (o' := .lst (vs.set j y)) ha id (X2.ownA hM hl hva)
    obtain ⟨fV2, X3⟩ := kp (l.set j dy) (vs.set j y) H2 (fun _ _ q => q) ha fun ow' how => RSs.set j (RSs.fr F how _ _ rs) (RS.fr F how _ _ ry)
    exact ⟨a, vs, kk, j, rfl, ek, ha, by rw [rs.len]; exact hj, L.nx σ _ _ ⟨gT, fV2, X3⟩ q⟩) (fun x d e' H' r y q => L.ex x d σ e' H' r y q)
/-- .. of a cell -/
def vSetIxC (n : Nat) (fe fi fv : VT) : VTS := fun D e => fv e (fun y e1 => fe e1 (fun x e2 => ∃ a, x = .ref a ∧ fi e2 (fun k e3 => ∃ l j kk, k = .int kk ∧ Cell n e3 a (.lst l) ∧ ixN l.length kk = some j ∧ D.nx (setC n e3 a (.lst (l.set j y)))) D.ex) D.ex) D.ex
theorem vs_setIxC (he : VQ c te fe) (hv : VE c W .e tv .s fv) (hi : VE c W .e ti .s fi) : VS c W rsh (tAsg tv (gSub te ti rSetL)) (vSetIxC c.M.length fe fi fv) := fun T σ e H D Dv hR hf L =>
  hv T σ e H _ _ Dv.ex hR hf (fun y dy e1 H1 R1 _ q => by
    obtain ⟨fT, fV, X1⟩ := R1
    refine he fT fV _ σ e1 H1 _ _ Dv.ex X1 q fun v d r ⟨a, ed, q⟩ => ?_
    subst ed
    have z : v = .ref a := by simpa only [RS] using r
    subst z
    refine hi _ σ e1 H1 _ _ Dv.ex ⟨fT, fV, X1⟩ q (fun k dk e2 H2 R2 _ ⟨l, j, kk, ek, hc, hj, q⟩ => ?_) (fun x d e' H' r y q => L.ex x d σ e' H' r.pop y q)
    subst ek
    obtain ⟨gT, gV, X2⟩ := R2
    obtain ⟨rk, X2⟩ := X2.topS
    obtain ⟨ry, X2⟩ := X2.topS
    have ek : k = .int kk := by simpa only [RS] using rk
    obtain ⟨vs, ha, rs⟩ := X2.cellL hc
    have F := RX.frL (o' := .lst (vs.set j y)) ha id (X2.cellB hc).2.1
    obtain ⟨fV2, X3⟩ := X2.setL hc ha (l' := l.set j dy) (vs' := vs.set j y) fun ow' how => RSs.set j (RSs.fr F how _ _ rs) (RS.fr F how _ _ ry)
    exact ⟨a, vs, kk, j, rfl, ek, ha, by rw [rs.len]; exact hj, L.nx σ _ _ ⟨gT, fV2, X3⟩ q⟩) (fun x d e' H' r y q => L.ex x d σ e' H' r y q)
/-! ### a list so many times -/
def vRep (fa fb : VT) : VT := fun e Q Qx => fa e (fun x e1 => fb e1 (fun y e2 => ∃ l k, x = .lst l ∧ y = .int k ∧ -(2 ^ 63) ≤ k ∧ k < 2 ^ 63 ∧ l.length * k.toNat ≤ sizeLine ∧ Q (.lst (List.replicate k.toNat l).flatten) e2) Qx) Qx
theorem RSs.rep {K : PySem.W.Frag} {ow : Addr → Prop} {H : Hp} {l : List D} {vs : List V} (h : RSs K ow H l vs) : ∀ n : Nat, RSs K ow H (List.replicate n l).flatten (List.replicate n vs).flatten
  | 0 => .nil
  | n + 1 => by
    rw [List.replicate_succ, List.replicate_succ, List.flatten_cons, List.flatten_cons]
    exact RSs.app (RSs.rep h n) h
theorem v_rep (ha : VE c W m ta (.l .s) fa) (hb : VE c W m tb .s fb) : VE c W m (tOp rRep ta tb) (.l .s) (vRep fa fb) := fun T σ e H Q Qv Qx hR hf hn hx => by
  refine ha T σ e H _ _ Qx hR hf (fun x dx e1 H1 R1 P1 h1 => ?_) hx
  refine hb _ σ e1 H1 _ _ Qx R1 h1 (fun y dy e2 H2 R2 P2 ⟨l, k, ex, ey, h3, h4, h5, q⟩ => ?_) (fun xn d e' H' R' X' q' => hx xn d e' H' R'.pop X' q')
  subst ex ey
  obtain ⟨fT, fV, X2⟩ := R2
  obtain ⟨ry, X2⟩ := X2.topS
  have ey : y = .int k := by simpa only [RS] using ry
  obtain ⟨fp, fT', e1', ro, nf, _⟩ := X2.updT
  obtain ⟨l0, a, vs, el, ea, ha, rs, ef⟩ := RO_l.mp ro
  cases el
  subst ea
  refine ⟨a, k, vs, rfl, ey, ha, h3, h4, by rw [rs.len]; exact h5, fun p np => hn _ _ e2 _ ?_ (P1.trans (P2.trans (Post.same (same_new np)))) q⟩
  exact R.drop2 (hs := [(.l .s, .ref a, .lst l)]) (X2.newL np (rs.rep k.toNat))
/-! ### a, b = a list -/
variable {tgs : TGs} {vgs : VTGs} {own : List Nat} {n : Nat}
def vgLst (n : Nat) (vgs : VTGs) : VTG
  | .lst l, e, Q => l.length = n ∧ vgs l e Q
  | _, _, _ => False
theorem vg_lst (hs : VGs c tgs own vgs) : VG c (gLst c.K n tgs) own (vgLst n vgs) := fun T σ e H x d Q Qv hR hv hn => by
  cases d <;> first | exact hv.elim | skip
  obtain ⟨fT, fV, X0⟩ := hR
  obtain ⟨r, X⟩ := X0.topS
  clear X0
  obtain ⟨a, vs, rfl, s, t⟩ := r.b.lst
  exact ⟨a, vs, rfl, s.sq, by rw [t.len]; exact hv.1, hs T σ e H vs _ Q Qv t.len ⟨fT, fV, X.pushRs t⟩ hv.2 hn⟩
end
/-! ### dicts of the module's own: texts by texts -/
structure KDS (K : PySem.W.Frag) (w : World) (d : Addr) (kvs : List (Str × Str)) : Prop where
  ex : ∃ es n, KDict K w d es n ∧ ∀ z, match kvs.lookup z with | none => findBy Value.isStrOf es z = none | some v => ∃ t, findBy Value.isStrOf es z = some (.str v t)
def isSt (v : Value) (x : Str) : Bool := match v with | .str y _ => decide (y = x) | _ => false
def chkD : List DictEntry → List (Str × Str) → Bool
  | [], [] => true
  | e :: es, (k, v) :: kvs => isSt e.key k && isSt e.val v && chkD es kvs
  | _, _ => false
theorem isSt_of {v : Value} {x : Str} (h : isSt v x = true) : ∃ t, v = .str x t := by
  cases v <;> simp [isSt] at h
  subst h
  exact ⟨_, rfl⟩
theorem chk_find : ∀ {es : List DictEntry} {kvs : List (Str × Str)}, chkD es kvs = true → ∀ z, match kvs.lookup z with | none => findBy Value.isStrOf es.toArray z = none | some v => ∃ t, findBy Value.isStrOf es.toArray z = some (.str v t)
  | [], [], _, z => by simp [findBy]
  | [], _ :: _, h, _ => by simp [chkD] at h
  | _ :: _, [], h, _ => by simp [chkD] at h
  | e :: es, (k, v) :: kvs, h, z => by
    simp only [chkD, Bool.and_eq_true] at h
    obtain ⟨t1, e1⟩ := isSt_of h.1.1
    obtain ⟨t2, e2⟩ := isSt_of h.1.2
    have ih := chk_find h.2 z
    unfold findBy at ih ⊢
    rw [List.find?_toArray] at ih ⊢
    by_cases q : z = k
    · subst q
      have : Value.isStrOf z e.key = true := by rw [e1]; simp [Value.isStrOf]
      rw [List.lookup]
      simp [this, e2]
    · have : Value.isStrOf z e.key = false := by rw [e1]; simp [Value.isStrOf]; exact fun w => q (by first | exact w | exact w.symm)
      have q' : (z == k) = false := by simp [q]
      rw [List.lookup, q', List.find?_cons_of_neg (by simp [this])]
      exact ih
theorem kds_of {K : PySem.W.Frag} {w : World} {d : Addr} {es : List DictEntry} {n : Nat} {kvs : List (Str × Str)} (h1 : K.lookup d = some ⟨.type "dict", none, .dict es.toArray n, #[]⟩) (h2 : PySem.W.KeysLit w.params es) (h3 : (d == sysModules) = false) (h4 : chkD es kvs = true) : KDS K w d kvs := ⟨es.toArray, n, ⟨h1, h2, h3⟩, chk_find h4⟩
def tKGet (kvs : List (Str × Str)) (d : Addr) (td ty : TE) : TE := fun σ H Q => td σ H fun x H1 => x = .ref d ∧ ty σ H1 fun y H2 => ∃ z, y = .str z ∧ Q (match kvs.lookup z with | none => .non | some v => .str v) H2
theorem pe_kget {X : Cx} {d : Addr} {kvs : List (Str × Str)} {o e : Expr} {apos cpos : Pos} {td ty : TE} (D : KDS X.K X.w d kvs) (ho : PE X o td) (he : PE X e ty) (m : M1 X o "get" apos e cpos) : PE X (.Call (.Attribute o "get" apos) [e] [] cpos) (tKGet kvs d td ty) := by
  obtain ⟨es, n, D, hf⟩ := D.ex
  refine ⟨fun pins s σ H Q I h => wpAny_Call_method m.base m.few m.line PySem.F.plainAttrs_dict PySem.F.slot_dict_get PySem.F.type_dict_get (thn (ho.run pins s σ H _ I h) ?_)⟩
  rintro u s1 ⟨x, H1, I1, rx, rfl, q1⟩
  obtain rfl : u = Value.ref d := rx
  refine ⟨kd_type D I1, fun b hb => ?_, ?_⟩
  · cases hb
    exact ⟨_, I1.kIn _ _ D.at_, rfl⟩
  rw [m.trees]
  refine wpAny_dict_get1 (knd := PySem.strKind X.prog X.w) D.low (thn (he.run pins s1 σ H1 _ I1 q1) ?_)
  rintro iv s2 ⟨y, H2, I2, ry, z, rfl, q2⟩
  obtain ⟨t, rfl⟩ := ry
  refine ⟨z, _, PySem.strKind_is X.prog X.w z t, PySem.W.mapOf_K (prog := X.prog) I2.kIn D.at_ D.lit, ?_⟩
  have hz := hf z
  cases q : kvs.lookup z with
  | none =>
    rw [q] at hz q2
    dsimp only at hz q2 ⊢
    rw [hz]
    exact ⟨.non, H2, I2.tok _, rfl, q2⟩
  | some v =>
    rw [q] at hz q2
    dsimp only at hz q2 ⊢
    obtain ⟨t', hz⟩ := hz
    rw [hz]
    exact ⟨.str v, H2, I2.tok _, ⟨t', rfl⟩, q2⟩
section
variable {c : Vc} {W : XW} {m : Md} {te : TE} {fe : VT}
def vKGet (kvs : List (Str × Str)) (fe : VT) : VT := fun e Q Qx => fe e (fun d e1 => ∃ z, d = .str z ∧ Q (match kvs.lookup z with | none => .non | some v => .str v) e1) Qx
theorem q_kget {kvs : List (Str × Str)} {d : Addr} (h : VB c te fe) : VQ c (tKGet kvs d (tC (.ref d)) te) (vKGet kvs fe) := fun fT fV T σ e H Q Qv Qx hR hf hn =>
  ⟨rfl, h fT fV T σ e H _ _ Qx hR hf fun v dd r ⟨z, ed, q⟩ => by
    subst ed
    refine ⟨z, r.str, ?_⟩
    cases w : kvs.lookup z with
    | none => rw [w] at q; exact hn _ _ rs_non q
    | some x => rw [w] at q; exact hn _ _ rs_str q⟩
end
end VL
set_option Elab.async false
set_option linter.all false
set_option maxRecDepth 100000
set_option maxHeartbeats 2000000
namespace VL
open PySem PySem.Spec PyProof.Rows L2
theorem sfldK {X : Cx} (K0 : PySem.W.Frag) (hK : X.K = K0) {o value : Expr} {f : Str} {pos pos' : Pos} {ta tv : TE} (ho : PE X o ta) (hv : PE X value tv) (hs : swapsWith value (some (.Attribute o f pos')) pos.line X.env = pure false) : PS X (.Assign [.Attribute o f pos'] value pos) (sFld K0 ta tv f) := by subst hK; exact ps_fld ho hv hs
theorem pe_mk0 {X : Cx} {x : Str} {C : Addr} {sp : Sp} {k j : Nat} {p pos : Pos} (c : C8.Mak X.prog X.w X.K X.mg X.base k x C sp []) (hr : Room j X.A) (hk : k + 1 ≤ j) (hg : Gl X x) (hdb : (x == ("__debug__" : Str)) = false := by decide) : PE X (.Call (.Name x p) [] [] pos) (tMake C sp [] C8.E0 tNil) := by
  obtain ⟨f, fd, ps, ds, M, F, hm, b, d⟩ := c.ex
  exact pe_make0 M F (hr.mono hk) hg hm b d C8.pass0 hdb
/-! ### defs that raise -/
section
variable {P : Program} {w : World} {K : PySem.W.Frag} {mg : Str → Option Value} {base : Heap}
theorem okN {x qual : Str} {st : Stmt} {f : Addr} {fd : FuncData} {N ps : List Str} {k : Nat} {sp : Sp} (F : L2.Fun K x qual st f fd) (S : FnScope N ps (defScope st)) (len : ∀ vs H Q E, sp vs H Q E → vs.length = ps.length)
    (hb : ∀ (cdv : Value) (A : Around) (outer : List PySem.Env) (s : Shared) (H : Hp) (vs : List V) (Q : VK) (E : XK), Room k (A.deeper (envOfC qual (defScope st) s.heap.objs.size f cdv)) → sp vs H Q E →
      ∃ t, PSs (cxOf (L2N.CX P w) P w K mg base N qual (defScope st) f cdv A outer s H E) (defBody st) t ∧ t { nx := fun _ H' => Q .non H', rt := Q } (start N vs) H) : FnOk P w K mg base (L2N.CX P w) (k + 1) f fd ps sp := by
  obtain ⟨oc, od, kV, doc, pm, an, cdv, ct, osl, rfl, lk, hcd⟩ := F.ex
  exact fn_of lk hcd S len fun A outer s H vs Q E hr hsp => hb cdv A outer s H vs Q E hr hsp
structure CalX (P : Program) (w : World) (K : PySem.W.Frag) (mg : Str → Option Value) (base : Heap) (k : Nat) (x : Str) (sp : Sp) : Prop where
  ex : ∃ (f : Addr) (fd : FuncData) (ps : List Str), FnOk P w K mg base (L2N.CX P w) k f fd ps sp ∧ mg x = some (.ref f) ∧ PySem.W.keepIn K (.ref f) = true ∧ Binds K fd ps []
end
theorem pe_cX {X : Cx} {x : Str} {sp : Sp} {k j : Nat} {W : WX} {e : Expr} {es : List Expr} {t : TA} {p pos : Pos} (c : CalX X.prog X.w X.K X.mg X.base k x sp) (hr : Room j X.A) (hk : k ≤ j) (hg : Gl X x) (tk : L2N.Takes X W) (ha : PA X (e :: es) t) (hdb : (x == ("__debug__" : Str)) = false := by decide) (he : starEach (e :: es) X.env = (false, eval e X.env) :: starEach es X.env := by rfl) (hpl : (backTo pos (starEach es X.env)).any (·.1) = false := by rfl) :
    PE X (.Call (.Name x p) (e :: es) [] pos) (tCallS sp (fun σ x d H => W x d σ H) t) := by
  obtain ⟨f, fd, ps, F, hm, kp, b⟩ := c.ex
  exact pe_callS F (hr.mono hk) hg hm kp b (fun σ => L2N.passAt tk σ) ha hdb he hpl
section
variable {c : Vc} {W : XW} {m : Md} {tA : TA} {fA : VTA}
def vCallX (n : Nat) (sp : VSp) (fA : VTA) : VT := fun e Q Qx => fA e (fun ds e1 => ds.length = n ∧ sp ds (fun r _ => Q r e1) fun x _ => Qx x e1) Qx
theorem v_callX {pM : List Sh} {rsh : Sh} {sp : VSp} (hA : VA c W m tA fA) (hs : ∀ sh ∈ pM, sh = .s) : VE c W m (tCallS (spOf c.K pM rsh sp) (fun σ x d H => W x d σ H) tA) rsh (vCallX pM.length sp fA) := fun T σ e H Q Qv Qx hR hf hn hx => by
  refine hA T σ e H _ _ Qx hR hf (fun fT fV vs ds e1 H1 X1 rs p ⟨hl, q⟩ => ?_) hx
  have how : ∀ a, (a ∈ ([] : List Addr) ++ [] ∨ owOf c fT fV a) → owOf c fT fV a := fun a z => z.elim (fun y => by cases y) id
  refine ⟨⟨c.K, H1, fun _ => False, owOf c fT fV, pM, roots pM 0 vs⟩, ds, fun r _ => Qv r e1, fun x _ => Qx x e1, rfl, rfl, rfl, rfl, ⟨hl, [], [], rfl, .of (RV.ofS hs (rs.less how) hl), by simp, fun a z => (by cases z), fun b o q _ => q, ExtT.refl H1, fun b q => q, fun a z => ⟨X1.owS z, id⟩, fun p hp => (by rw [roots_s hs] at hp; cases hp)⟩, q, ?_, ?_⟩
  · rintro v r ps H' hpl ⟨gT, gV, Y⟩ q
    have sm : Same H1 H' := fun b o z => Y.kp b o z id
    have hg : gV = [] := RV.fpS hs (Y.vr.strict hpl)
    subst hg
    obtain ⟨f1, f2, e2, r1, r2⟩ := Y.tm
    have r2 : f2 = [] := r2
    subst r2
    rw [List.append_nil] at e2
    subst e2
    have nd := Y.nd
    rw [List.append_nil] at nd
    have fr : ∀ a ∈ gT, H1 a = none := fun a z => (Y.fr a (by rw [List.append_nil]; exact z)).elim (fun y => y.elim) id
    refine hn v r e1 H' ⟨gT ++ fT, fV, X1.pushO sm nd fr (RO.fr (fun _ _ q _ => q) (ExtT.refl H') (fun a z => ?_) _ _ _ _ r1 (fun _ _ _ q => q))⟩ (p.trans (Post.same sm)) q
    rcases z with z | z
    · rw [List.append_assoc] at z
      rcases List.mem_append.mp z with z | z
      · exact .inl (.inl (by rw [List.append_nil]; exact z))
      · exact .inl (.inr (.inl z))
    · exact .inl (.inr (.inr z))
  · rintro x d ps H' _ ⟨gT, gV, Y⟩ y q
    exact hx x d e1 H' ⟨fT, fV, X1.same fun b o z => Y.kp b o z id⟩ y q
end
/-! ### str(x) of a text or a number -/
def rStrA : List V → Hp → VK → Prop := fun xs H Q => (∃ a, xs = [.str a] ∧ Q (.str a) H) ∨ ∃ i, xs = [.int i] ∧ i.natAbs.log2 < 1920 ∧ Q (.str (toString i)) H
theorem call_strA {X : Cx} : CallR X (.type "str") rStrA := fun pins s σ H xs us Q I r h => by
  rcases h with h | h
  · exact SkE.call_str_str pins s σ H xs us Q I r h
  · exact call_str_int pins s σ H xs us Q I r h
def gStrA : GA
  | [.str z], Q => Q (.str z)
  | [.int i], Q => i.natAbs.log2 < 1920 ∧ Q (.str (toString i))
  | _, _ => False
theorem cd_strA {K : PySem.W.Frag} : CaD K rStrA gStrA := fun ow H vs ds Q Qd rs hg hn => by
  unfold gStrA at hg
  split at hg
  · obtain ⟨v, rfl, r⟩ := pr1 rs
    exact .inl ⟨_, by rw [r.str], hn _ _ rs_str hg⟩
  · obtain ⟨v, rfl, r⟩ := pr1 rs
    exact .inr ⟨_, by rw [r.int], hg.1, hn _ _ rs_str hg.2⟩
  · exact hg.elim
/-! ### a tuple of the module's own -/
def strsD (l : List Str) : D := .tup (l.map D.str)
theorem q_ktup {c : Vc} {a : Addr} {l : List Str} (h : ∀ H, SqT c.K H a (l.map V.str)) : VQ c (tC (.ref a)) (vC (strsD l)) := fun fT fV T σ e H Q Qv Qx hR q hn => hn _ _ (by
  unfold strsD
  simp only [RS]
  exact ⟨a, _, rfl, h H, rs_strs l⟩) q
end VL
set_option Elab.async false
set_option linter.all false
set_option maxRecDepth 100000
set_option maxHeartbeats 2000000
namespace VL
open PySem PySem.Spec PyProof.Rows L2
section
variable {c : Vc} {W : XW} {m : Md} {te ta tb : TE} {fe fa fb f : VT} {tl th : TO} {fl fh : VTO}
def vNeg (fe : VT) : VT := fun e Q Qx => fe e (fun d e1 => ∃ i, d = .int i ∧ Q (.int (-i)) e1) Qx
theorem q_neg (h : VB c te fe) : VQ c (tUn (rU fun i => .int (-i)) te) (vNeg fe) := fun fT fV T σ e H Q Qv Qx hR hf hn =>
  h fT fV T σ e H _ _ Qx hR hf fun v d r ⟨i, ed, q⟩ => by
    subst ed
    exact ⟨i, r.int, hn _ _ rs_int q⟩
def gAny : GA
  | [.lst l], Q => ∃ bs : List Bool, l = bs.map D.bl ∧ Q (.bl (bs.any id))
  | _, _ => False
theorem cd_any {K : PySem.W.Frag} : CaD K (rAny K) gAny := fun ow H vs ds Q Qd rs hg hn => by
  unfold gAny at hg
  split at hg
  · obtain ⟨bs, rfl, q⟩ := hg
    obtain ⟨v, rfl, r⟩ := pr1 rs
    obtain ⟨a, ws, rfl, s, t⟩ := r.lst
    have e := t.bls
    subst e
    exact ⟨a, bs, rfl, s.sq, hn _ _ rs_bl q⟩
  · exact hg.elim
/-! slices of what is read on the spot -/
def VOQ (c : Vc) (to : TO) (f : VTO) : Prop := ∀ (fT fV : List Addr) (T : List Tm) (σ : L2.St) (e : Env) (H : Hp) (Q : Option Int → Hp → Prop) (Qv : Option Int → Env → Prop) (Qx : QX), RX c fT fV T σ e H → f e Qv Qx → (∀ o, Qv o e → Q o H) → to σ H Q
theorem voq_none : VOQ c tNoPart vNo := fun fT fV T σ e H Q Qv Qx hR hf hn => hn none hf
theorem voq_some (h : VQ c te fe) : VOQ c (tPart te) (vPart fe) := fun fT fV T σ e H Q Qv Qx hR hf hn =>
  h fT fV T σ e H _ _ Qx hR hf fun v d r ⟨i, ed, q⟩ => by
    subst ed
    exact ⟨i, r.b.int, hn _ q⟩
theorem v_slLq {r : RSl} {g : D → Option Int → Option Int → (List D → Prop) → Prop} (h : VB c te fe) (hl : VOQ c tl fl) (hh : VOQ c th fh) (ho : SlL c.K r g) : VE c W m (tSl r te tl th) (.l .s) (vSlL g fe fl fh) := fun T σ e H Q Qv Qx ⟨fT, fV, hR⟩ hf hn hx =>
  h fT fV T σ e H _ _ Qx hR hf fun x dx rx h1 => hl fT fV T σ e H _ _ Qx hR h1 fun lo h2 => hh fT fV T σ e H _ _ Qx hR h2 fun hi h3 => ho _ H x dx lo hi Q _ rx h3 fun zs vs a rz qz ha => hn _ _ e _ (hR.newL ha rz) (Post.same (same_new ha)) qz
/-! a cell, told by a value, as a tuple or a list -/
def vCaTd (n : Nat) (g : GAL) (fe : VT) : VT := fun e Q Qx => fe e (fun x e1 => ∃ a d, x = .ref a ∧ Cell n e1 a d ∧ g [d] fun z => Q (.tup z) e1) Qx
theorem v_caTd {r : List V → Hp → VK → Prop} {g : GAL} (h : VE c W m te .s fe) (ho : CaT c.K r g) : VE c W m (tCB r (tCons te tNil)) .s (vCaTd c.M.length g fe) := fun T σ e H Q Qv Qx hR hf hn hx =>
  h T σ e H _ _ Qx hR hf (fun v d e1 H1 ⟨fT, fV, X0⟩ p ⟨a, d', ed, hc, q⟩ => by
    subst ed
    obtain ⟨r, X1⟩ := X0.topS
    clear X0
    have z : v = .ref a := by simpa only [RS] using r
    subst z
    exact ho _ H1 [.ref a] [d'] Q _ (.cons (X1.cellB hc).1 .nil) q fun zs ws b H2 rz qz s sq => hn _ _ e1 _ (X1.newT s sq rz) (p.trans (Post.same s)) qz) hx
/-! one's own list and another one put together -/
def vOp2Lv (i : Nat) (g : G2L) (fb : VT) : VT := fun e Q Qx => (∃ d, e[i]? = some (some d)) ∧ fb e (fun y e1 => ∃ l, e1[i]? = some (some (.lst l)) ∧ g (.lst l) y fun z => Q (.lst z) e1) Qx
theorem v_opLv {r : R2} {g : G2L} {i : Nat} (hM : c.M[i]? = some (.l .s)) (hb : VE c W m tb .s fb) (ho : OpL c.K r g) : VE c W m (tOp r (tVar i) tb) (.l .s) (vOp2Lv i g fb) := fun T σ e H Q Qv Qx ⟨fT, fV, hX⟩ ⟨⟨d, hd⟩, hf⟩ hn hx => by
  obtain ⟨v, fp, hv, _⟩ := hX.upd hM hd
  refine ⟨v, hv, hb T σ e H _ _ Qx ⟨fT, fV, hX⟩ hf (fun y dy e1 H1 R1 p ⟨l, hl, q⟩ => ?_) hx⟩
  obtain ⟨gT, gV, X0⟩ := R1
  obtain ⟨ry, X1⟩ := X0.topS
  obtain ⟨v', fp', hv', ro, _⟩ := X1.upd hM hl
  rw [hv] at hv'
  cases hv'
  exact ho _ H1 v y _ dy Q _ ro.bl.1 ry.b q fun zs vs a rz qz ha => hn _ _ e1 _ (X1.newL ha rz) (p.trans (Post.same (same_new ha))) qz
end
end VL
set_option Elab.async false
set_option linter.all false
set_option maxRecDepth 100000
set_option maxHeartbeats 2000000
namespace VL
open PySem PySem.Spec PyProof.Rows L2
section
variable {c : Vc} {W : XW} {m : Md} {ta tb : TE} {fa fb : VT}
theorem v_opLeb {r : R2} {g : G2L} (ha : VE c W m ta .s fa) (hb : VB c tb fb) (ho : OpL c.K r g) : VE c W m (tOp r ta tb) (.l .s) (vOp2L g fa fb) := fun T σ e H Q Qv Qx hR hf hn hx =>
  ha T σ e H _ _ Qx hR hf (fun x dx e1 H1 ⟨fT, fV, X0⟩ p q => by
    obtain ⟨rx, X1⟩ := X0.topS
    exact hb fT fV T σ e1 H1 _ _ Qx X1 q fun y dy ry q => ho _ H1 x y dx dy Q _ rx.b ry q fun zs vs a rz qz ha => hn _ _ e1 _ (X1.newL ha rz) (p.trans (Post.same (same_new ha))) qz) hx
end
/-! the rules of cells, the place told by a number -/
section
variable {c : Vc} {W : XW} {m : Md} {te ta tb tv ti : TE} {fe fa fb fv fi : VT} {tA : TA} {fA : VTA} {as : List (Option Nat)} {rsh : Sh} {pM : List Sh} {sp : VSp} {E : XK} {C : Addr} {nm f : Str}
theorem n_cell (n : Nat) (hn : c.M.length = n) (h : VQ c te fe) : VB c te (vDr n fe) := by subst hn; exact b_cell h
theorem n_cellL (n : Nat) (hn : c.M.length = n) (h : VE c W .e te (.l .s) fe) : VE c W .e te .s (vCell n fe) := by subst hn; exact v_cellL h
theorem n_cellD (n : Nat) (hn : c.M.length = n) (h : VE c W .e te (.d fun _ => .s) fe) : VE c W .e te .s (vCell n fe) := by subst hn; exact v_cellD h
theorem n_appC (n : Nat) (hn : c.M.length = n) (he : VQ c te fe) (hv : VE c W .e tv .s fv) : VE c W .e (tBM c.K "list" rAppend te (tCons tv tNil)) .s (vAppC n fe fv) := by subst hn; exact v_appC he hv
theorem n_popC (n : Nat) (hn : c.M.length = n) (he : VQ c te fe) : VE c W .e (tBM0 c.K "list" rPop te) .s (vPopC n fe) := by subst hn; exact v_popC he
theorem n_setF (n : Nat) (hn : c.M.length = n) (hC : Cls c.K C) (hN : NoAttr c.K C f) (he : VQ c te fe) (hv : VE c W .e tv .s fv) : VS c W rsh (sFld c.K te tv f) (vSetF n C f fe fv) := by subst hn; exact vs_setF hC hN he hv
theorem n_setIxC (n : Nat) (hn : c.M.length = n) (he : VQ c te fe) (hv : VE c W .e tv .s fv) (hi : VE c W .e ti .s fi) : VS c W rsh (tAsg tv (gSub te ti rSetL)) (vSetIxC n fe fi fv) := by subst hn; exact vs_setIxC he hv hi
theorem n_callA (n : Nat) (hn : c.M.length = n) (hA : VAx c W tA as fA) (hs : ShOk c.M as pM) : VE c W .e (tCall (spA c.K pM rsh sp) [] E tA) rsh (vCallA n pM.length as sp fA) := by subst hn; exact v_callA hA hs
theorem n_callAX (n : Nat) (hn : c.M.length = n) (hA : VAx c W tA as fA) (hs : ShOk c.M as pM) : VE c W .e (tCallS (spA c.K pM rsh sp) (fun σ x d H => W x d σ H) tA) rsh (vCallAX n pM.length as sp fA) := by subst hn; exact v_callAX hA hs
theorem n_makeA (n : Nat) (hn : c.M.length = n) (hA : VAx c W tA as fA) (hs : ShOk c.M as pM) : VE c W .e (tMake C (spA c.K (.s :: pM) .s sp) [] E tA) .s (vMakeA n (pM.length + 1) C as sp fA) := by subst hn; exact v_makeA hA hs
theorem n_methA (n : Nat) (hn : c.M.length = n) (he : VQ c te fe) (hA : VAx c W tA as fA) (hs : ShOk c.M as pM) : VE c W .e (tMeth C nm (spA c.K (.s :: pM) rsh sp) [] E te tA) rsh (vMethA n (pM.length + 1) C nm as sp fe fA) := by subst hn; exact v_methA he hA hs
theorem n_caTd {r : List V → Hp → VK → Prop} {g : GAL} (n : Nat) (hn : c.M.length = n) (h : VE c W m te .s fe) (ho : CaT c.K r g) : VE c W m (tCB r (tCons te tNil)) .s (vCaTd n g fe) := by subst hn; exact v_caTd h ho
end
end VL
set_option Elab.async false
set_option linter.all false
set_option maxRecDepth 100000
set_option maxHeartbeats 2000000
namespace VL
open PySem PySem.Spec PyProof.Rows L2
theorem inV_strs {z : Str} : ∀ ks : List Str, inV (.str z) (ks.map V.str) = decide (z ∈ ks)
  | [] => by simp [inV]
  | k :: ks => by
    have ih := inV_strs (z := z) ks
    unfold inV at ih ⊢
    rw [List.map_cons, List.any_cons, ih]
    by_cases e : k = z
    · subst e
      simp [eqV]
    · have e' : ¬ z = k := fun w => e w.symm
      simp [eqV, e, e']
theorem map_sc (ks : List Str) : (ks.map D.str).map scV = ks.map V.str := by rw [List.map_map]; rfl
theorem all_sc (ks : List Str) : (ks.map D.str).all isSc = true := by simp [isSc]
/-- in, among texts -/
theorem in_strs {z : Str} {ks : List Str} : inV (scV (.str z)) ((ks.map D.str).map scV) = decide (z ∈ ks) := by rw [map_sc]; exact inV_strs ks
theorem lc_signs {vs : List Nat} {vg : VTG} {fe : VT} {Q : List D → Env → Prop} {e : Env} (p : Nat → Bool) (z : Str) (hz : z.length ≤ 100000)
    (h : ∀ c (A : D → Env → Prop) , (∀ e3, wipeE e3 vs = e → A (.bl (p c)) e3) → vg (.str ⟨#[c]⟩) e fun e1 => fe e1 A noX) (q : Q ((z.cps.toList.map p).map D.bl) e) : vLcL vs vg vYes fe Q (sgD z) [] e := by
  unfold sgD
  have hl : z.cps.toList.length = z.length := by simp [Str.length]
  refine lc_mapF (fun c => D.str ⟨#[c]⟩) (fun c => D.bl (p c)) z.cps.toList [] (by rw [List.length_nil, hl]; exact small (by omega)) (fun a _ A B hA => ?_) (by simpa [List.map_map, Function.comp_def] using q)
  have := h a A hA
  simpa [vYes] using this
theorem le_sg {a c : Nat} : (!decide ((⟨#[c]⟩ : Str).cps.toList < (⟨#[a]⟩ : Str).cps.toList)) = decide (a ≤ c) := by
  have e : ((⟨#[c]⟩ : Str).cps.toList < (⟨#[a]⟩ : Str).cps.toList) ↔ c < a := by
    show [c] < [a] ↔ c < a
    constructor
    · intro h
      rcases h with _ | _ | _
      all_goals first | assumption | skip
      all_goals simp_all
    · intro h
      exact List.Lex.rel h
  by_cases q : a ≤ c
  · have : ¬ c < a := by omega
    simp [e, this, q]
  · have : c < a := by omega
    simp [e, this, q]

theorem s_gInK {neg : Bool} {z : Str} {ks : List Str} {Q : D → Prop} : gIn neg (.str z) (strsD ks) Q = Q (.bl (if neg then !decide (z ∈ ks) else decide (z ∈ ks))) := by
  unfold strsD
  rw [s_gInT, in_strs, all_sc]
  simp [isSc]
theorem s_gInS {neg : Bool} {z : Str} {ks : List Str} {Q : D → Prop} : gIn neg (.str z) (.lst (ks.map D.str)) Q = Q (.bl (if neg then !decide (z ∈ ks) else decide (z ∈ ks))) := by
  rw [s_gInL, in_strs, all_sc]
  simp [isSc]
@[simp] theorem s_isScS {z : Str} : (isSc (.str z) = true) = True := by simp [isSc]
section
variable {Q : D → Prop} {QB : Bool → Prop} {QE : Env → Prop} {z : Str} {i n : Int} {b : Bool} {l : List D} {e : Env} {k : Nat} {vgs : VTGs}
theorem s_gIntS : gIntS [.str z] Q = ∃ n, PySem.intText? z = some n ∧ z.length ≤ 640 ∧ Q (.int n) := rfl
theorem s_gStrS : gStrS [.str z] Q = Q (.str z) := rfl
theorem s_gStrA1 : gStrA [.str z] Q = Q (.str z) := rfl
theorem s_gStrA2 : gStrA [.int i] Q = (i.natAbs.log2 < 1920 ∧ Q (.str (toString i))) := rfl
theorem s_gBoolL : gBoolL [.lst l] Q = Q (.bl (!l.isEmpty)) := rfl
theorem s_gMulS : gMulS (.str z) (.int n) Q = (PySem.MulOk z n ∧ Q (.str (Txt.mul z n))) := rfl
theorem s_gAny : gAny [.lst l] Q = ∃ bs : List Bool, l = bs.map D.bl ∧ Q (.bl (bs.any id)) := rfl
theorem s_truN : truD .non QB = QB false := rfl
theorem s_truB : truD (.bl b) QB = QB b := rfl
theorem s_truI : truD (.int i) QB = QB (i != 0) := rfl
theorem s_truS : truD (.str z) QB = (z.length ≤ sizeLine ∧ QB ((z.length : Int) != 0)) := rfl
theorem s_truL : truD (.lst l) QB = QB (!l.isEmpty) := rfl
theorem s_truT : truD (.tup l) QB = QB (!l.isEmpty) := rfl
theorem s_vgLst : vgLst k vgs (.lst l) e QE = (l.length = k ∧ vgs l e QE) := rfl
theorem s_seqL : seqD (.lst l) = some l := rfl
theorem s_seqT : seqD (.tup l) = some l := rfl
end
theorem cuD_to {l : List D} {p : Nat} (h : p ≤ l.length) : cuD l none (some (p : Int)) = l.take p := by
  unfold cuD
  rw [HT.sIx_none, HT.sIx_nat, List.drop_zero, Nat.sub_zero, Nat.min_eq_left h]
theorem cuD_from {l : List D} {p : Nat} (h : p ≤ l.length) : cuD l (some (p : Int)) none = l.drop p := by
  unfold cuD
  rw [HT.sIx_none, HT.sIx_nat, Nat.min_eq_left h]
  exact List.take_of_length_le (by rw [List.length_drop]; omega)
theorem cuD_1 {x : D} {l : List D} : cuD (x :: l) (some 1) none = l := cuD_from (l := x :: l) (p := 1) (by simp)
theorem cuD_2 {l : List D} (h : 2 ≤ l.length) : cuD l (some 2) none = l.drop 2 := cuD_from (p := 2) h
theorem zipD_strs {f : Nat → D} (a : List Nat) (b : List Str) : zipD (a.map f) (b.map D.str) = (a.zip b).map fun p => .tup [f p.1, .str p.2] := by
  unfold zipD
  rw [List.zipWith_map, List.zip, List.map_zipWith]
theorem ex_par {x y : D} {P : D → D → Prop} : (∃ a b, [x, y] = [a, b] ∧ P a b) = P x y := by
  apply propext
  constructor
  · rintro ⟨a, b, e, h⟩
    cases e
    exact h
  · exact fun h => ⟨x, y, rfl, h⟩
section
variable {neg : Bool} {z a b c d e : Str} {Q : D → Prop}
theorem s_gIn2 : gIn neg (.str z) (.tup [.str a, .str b]) Q = Q (.bl (if neg then !decide (z ∈ [a, b]) else decide (z ∈ [a, b]))) := s_gInK (ks := [a, b])
theorem s_gIn3 : gIn neg (.str z) (.tup [.str a, .str b, .str c]) Q = Q (.bl (if neg then !decide (z ∈ [a, b, c]) else decide (z ∈ [a, b, c]))) := s_gInK (ks := [a, b, c])
theorem s_gIn4 : gIn neg (.str z) (.tup [.str a, .str b, .str c, .str d]) Q = Q (.bl (if neg then !decide (z ∈ [a, b, c, d]) else decide (z ∈ [a, b, c, d]))) := s_gInK (ks := [a, b, c, d])
theorem s_gIn5 : gIn neg (.str z) (.tup [.str a, .str b, .str c, .str d, .str e]) Q = Q (.bl (if neg then !decide (z ∈ [a, b, c, d, e]) else decide (z ∈ [a, b, c, d, e]))) := s_gInK (ks := [a, b, c, d, e])
end
/-- an if without else, its test told at once -/
theorem guard {ft : VTB} {f : VTS} {U : VEnds} {e : Env} (b : Bool) (ht : ∀ QB : Bool → Env → Prop, QB b e → ft e QB U.ex) (h1 : b = true → f U e) (h2 : b = false → U.nx e) : vIfS ft f vNext U e := by
  rw [s_ifS]
  refine ht _ ?_
  cases b with
  | true => exact h1 rfl
  | false => exact h2 rfl
theorem guard2 {ft : VTB} {f g : VTS} {U : VEnds} {e : Env} (b : Bool) (ht : ∀ QB : Bool → Env → Prop, QB b e → ft e QB U.ex) (h1 : b = true → f U e) (h2 : b = false → g U e) : vIfS ft f g U e := by
  rw [s_ifS]
  refine ht _ ?_
  cases b with
  | true => exact h1 rfl
  | false => exact h2 rfl
theorem cellAt_set {d0 d : D} {a b : Addr} : ∀ {al : List Addr} {l : List D}, cellAt al l a = some d0 → cellAt al (cellSet al l a d) b = if a = b then some d else cellAt al l b
  | [], _, h => by simp [cellAt] at h
  | _ :: _, [], h => by simp [cellAt] at h
  | c :: al, x :: l, h => by
    simp only [cellAt, cellSet] at h ⊢
    by_cases e : c = a
    · rw [if_pos e]
      simp only [cellAt]
      by_cases e2 : a = b
      · rw [if_pos (e.trans e2), if_pos e2]
      · rw [if_neg (fun z => e2 (e.symm.trans z)), if_neg (fun z => e2 (e.symm.trans z)), if_neg e2]
    · rw [if_neg e] at h ⊢
      simp only [cellAt]
      by_cases e2 : c = b
      · rw [if_pos e2, if_pos e2, if_neg (fun z => e (e2.trans z.symm))]
      · rw [if_neg e2, if_neg e2, cellAt_set h]
theorem cellAt_new {a b : Addr} {d : D} {al : List Addr} {l : List D} : cellAt (a :: al) (d :: l) b = if a = b then some d else cellAt al l b := rfl
theorem ex_cell {n : Nat} {e : Env} {a : Addr} {d : D} : Cell n e a d = ∃ al l, e[n]? = some (some (.mem al l)) ∧ cellAt al l a = some d := rfl
theorem cell_no {a : Addr} {d : D} {al : List Addr} {l : List D} : cellAt al l a = some d → a ∈ al := fun h => by
  induction al generalizing l with
  | nil => simp [cellAt] at h
  | cons c al ih =>
    cases l with
    | nil => simp [cellAt] at h
    | cons x l =>
      simp only [cellAt] at h
      split at h
      · rename_i e; rw [e]; exact List.mem_cons_self
      · exact List.mem_cons_of_mem _ (ih h)
section
variable {ds : List D} {al al' : List Addr} {l l' : List D} {x y z u : D}
theorem ap1 (h : ds ++ [.mem al l] = [x, .mem al' l']) : ds = [x] ∧ al = al' ∧ l = l' := by
  obtain ⟨a, b⟩ := List.append_inj' (s₂ := [x]) h rfl
  cases b
  exact ⟨a, rfl, rfl⟩
theorem ap2 (h : ds ++ [.mem al l] = [x, y, .mem al' l']) : ds = [x, y] ∧ al = al' ∧ l = l' := by
  obtain ⟨a, b⟩ := List.append_inj' (s₂ := [x, y]) h rfl
  cases b
  exact ⟨a, rfl, rfl⟩
theorem ap3 (h : ds ++ [.mem al l] = [x, y, z, .mem al' l']) : ds = [x, y, z] ∧ al = al' ∧ l = l' := by
  obtain ⟨a, b⟩ := List.append_inj' (s₂ := [x, y, z]) h rfl
  cases b
  exact ⟨a, rfl, rfl⟩
end
end VL
set_option Elab.async false
set_option linter.all false
set_option maxRecDepth 100000
set_option maxHeartbeats 2000000
namespace VL
open PySem PySem.W PySem.Calls PyProof.Rows L2
/-- the law's own call, by its promise over data -/
def vpLaw : VSp := fun ds Q _ => ∃ ns : List Int, ds = [.lst (ns.map D.int)] ∧ ns.length ≤ 63 ∧ Q (.bl true) [none]
theorem rs_ints' {K : PySem.W.Frag} {ow : Addr → Prop} {H : Hp} : ∀ ns : List Int, RSs K ow H (ns.map D.int) (ns.map V.int)
  | [] => .nil
  | _ :: ns => .cons rs_int (rs_ints' ns)
theorem law_start {K : PySem.W.Frag} {H : Hp} {a : Addr} {ns : List Int} {E : XK} (h : LsR K H a (ns.map V.int)) (hl : ns.length ≤ 63) : spOf K [.s] .s vpLaw [.ref a] H (fun v _ => v = .bl true) E := by
  refine ⟨⟨K, H, fun _ => False, fun _ => False, [.s], roots [.s] 0 [.ref a]⟩, [.lst (ns.map D.int)], fun r _ => r = .bl true, fun _ _ => False, rfl, rfl, rfl, rfl, ⟨rfl, [], [], rfl, .of ⟨some (.ref a), [], some _, [], [], [], rfl, rfl, rfl, ⟨.ref a, rfl, RO_s.mpr ⟨rfl, ?_⟩⟩, rfl, rfl, rfl⟩, by simp, fun x z => (by cases z), fun b o q _ => q, ExtT.refl H, fun b q => q, fun x z => z.elim, fun p hp => (by simp only [roots] at hp; cases hp)⟩, ⟨ns, rfl, hl, rfl⟩, ?_, fun _ _ _ _ _ _ _ z => z.elim⟩
  · simp only [RS]
    refine ⟨a, _, rfl, ?_, rs_ints' ns⟩
    rcases h with h | h
    · exact .inl ⟨h, fun z => z.elim (fun y => by cases y) id⟩
    · exact .inr h
  · rintro v r ps H' _ ⟨fT, fV, X⟩ e
    subst e
    exact X.topS.1.b.bl
theorem law_V {P : Program} {w : World} {K : Frag} {mg mb : Str → Option Value} {k : Nat} {fa a : Addr} {fd : FuncData} {x : Str} {s₁ : Shared} {vs : List Value} {ns : List Int}
    (KX : K.In s₁.heap) (hns : s₁.heap.Ns mainGlobals mg) (hb : s₁.heap.Ns builtinsNs mb) (hbb : ∀ x : Str, x ≠ "__name__" → mb x = bootBuiltins x) (hlim : s₁.heap.NoLimit) (hg : s₁.gens = #[])
    (ha : s₁.heap.get? a = some { cls := .type "list", data := .seq vs.toArray }) (hi : IntsAre vs ns) (hl : ns.length ≤ sizeLine) (h63 : ns.length ≤ 63) (hr : Room k callerA)
    (F : ∀ base : Heap, K.In base → base.Ns mainGlobals mg → Fb.FnG P w K mg base k fa fd [x] (spOf K [.s] .s vpLaw)) (hbind : ∀ (s : Shared) (u : Value), BindsTo s fd ⟨[u], []⟩ [(x, u)]) :
    codeAny (model P w) callerA (.call (.ref fa) ⟨[.ref a], []⟩) (fun r s' => r = .ok (.ret (.bool true)) ∧ OldK s₁.heap s'.heap ∧ s'.os = s₁.os ∧ AllBare s'.gens) s₁ := by
  have rv := vals_ints hi
  have lv := hi.length
  have core : ∀ H : Hp, Only H → LsR K H a (ns.map V.int) → HOk P w H s₁.heap → (∀ b, H b ≠ none → b = a) → (H a ≠ none → K.lookup a = none) →
      codeAny (model P w) callerA (.call (.ref fa) ⟨[.ref a], []⟩) (fun r s' => r = .ok (.ret (.bool true)) ∧ OldK s₁.heap s'.heap ∧ s'.os = s₁.os ∧ AllBare s'.gens) s₁ := by
    intro H0 hO hS hok hA hK
    have tracked : ∀ {b : Addr} {u : HO}, H0 b = some u → b = a := fun {b u} q => hA b (by rw [q]; simp)
    have hid : ∀ {b : Addr} {o : Obj}, s₁.heap.get? b = some o → H0 b = none → (hidT s₁.heap H0).get? b = some o := fun e n => hidT_get e n
    have noD : ∀ {b : Addr} {o : Obj} {es : Array DictEntry} {ep : Nat}, s₁.heap.get? b = some o → o.data = .dict es ep → H0 b = none := fun {b o es ep} e dt => by
      cases q : H0 b with
      | none => rfl
      | some u =>
        obtain rfl := tracked q
        rw [ha] at e; cases e
        have z : Data.seq vs.toArray _ = Data.dict es ep := dt
        cases z
    have nsK : ∀ {b : Addr} {m : Str → Option Value}, s₁.heap.Ns b m → (hidT s₁.heap H0).Ns b m := fun {b m} ⟨o, es, ep, e, dt, r⟩ => ⟨o, es, ep, hid e (noD e dt), dt, r⟩
    have kIn : K.In (hidT s₁.heap H0) := fun b o e => hid (KX b o e) (by
      cases q : H0 b with
      | none => rfl
      | some u =>
        obtain rfl := tracked q
        rw [hK (by rw [q]; simp)] at e; cases e)
    have md : Mod K mg (hidT s₁.heap H0) := ⟨kIn, nsK hns, ⟨mb, nsK hb, hbb⟩, let ⟨mc, h1, h2⟩ := hlim; ⟨mc, nsK h1, h2⟩⟩
    have env : Env0 P w K mg (hidT s₁.heap H0) callerA [] s₁ H0 := ⟨rfl, md, fun b o e => of_hidT e, Nat.le_of_eq (hidT_size _ _), trivial, fun b z => absurd (show b ∈ ([] : List Addr) from z) (by simp), hok, .of_eq hg⟩
    refine codeAny_mono ((F _ kIn (nsK hns)).run callerA [] s₁ H0 ⟨[.ref a], []⟩ [.ref a] [.ref a] (fun v _ => v = .bl true) (fun _ _ _ => False) rfl hr env (hbind s₁ (.ref a)) (.cons rfl .nil) (law_start hS h63)) fun r s' h => ?_
    cases r with
    | error e => exact h.elim
    | ok fl =>
      cases fl with
      | next => exact h.elim
      | brk => exact h.elim
      | cont => exact h.elim
      | ret u =>
        obtain ⟨v, H', os, bare, un, ok2, rl, q⟩ := h
        obtain rfl : v = .bl true := q
        obtain rfl : u = Value.bool true := rl
        refine ⟨rfl, OldK.of_keep fun b o e => ?_, os, bare⟩
        cases q : H0 b with
        | none => exact un.keep b o e q (fun z => absurd (show b ∈ ([] : List Addr) from z) (by simp)) (by simp)
        | some u =>
          rcases hO b with z | ⟨ob, xs, z⟩
          · rw [q] at z; cases z
          · obtain ⟨e1, _⟩ := hok b _ z
            obtain ⟨e2, _⟩ := ok2 b _ (un.frzs b ob _ z)
            rw [e] at e1; cases e1
            exact e2
  cases hk : K.lookup a with
  | some o =>
    have e := KX a o hk
    rw [ha] at e
    cases e
    exact core (fun _ => none) (fun _ => .inl rfl) (.inr ⟨vs, _, hk, by rw [lv]; exact hl, rv⟩) (fun b u z => by have y : (none : Option HO) = some u := z; cases y) (fun b z => absurd rfl z) fun z => absurd rfl z
  | none =>
    refine core (fun b => if b = a then some (.frz { cls := .type "list", data := .seq vs.toArray } (.lst (ns.map V.int))) else none) (fun b => ?_) (.inl (.inr ⟨{ cls := .type "list", data := .seq vs.toArray }, if_pos rfl⟩)) (fun b u z => ?_) (fun b z => ?_) fun _ => hk
    · by_cases q : b = a
      · exact .inr ⟨_, _, if_pos q⟩
      · exact .inl (if_neg q)
    · by_cases q : b = a
      · have y := (if_pos q).symm.trans z
        cases y
        subst q
        exact ⟨ha, by rw [List.length_map]; exact hl, vs, _, rv, ha⟩
      · have y := (if_neg q).symm.trans z
        cases y
    · by_cases q : b = a
      · exact q
      · exact absurd (if_neg q) z
theorem walk_V {l : OpenLaw} {k : Nat} {q : Program} {loose : List Str} {XP : (Str → Option Value) → Heap → Prop} {YP : World → Heap → Prop} {d : DefRec} {K : Params → Frag} {x : Str}
    (hn : l.most = some 63) (hdf : d.params.defaults = []) (hr : Room k callerA) (hY : ∀ (w : World) (h : Heap), YP w h → (K w.params).In h)
    (F : ∀ (w : World) (mg : Str → Option Value) (fa : Addr) (h : Heap), (K w.params).In h → h.Ns mainGlobals mg → XP mg h → mg d.name = some (.ref fa) →
      ∃ fd : FuncData, (∀ (s : Shared) (u : Value), BindsTo s fd ⟨[u], []⟩ [(x, u)]) ∧ ∀ base : Heap, (K w.params).In base → base.Ns mainGlobals mg → Fb.FnG l.prog w (K w.params) mg base k fa fd [x] (spOf (K w.params) [.s] .s vpLaw)) :
    WalkO q loose XP YP l.row.toRowW d [] (fun f vs => PySem.call f vs) := by
  refine Att.attach_call hn hdf fun w s₀ s₁ mg mb fa o pm cd doc a vs ns G Y ho hd hcd hmg hobj hints hlen hg => ?_
  obtain ⟨fd, hb, hF⟩ := F w mg fa _ (hY w _ Y) G.T.g G.X hmg
  exact law_V (hY w _ Y) G.T.g G.T.b G.T.builtins G.T.nolimit hg hobj hints (Nat.le_trans hlen (by decide)) hlen hr hF hb
end VL
set_option Elab.async false
set_option linter.all false
set_option maxRecDepth 100000
set_option maxHeartbeats 4000000
namespace K10
open PySem PySem.Spec PyProof.Rows L2 L2H HotX Fb VL
def top (i : Nat) : Stmt := PySem.Challenge.pw_fourbind_k10_whole_any_rows.main.body.getD i (.Pass ⟨0, 0, 0, 0⟩)
abbrev s_is_name : Stmt := top 9
abbrev s_is_number : Stmt := top 10
abbrev s_shape_of : Stmt := top 16
abbrev s_fits : Stmt := top 17
abbrev s_is_of : Stmt := top 18
abbrev s_started : Stmt := top 19
abbrev s_read : Stmt := top 20
abbrev s__law_deal : Stmt := top 22
abbrev s__law_draw : Stmt := top 23
abbrev s__law_words : Stmt := top 24
abbrev s__law_alike : Stmt := top 25
abbrev s__law_is_name : Stmt := top 26
abbrev s__law_atom_in : Stmt := top 27
abbrev s__law_in_row : Stmt := top 28
abbrev s__law_read : Stmt := top 29
abbrev s__law_any_atom : Stmt := top 30
abbrev s__law_any_row : Stmt := top 31
abbrev s__law_told : Stmt := top 32
abbrev s_law : Stmt := top 33
abbrev s_Reading___init__ : Stmt := inClass (top 15) 0
abbrev s_Reading_take : Stmt := inClass (top 15) 1
abbrev s_Reading_in_first_arm : Stmt := inClass (top 15) 2
abbrev s_Reading_end_block : Stmt := inClass (top 15) 3
abbrev s_Reading_begin_other : Stmt := inClass (top 15) 4
abbrev s_Reading_close : Stmt := inClass (top 15) 5
abbrev s_NoText_init : Stmt := inClass (top 2) 0
structure Top (K : PySem.W.Frag) (w : World) (mg : Str → Option Value) (a_Reading a_BindError a_NoText a_SIGNS a_MODES a_WORDS a_SHAPES a_WITH_BLOCKS : Addr) : Prop where
  n_len : mg "len" = none
  n_isinstance : mg "isinstance" = none
  n_max : mg "max" = none
  n_list : mg "list" = none
  n_reversed : mg "reversed" = none
  n_range : mg "range" = none
  n_int : mg "int" = none
  n_tuple : mg "tuple" = none
  n_str : mg "str" = none
  n_bool : mg "bool" = none
  n_all : mg "all" = none
  n_any : mg "any" = none
  n_zip : mg "zip" = none
  n_enumerate : mg "enumerate" = none
  n_ValueError : mg "ValueError" = none
  c_LONGEST : Cn mg "LONGEST" (.int 6)
  c_MOST_FIGURES : Cn mg "MOST_FIGURES" (.int 9)
  c_SIGNS : Cn mg "SIGNS" (.ref a_SIGNS)
  w_SIGNS : ∀ H, SqT K H a_SIGNS ([("+" : Str), ("-" : Str), ("*" : Str), ("<" : Str), ("=" : Str)].map V.str)
  c_MODES : Cn mg "MODES" (.ref a_MODES)
  w_MODES : ∀ H, SqT K H a_MODES ([("own" : Str), ("one" : Str)].map V.str)
  c_WORDS : Cn mg "WORDS" (.ref a_WORDS)
  w_WORDS : ∀ H, SqT K H a_WORDS ([("let" : Str), ("fn" : Str), ("call" : Str), ("set" : Str), ("tell" : Str), ("if" : Str), ("else" : Str), ("while" : Str), ("times" : Str), ("own" : Str), ("one" : Str), ("give" : Str), ("end" : Str)].map V.str)
  c_SHAPES : Cn mg "SHAPES" (.ref a_SHAPES)
  k_SHAPES : KDS K w a_SHAPES [("let", "xa"), ("set", "xa"), ("tell", "a"), ("give", "a"), ("if", "a"), ("while", "a"), ("times", "mxa")]
  c_SUM_SHAPE : Cn mg "SUM_SHAPE" (.str "xasa")
  c_WITH_BLOCKS : Cn mg "WITH_BLOCKS" (.ref a_WITH_BLOCKS)
  w_WITH_BLOCKS : ∀ H, SqT K H a_WITH_BLOCKS ([("fn" : Str), ("if" : Str), ("while" : Str), ("times" : Str)].map V.str)
  cl_Reading : Cls K a_Reading
  c_Reading : Cn mg "Reading" (.ref a_Reading)
  m_Reading : mg "Reading" = some (.ref a_Reading)
  n_Reading_blocks : NoAttr K a_Reading "blocks"
  n_Reading_starts : NoAttr K a_Reading "starts"
  h_Reading___init__ : ∃ f fd, L2.Fun K "__init__" "Reading.__init__" s_Reading___init__ f fd ∧ Mk K a_Reading f
  h_Reading_take : ∃ f fd, L2.Fun K "take" "Reading.take" s_Reading_take f fd ∧ Meth K a_Reading "take" f
  h_Reading_in_first_arm : ∃ f fd, L2.Fun K "in_first_arm" "Reading.in_first_arm" s_Reading_in_first_arm f fd ∧ Meth K a_Reading "in_first_arm" f
  h_Reading_end_block : ∃ f fd, L2.Fun K "end_block" "Reading.end_block" s_Reading_end_block f fd ∧ Meth K a_Reading "end_block" f
  h_Reading_begin_other : ∃ f fd, L2.Fun K "begin_other" "Reading.begin_other" s_Reading_begin_other f fd ∧ Meth K a_Reading "begin_other" f
  h_Reading_close : ∃ f fd, L2.Fun K "close" "Reading.close" s_Reading_close f fd ∧ Meth K a_Reading "close" f
  c_BindError : Cn mg "BindError" (.ref a_BindError)
  m_BindError : mg "BindError" = some (.ref a_BindError)
  c_NoText : Cn mg "NoText" (.ref a_NoText)
  m_NoText : mg "NoText" = some (.ref a_NoText)
  x_NoText : ExcC K a_NoText
  b_NoText : PySem.W.exmOne K (.ref a_NoText) (.ref a_BindError) = some true
  ox_NoText : OexC K a_NoText
  f_NoText : XfC K a_NoText
  q_NoText_row : PySem.W.findIn K (.ref a_NoText) "row" = some none
  i_NoText : ∃ f fd, L2.Fun K "__init__" "NoText.__init__" s_NoText_init f fd ∧ PySem.W.findIn K (.ref a_NoText) "__init__" = some (some (.ref f)) ∧ PySem.W.typeIn K (.ref f) = some (.type "function")
  h_is_name : Has K mg "is_name" s_is_name
  h_is_number : Has K mg "is_number" s_is_number
  h_shape_of : Has K mg "shape_of" s_shape_of
  h_fits : Has K mg "fits" s_fits
  h_is_of : Has K mg "is_of" s_is_of
  h_started : Has K mg "started" s_started
  h_read : Has K mg "read" s_read
  h__law_deal : Has K mg "_law_deal" s__law_deal
  h__law_draw : Has K mg "_law_draw" s__law_draw
  h__law_words : Has K mg "_law_words" s__law_words
  h__law_alike : Has K mg "_law_alike" s__law_alike
  h__law_is_name : Has K mg "_law_is_name" s__law_is_name
  h__law_atom_in : Has K mg "_law_atom_in" s__law_atom_in
  h__law_in_row : Has K mg "_law_in_row" s__law_in_row
  h__law_read : Has K mg "_law_read" s__law_read
  h__law_any_atom : Has K mg "_law_any_atom" s__law_any_atom
  h__law_any_row : Has K mg "_law_any_row" s__law_any_row
  h__law_told : Has K mg "_law_told" s__law_told
abbrev sLaw : Stmt := s_law
section
variable {K : PySem.W.Frag} {w : World} {mg : Str → Option Value} {a_Reading a_BindError a_NoText a_SIGNS a_MODES a_WORDS a_SHAPES a_WITH_BLOCKS : Addr}
theorem Top.xm_BindError (T : Top K w mg a_Reading a_BindError a_NoText a_SIGNS a_MODES a_WORDS a_SHAPES a_WITH_BLOCKS) : ∀ p ∈ ([(a_NoText, [("row" : Str)])] : List (Addr × List Str)), PySem.W.exmOne K (.ref p.1) (.ref a_BindError) = some true := fun p hp => by
  simp only [List.mem_cons, List.not_mem_nil, or_false] at hp
  rcases hp with rfl
  · exact T.b_NoText
theorem Top.nm_BindError (T : Top K w mg a_Reading a_BindError a_NoText a_SIGNS a_MODES a_WORDS a_SHAPES a_WITH_BLOCKS) {X : Cx} (h : X.mg = mg) (hg : Gl X "BindError" := by rfl) : Names X "BindError" (.ref a_BindError) := ⟨hg, by decide, .inl (h ▸ T.m_BindError)⟩
theorem Top.exc (T : Top K w mg a_Reading a_BindError a_NoText a_SIGNS a_MODES a_WORDS a_SHAPES a_WITH_BLOCKS) {x : Exn} (hx : (x.C, x.fs) ∈ ([(a_NoText, [("row" : Str)])] : List (Addr × List Str))) : ExcC K x.C := by
  obtain ⟨C, fs, ds⟩ := x
  simp only [List.mem_cons, List.not_mem_nil, or_false, Prod.mk.injEq] at hx
  rcases hx with ⟨rfl, rfl⟩
  · exact T.x_NoText
theorem Top.xfc (T : Top K w mg a_Reading a_BindError a_NoText a_SIGNS a_MODES a_WORDS a_SHAPES a_WITH_BLOCKS) {x : Exn} (hx : (x.C, x.fs) ∈ ([(a_NoText, [("row" : Str)])] : List (Addr × List Str))) : XfC K x.C := by
  obtain ⟨C, fs, ds⟩ := x
  simp only [List.mem_cons, List.not_mem_nil, or_false, Prod.mk.injEq] at hx
  rcases hx with ⟨rfl, rfl⟩
  · exact T.f_NoText
theorem Top.xno (T : Top K w mg a_Reading a_BindError a_NoText a_SIGNS a_MODES a_WORDS a_SHAPES a_WITH_BLOCKS) {x : Exn} (hx : (x.C, x.fs) ∈ ([(a_NoText, [("row" : Str)])] : List (Addr × List Str))) : PySem.W.findIn K (.ref x.C) "row" = some none := by
  obtain ⟨C, fs, ds⟩ := x
  simp only [List.mem_cons, List.not_mem_nil, or_false, Prod.mk.injEq] at hx
  rcases hx with ⟨rfl, rfl⟩
  · exact T.q_NoText_row
theorem Top.kit_NoText (T : Top K w mg a_Reading a_BindError a_NoText a_SIGNS a_MODES a_WORDS a_SHAPES a_WITH_BLOCKS) {x : Exn} (hx : (x.C, x.fs) ∈ ([(a_NoText, [("row" : Str)])] : List (Addr × List Str))) : PySem.W.kitOne K (.ref x.C) (.ref a_NoText) = some true := by
  obtain ⟨C, fs, ds⟩ := x
  simp only [List.mem_cons, List.not_mem_nil, or_false, Prod.mk.injEq] at hx
  rcases hx with ⟨rfl, rfl⟩
  · exact Fb.kit_own
theorem Top.xf_NoText (T : Top K w mg a_Reading a_BindError a_NoText a_SIGNS a_MODES a_WORDS a_SHAPES a_WITH_BLOCKS) : ∀ f ∈ [("row" : Str)], PySem.W.findIn K (.ref a_NoText) f = some none := fun f hf => by
  simp only [List.mem_cons, List.not_mem_nil, or_false] at hf
  rcases hf with rfl
  · exact T.q_NoText_row
end
end K10
set_option Elab.async false
set_option linter.all false
set_option maxRecDepth 100000
set_option maxHeartbeats 4000000
namespace K10
open PySem PySem.Spec PyProof.Rows L2 L2H HotX Fb VL
section
variable {P : Program} {w : World} {K : PySem.W.Frag} {mg : Str → Option Value} {base : Heap} {a_Reading a_BindError a_NoText a_SIGNS a_MODES a_WORDS a_SHAPES a_WITH_BLOCKS : Addr}
theorem scDraw : FnScope ["_law_deal_here", "_law_many", "_law_number", "_law_one", "_law_other"] ["_law_deal_here", "_law_many"] (defScope s__law_draw) := ⟨rfl, rfl, rfl, by decide +kernel, rfl, by decide +kernel, by decide +kernel⟩
theorem okF_draw (T : Top K w mg a_Reading a_BindError a_NoText a_SIGNS a_MODES a_WORDS a_SHAPES a_WITH_BLOCKS) : C8.Cal P w K mg base 1 "_law_draw" spDraw [] := by
  obtain ⟨f, fd, F, gm⟩ := T.h__law_draw
  refine ⟨f, fd, ["_law_deal_here", "_law_many"], [], ?_, gm, F.kp, F.binds (fun _ _ _ _ _ _ us hl => match us, hl with | [_, _], _ => rfl), .nil⟩
  refine F.ok scDraw (fun vs H Q E h => ?_) (fun cdv A outer s H vs Q E hr h => ?_)
  · obtain ⟨d, l, many, rfl, _⟩ := h
    rfl
  · obtain ⟨d, l, many, rfl, ⟨s0, n0, ns0, hD⟩, m0, m1, k⟩ := h
    have hu := hu_of hr
    have hdl := hD.ne
    refine ⟨_, (C8.pss_cut (ps_while PassesOwn.never (PW.pt (pw_and (pt_cmpR op_eq (pe_dget hu (pv 0) pe_str (fun _ _ => rfl)) pe_int (nomark _)) (pw_and1 (pt_cmpR op_gt (pe_callB call_len_seq (by rfl) T.n_len (by decide +kernel) (pa_cons (pe_dget hu (pv 0) pe_str (fun _ _ => rfl)) pa_nil)) pe_int (nomark _))))) (pss_one (ps_dput hu (pv 0) pe_str (pe_bm0 PySem.F.plainAttrs_list PySem.F.slot_list_pop PySem.F.type_list_pop mt_pop (pe_dget hu (pv 0) pe_str (fun _ _ => rfl))) rfl)))
  (pss_cons (ps_set (i := 2) scDraw.nd rfl (Or.inl rfl) (pe_dget hu (pv 0) pe_str (fun _ _ => rfl)))
  (pss_cons (ps_if (pt_cmpR op_gt (pv 2) pe_int (nomark _))
    (pss_cons (ps_dput hu (pv 0) pe_str (pe_op op_fdivW (pv 2) (pv 1)) rfl)
  (pss_one (ps_ret (pe_op op_mod (pv 2) (pv 1)))))
    pss_nil)
  (pss_cons (ps_set (i := 3) scDraw.nd rfl (Or.inl rfl) (pe_op op_mod (pe_op op_add (pe_op op_mul (pe_dget hu (pv 0) pe_str (fun _ _ => rfl)) pe_int) pe_int) pe_int))
  (pss_cons (ps_dput hu (pv 0) pe_str (pe_op op_mod (pe_op op_add (pe_op op_mul (pv 3) pe_int) pe_int) pe_int) rfl)
  (pss_cons (ps_set (i := 4) scDraw.nd rfl (Or.inl rfl) (pe_op op_mod (pe_op op_mul (pe_dget hu (pv 0) pe_str (fun _ _ => rfl)) (pe_dget hu (pv 0) pe_str (fun _ _ => rfl))) pe_int))
  (pss_one (ps_ret (pe_op op_mod (pe_op op_add (pe_op op_mul (pe_op op_mod (pe_op op_mul (pv 3) (pv 3)) pe_int) pe_int) (pv 4)) (pv 1)))))))))), ?_⟩
    refine ⟨fun σ H1 => σ = [some (.ref d), some (.int many), none, none, none] ∧ Keep d l H H1 ∧ DealAt H1 d l, ?_, ?_⟩
    · refine ⟨fun m σ H1 => σ = [some (.ref d), some (.int many), none, none, none] ∧ Keep d l H H1 ∧ ∃ s n ns, m = ns.length ∧ DealX H1 d l s n ns, ⟨_, rfl, Keep.refl _ _ _, s0, n0, ns0, rfl, hD⟩, ?_⟩
      rintro m σ H1 ⟨rfl, hk, s1, n1, ns, rfl, h1⟩
      refine ⟨.ref d, rfl, d, .int n1, rfl, g_number h1.1, rfl, _, rfl, ?_⟩
      refine ite2 (fun e => ?_) (fun e => ?_)
      · refine ⟨.ref d, rfl, d, .ref l, rfl, g_left h1.1, l, ns.map V.int, rfl, .inl (SqL.of h1.2.1), _, _, rfl, rfl, _, rfl, ?_⟩
        refine ite2 (fun e2 => ?_) (fun e2 => ?_)
        · have hpos : 0 < ns.length := by
            have z := of_decide_eq_true e2
            rw [List.length_map] at z
            omega
          have hlast : (ns.map V.int)[(ns.map V.int).length - 1]? = some (.int (ns.getLast (by intro z; rw [z] at hpos; exact Nat.lt_irrefl _ hpos))) := by
            rw [List.length_map, List.getElem?_map, ← List.getLast?_eq_getElem?, List.getLast?_eq_some_getLast]
            rfl
          refine ⟨fun σ2 H2 => σ2 = [some (.ref d), some (.int many), none, none, none] ∧ Keep d l H H2 ∧ ∃ s n ns', ns'.length < ns.length ∧ DealX H2 d l s n ns', fun σ2 H2 ⟨a1, a2, a3, a4, a5, a6, a7⟩ => ⟨_, a6, a1, a2, a3, a4, a5, rfl, a7⟩, ?_⟩
          refine ⟨.ref d, rfl, d, .ref l, rfl, g_left h1.1, .inl ⟨rfl, _, SqL.of h1.2.1⟩, l, _, _, rfl, rfl, h1.2.1, hlast, .ref d, rfl, d, _, rfl, u_number (by rw [upd_ne hdl]; exact h1.1), ?_⟩
          refine ⟨rfl, hk.at_l.at_d, s1, _, ns.dropLast, by rw [List.length_dropLast]; omega, upd_same, ?_, h1.2.2.1, h1.2.2.2.1, ?_, fun x hx => h1.2.2.2.2.2 x (List.dropLast_subset _ hx)⟩
          · rw [upd_ne hdl.symm, upd_same, List.map_dropLast]
          · exact Int.le_of_lt (h1.2.2.2.2.2 _ (List.getLast_mem _))
        · exact ⟨rfl, hk, _, _, _, h1⟩
      · exact iteF ⟨rfl, hk, _, _, _, h1⟩
    · rintro σ H1 ⟨rfl, hk, s1, n1, ns, h1⟩
      refine ⟨.ref d, rfl, d, .int n1, rfl, g_number h1.1, _, rfl, _, _, rfl, rfl, _, rfl, ?_⟩
      refine ite2 (fun e => ?_) (fun e => ?_)
      · have hn : 0 < n1 := of_decide_eq_true e
        refine ⟨_, rfl, _, rfl, _, _, rfl, rfl, divW m0 m1, .ref d, rfl, d, _, rfl, u_number h1.1, _, rfl, _, rfl, _, _, rfl, rfl, m0, ?_⟩
        refine k _ _ (mod_lo m0) (mod_hi m0) ⟨s1, n1 / many, ns, upd_same, by rw [upd_ne hdl.symm]; exact h1.2.1, h1.2.2.1, h1.2.2.2.1, Int.ediv_nonneg (by omega) (by omega), h1.2.2.2.2.2⟩ hk.at_d
      · have q1 : (0 : Int) < 2147483647 := by decide
        have q2 : (0 : Int) < 2147483399 := by decide
        have q3 : (0 : Int) < 2147483563 := by decide
        have q4 : (0 : Int) < 2147483629 := by decide
        have b1 := mod_lo (a := s1 * 48271 + 7919) q1
        have b2 := mod_hi (a := s1 * 48271 + 7919) q1
        refine ⟨.ref d, rfl, d, .int s1, rfl, g_seed h1.1, _, _, rfl, rfl, mulS h1.2.2.1 (by have := h1.2.2.2.1; omega), _, _, rfl, rfl, _, _, rfl, rfl, q1, ?_⟩
        have c1 := mod_lo (a := (s1 * 48271 + 7919) % 2147483647 * 40692 + 104729) q2
        have c2 := mod_hi (a := (s1 * 48271 + 7919) % 2147483647 * 40692 + 104729) q2
        refine ⟨_, rfl, _, _, rfl, rfl, mulS b1 (by omega), _, _, rfl, rfl, _, _, rfl, rfl, q2, .ref d, rfl, d, _, rfl, u_seed h1.1, ?_⟩
        refine ⟨.ref d, rfl, d, .int _, rfl, g_seed upd_same, .ref d, rfl, d, .int _, rfl, g_seed upd_same, _, _, rfl, rfl, mulS c1 (by omega), _, _, rfl, rfl, q3, ?_⟩
        refine ⟨_, rfl, _, rfl, _, _, rfl, rfl, mulS b1 (by omega), _, _, rfl, rfl, q4, _, _, rfl, rfl, mulS (mod_lo q4) (Int.lt_trans (mod_hi q4) (by decide)), _, rfl, _, _, rfl, rfl, _, rfl, _, _, rfl, rfl, m0, ?_⟩
        exact k _ _ (mod_lo m0) (mod_hi m0) ⟨_, n1, ns, upd_same, by rw [upd_ne hdl.symm]; exact h1.2.1, c1, Int.lt_trans c2 (by decide), h1.2.2.2.2⟩ hk.at_d
theorem scDeal : FnScope ["_law_script", "_law_some", "_law_number", "_law_one"] ["_law_script"] (defScope s__law_deal) := ⟨rfl, rfl, rfl, by decide +kernel, rfl, by decide +kernel, by decide +kernel⟩
theorem okF_deal (T : Top K w mg a_Reading a_BindError a_NoText a_SIGNS a_MODES a_WORDS a_SHAPES a_WITH_BLOCKS) : C8.Cal P w K mg base 1 "_law_deal" (spDeal K) [] := by
  obtain ⟨f, fd, F, gm⟩ := T.h__law_deal
  refine ⟨f, fd, ["_law_script"], [], ?_, gm, F.kp, F.binds (fun _ _ _ _ _ _ us hl => match us, hl with | [_], _ => rfl), .nil⟩
  refine F.ok scDeal (fun vs H Q E h => ?_) (fun cdv A outer s H vs Q E hr h => ?_)
  · obtain ⟨a, ns, rfl, _⟩ := h
    rfl
  · obtain ⟨a, ns, rfl, hS, hl, k⟩ := h
    have hu := hu_of hr
    refine ⟨_, (pss_cons (ps_setLc (i := 1) (own := [("_law_one", 3)]) rfl scDeal.nd rfl rfl (sw_true rfl rfl rfl (by decide +kernel)) (pi_list (pe_slice sl_list (pv 0) po_none (po_some pe_int))) (blkOk_by (own := [("_law_one", 3)]) (N := ["_law_script", "_law_some", "_law_number", "_law_one"]) (sc := defScope s__law_deal) (by decide +kernel)) (fun _ _ _ _ _ => (pg_name (i := 3) scDeal.nd rfl (Or.inl rfl))) (fun _ _ _ _ _ => pts_nil) (fun _ _ _ _ _ => (pe_callB (call_max2 rfl) (by rfl) T.n_max (by decide +kernel) (pa_cons (pv 3) (pa_cons (pe_op op_sub pe_int (pv 3)) pa_nil)))))
  (pss_cons (ps_set (i := 2) scDeal.nd rfl (Or.inl rfl) pe_int)
  (pss_cons (ps_for PassesOwn.never rfl (pi_list (pv 1)) (pg_name (i := 3) scDeal.nd rfl (Or.inl rfl))
    (pss_one (ps_set (i := 2) scDeal.nd rfl (Or.inl rfl) (pe_op op_mod (pe_op op_add (pe_op op_mul (pv 2) pe_int) (pe_op op_mod (pv 3) pe_int)) pe_int))))
  (pss_one (ps_ret (pe_disp (pps_cons pe_str (pv 2) (pps_cons pe_str pe_int (pps_cons pe_str (Fb.pe_listRev rfl rfl T.n_list rfl T.n_reversed (pe_lc (own := [("_law_one", 3)]) rfl scDeal.nd (pi_list (pv 1)) (blkOk_by (own := [("_law_one", 3)]) (N := ["_law_script", "_law_some", "_law_number", "_law_one"]) (sc := defScope s__law_deal) (by decide +kernel)) (fun _ _ _ _ _ => (pg_name (i := 3) scDeal.nd rfl (Or.inl rfl))) (fun _ _ _ _ _ => pts_one (pt_cmpR op_ge (pv 3) (pe_op op_pow pe_int pe_int) (nomark _))) (fun _ _ _ _ _ => (pv 3)))) pps_nil))) (by rfl) (by rfl) (fun z => by cases z) (by decide))))))), ?_⟩
    refine ⟨.ref a, rfl, 60, rfl, a, ns.map V.int, rfl, hS, fun c nc => ?_⟩
    obtain ⟨ms, em, lm⟩ := cut_ints ns none (some 60)
    have s1 : Same H (L2.upd H c (.lst (cutV (ns.map V.int) none (some 60)))) := Fb.same_new nc
    have hc : (L2.upd H c (.lst (cutV (ns.map V.int) none (some 60)))) c = some (.lst (ms.map V.int)) := by rw [upd_same, em]
    generalize L2.upd H c (.lst (cutV (ns.map V.int) none (some 60))) = H1 at s1 hc
    refine ⟨c, rfl, ⟨_, SqL.of hc⟩, fun D nD => lc_list (K := K) (a := c) (xs := ms.map V.int) (fun i H2 => Same H1 H2 ∧ ∃ zs : List Int, H2 D = some (.lst (zs.map V.int)) ∧ zs.length = i ∧ ∀ z ∈ zs, 0 ≤ z)
      ⟨Fb.same_new nD, [], upd_same, rfl, fun _ z => nomatch z⟩ (fun i H2 _ ⟨e, _⟩ => SqL.of (e _ _ hc)) ?_ ?_⟩
    · rintro i x H2 hx ⟨e2, zs, hz, lz, pz⟩
      obtain ⟨z, rfl, _⟩ := int_at hx
      have hi := (List.getElem?_eq_some_iff.mp hx).1
      rw [List.length_map] at hi
      refine ⟨rfl, _, rfl, _, rfl, _, _, rfl, rfl, _, _, rfl, _, hz, small1000 (by rw [List.length_map]; omega), fun b o e => ?_, zs ++ [max z (0 - z)], ?_, ?_, ?_⟩
      · rw [upd_ne (ne_of_none e nD)]
        exact e2 b o e
      · rw [upd_same, Fb.nest, snoc_ints]
      · rw [List.length_append, lz]
        rfl
      · intro y hy
        rcases List.mem_append.mp hy with q | q
        · exact pz y q
        · rw [List.mem_singleton.mp q]
          omega
    · rintro H2 ⟨e2, zs, hz, lz, pz⟩
      rw [List.length_map] at lz
      refine ⟨.ref D, rfl, D, rfl, ⟨_, SqL.of hz⟩, for_list (K := K) (a := D) (xs := zs.map V.int) (fun i σ H3 => H3 = H2 ∧ ∃ n y, σ = [some (.ref a), some (.ref D), some (.int n), y] ∧ 0 ≤ n ∧ n < 2147483647)
        ⟨rfl, 7919, none, rfl, by decide, by decide⟩ (fun i σ H3 _ ⟨e, _⟩ => by rw [e]; exact SqL.of hz) ?_ ?_⟩
      · rintro i x σ H3 hx ⟨rfl, n, y, rfl, n0, n1⟩
        obtain ⟨z, rfl, _⟩ := int_at hx
        refine ⟨_, rfl, _, _, rfl, rfl, mulS n0 (by omega), _, rfl, _, _, rfl, rfl, (by decide : (0 : Int) < 2147483629), _, _, rfl, rfl, _, _, rfl, rfl, (by decide : (0 : Int) < 2147483647), ?_⟩
        exact ⟨rfl, _, _, rfl, mod_lo (by decide), mod_hi (by decide)⟩
      · rintro σ H3 ⟨rfl, n, y, rfl, n0, n1⟩
        intro p np
        have sp1 : Same H3 (L2.upd H3 p (.dK [])) := Fb.same_new np
        have hp1 : (L2.upd H3 p (.dK [])) p = some (.dK []) := upd_same
        generalize L2.upd H3 p (.dK []) = H4 at sp1 hp1
        have hz4 := sp1 _ _ hz
        refine ⟨_, rfl, .ref D, rfl, D, rfl, ⟨_, SqL.of hz4⟩, fun D2 nD2 => lc_list (K := K) (a := D) (xs := zs.map V.int) (fun i H5 => Same H4 H5 ∧ ∃ ws : List Int, H5 D2 = some (.lst (ws.map V.int)) ∧ ws.length ≤ i ∧ ∀ z ∈ ws, 0 < z)
          ⟨Fb.same_new nD2, [], upd_same, Nat.le_refl _, fun _ z => nomatch z⟩ (fun i H5 _ ⟨e, _⟩ => SqL.of (e _ _ hz4)) ?_ ?_⟩
        · rintro i x H5 hx ⟨e5, ws, hw, lw, pw⟩
          obtain ⟨z, rfl, hzm⟩ := int_at hx
          have hi := (List.getElem?_eq_some_iff.mp hx).1
          rw [List.length_map] at hi
          refine ⟨rfl, _, rfl, _, _, rfl, rfl, ⟨by decide, by decide, by decide⟩, _, _, rfl, rfl, _, rfl, ite2 (fun g => ?_) (fun g => ?_)⟩
          · have hg := of_decide_eq_true g
            refine ⟨_, rfl, _, hw, small1000 (by rw [List.length_map]; omega), fun b o e => ?_, ws ++ [z], ?_, ?_, ?_⟩
            · rw [upd_ne (ne_of_none e nD2)]
              exact e5 b o e
            · rw [upd_same, snoc_ints]
            · rw [List.length_append]
              show ws.length + 1 ≤ i + 1
              omega
            · intro y hy
              rcases List.mem_append.mp hy with q | q
              · exact pw y q
              · rw [List.mem_singleton.mp q]
                exact Int.lt_of_lt_of_le (by decide) hg
          · exact ⟨e5, ws, hw, Nat.le_succ_of_le lw, pw⟩
        · rintro H5 ⟨e5, ws, hw, lw, pw⟩
          refine ⟨D2, _, rfl, SqL.of hw, fun q nq => ?_⟩
          have s6 : Same H5 (L2.upd H5 q (.lst (ws.map V.int).reverse)) := Fb.same_new nq
          refine ⟨s6 _ _ (e5 _ _ hp1), dealD n 0 q, rfl, by show 3 ≤ 15; decide, ?_⟩
          have nqp : q ≠ p := (ne_of_none (e5 _ _ hp1) nq).symm
          have sH : Same H H5 := s1.trans (e2.trans (sp1.trans e5))
          have np0 : H p = none := (s1.trans e2).free np
          refine k p q _ np0 (sH.free nq) ⟨n, 0, ws.reverse, by rw [upd_same, merge_deal], by rw [upd_ne nqp, upd_same, List.map_reverse], n0, by omega, by decide, fun x hx => pw x (List.mem_reverse.mp hx)⟩ fun b o e => ?_
          rw [upd_ne (ne_of_none e np0)]
          exact s6 _ _ (sH _ _ e)
theorem ok__law_draw (T : Top K w mg a_Reading a_BindError a_NoText a_SIGNS a_MODES a_WORDS a_SHAPES a_WITH_BLOCKS) : C8.Cal P w K mg base 1 "_law_draw" (spOf K [dealSh, .s] .s vpDraw) [] := v_draw (okF_draw T)
theorem ok__law_deal (T : Top K w mg a_Reading a_BindError a_NoText a_SIGNS a_MODES a_WORDS a_SHAPES a_WITH_BLOCKS) : C8.Cal P w K mg base 1 "_law_deal" (spOf K [.s] dealSh vpDeal) [] := v_deal (okF_deal T)
theorem scI0 : FnScope ["self", "row"] ["self", "row"] (defScope s_NoText_init) := ⟨rfl, rfl, rfl, by decide +kernel, rfl, by decide +kernel, by decide +kernel⟩
theorem mk_NoText (T : Top K w mg a_Reading a_BindError a_NoText a_SIGNS a_MODES a_WORDS a_SHAPES a_WITH_BLOCKS) : MkN P w K mg base 1 "NoText" a_NoText (spI K ["row"]) := by
  obtain ⟨f, fd, F, fi, ft⟩ := T.i_NoText
  refine ⟨f, fd, ["self", "row"], T.ox_NoText, fi, ft, ?_, F.binds (fun _ _ _ _ _ _ us hl => match us, hl with | [_, _], _ => rfl), T.m_NoText⟩
  refine F.ok scI0 (fun vs H Q E h => ?_) (fun cdv A outer s H vs Q E hr h => ?_)
  · obtain ⟨a, C, ys, rfl, l, _⟩ := h
    show ys.length + 1 = 2
    rw [l]; rfl
  · obtain ⟨a, C, ys, rfl, l, T1, no, hA, k⟩ := h
    obtain ⟨y0, rfl⟩ : ∃ y0, ys = [y0] := by
      match ys, l with
      | [y0], _ => exact ⟨y0, rfl⟩
    refine ⟨_, (pss_one (ps_ost (pv 0) (pv 1))), ?_⟩
    refine ⟨_, rfl, _, rfl, a, C, rfl, T1, no _ (by simp), .inl ⟨hA, fun dx nd ne => ?_⟩⟩
    refine k dx _ nd ne ?_ ?_ (fun b b1 b2 => ?_)
    · exact upd_same
    · rw [upd_ne ne]; exact upd_same
    · rw [upd_ne b1, upd_ne b2]
end
end K10
set_option Elab.async false
set_option linter.all false
set_option maxRecDepth 100000
set_option maxHeartbeats 4000000
namespace K10
open PySem PySem.Spec PyProof.Rows L2 L2H HotX Fb VL
local macro_rules | `(tactic| walk_at "vs") => `(tactic| simp only [vCell, vDr, vFld, vAppC, vPopC, vSetF, vCallA, vCallAX, vCallX, vMakeA, vMethA, vRaise, vTry, vXf, vChain, vTru, s_truN, s_truB, s_truI, s_truS, s_truL, s_truT, vIsi, vIsiT, vStar, vListZip, vEnum, vZipSL, vPop, vExt, vSetIx, vSetIxC, vRep, s_vgLst, vKGet, s_gMulS, s_gBoolL, s_gStrS, s_gIntS, s_gStrA1, s_gStrA2, s_seqL, s_seqT, cuD_1, ioA, Cell, s_gInK, s_gInS, s_gIn2, s_gIn3, s_gIn4, s_gIn5, ex_par, vNeg, s_gAny, vCaTd, vOp2Lv, s_callIO, s_io, s_fill0, s_fillN, s_fillS, s_putIO, s_wio0, s_wioN, s_wioS, s_give0, s_giveN, s_giveS, s_giveM, Option.map_some, s_seq, s_next, s_break, s_cont, s_set, s_ret, s_retN, s_drop, s_ifS, s_for, s_asg, s_par, s_var, s_c, s_op2, s_op2L, s_op2T, s_ca, s_caL, s_caT, s_nil, s_cons, s_tup, s_lst, s_test, s_and, s_or, s_not, s_if, s_andV, s_orV, s_notV, s_no, s_part, s_sl, s_slL, s_slT, s_ls, s_ts, s_sgs, s_rng1, s_rng2, s_gName, s_gNil, s_gCons, s_gTup, s_lc, s_yes, s_append, s_call, s_dget, s_get2, s_pNil, s_pCons, s_disp, s_m1, s_split, s_indexD, s_w1, s_w2, s_isStr, s_gI, s_gI0, s_gAddS, s_gS, s_gSg, s_gEqI, s_gEqS, s_gEqB, s_gEqNI, s_gEqIS, s_gEqSI, s_gNeI, s_gNeS, s_gIsN, s_gNotN, s_isNon0, s_isNonI, s_isNonS, s_isNonT, s_isNonL, s_gIxL, s_gIxT, s_gIxS, s_gCat, s_gCatT, s_gSlL, s_gSlT, s_gSlS, s_gLenL, s_gLenT, s_gLenS, s_gSum, s_gI2, s_gInt1, s_gInt1b, s_gStrI, s_gAll, s_gSeqL, s_gSeqT, s_gDGet, s_gGet2, s_kDs, s_kDi, s_ioN, s_ioS, s_ioL, s_ioD, s_ioO, s_nones0, s_nones1, List.map_cons, List.map_nil, List.cons_append, List.nil_append, List.append_nil, List.append_assoc, List.getElem?_cons_zero, List.getElem?_cons_succ, List.set_cons_zero, List.set_cons_succ, Option.some.injEq, exists_eq_left', exists_eq_left, D.int.injEq, D.str.injEq, D.tup.injEq, D.lst.injEq, D.bl.injEq, D.dct.injEq, and_true, true_and, List.length_cons, List.length_nil, exists_and_left, exists_eq, Bool.not_true, Bool.not_false, exists_eq', Nat.zero_le, atI_0, atI_1, atI_2, atI_3, atI_4, atI_5, s_gInD, if_true, if_false, Bool.false_eq_true, Nat.reduceAdd])
local macro_rules | `(tactic| walk_at "v1") => `(tactic| simp only [vCell, vDr, vFld, vAppC, vPopC, vSetF, vCallA, vCallAX, vCallX, vMakeA, vMethA, vRaise, vTry, vXf, vChain, vTru, s_truN, s_truB, s_truI, s_truS, s_truL, s_truT, vIsi, vIsiT, vStar, vListZip, vEnum, vZipSL, vPop, vExt, vSetIx, vSetIxC, vRep, s_vgLst, vKGet, s_gMulS, s_gBoolL, s_gStrS, s_gIntS, s_gStrA1, s_gStrA2, s_seqL, s_seqT, cuD_1, ioA, Cell, s_gInK, s_gInS, s_gIn2, s_gIn3, s_gIn4, s_gIn5, ex_par, vNeg, s_gAny, vCaTd, vOp2Lv, s_callIO, s_io, s_fill0, s_fillN, s_fillS, s_putIO, s_wio0, s_wioN, s_wioS, s_give0, s_giveN, s_giveS, s_giveM, Option.map_some, s_seq, s_next, s_break, s_cont, s_set, s_ret, s_retN, s_drop, s_for, s_asg, s_par, s_var, s_c, s_op2, s_op2L, s_op2T, s_ca, s_caL, s_caT, s_nil, s_cons, s_tup, s_lst, s_test, s_and, s_or, s_not, s_if, s_andV, s_orV, s_notV, s_no, s_part, s_sl, s_slL, s_slT, s_ls, s_ts, s_sgs, s_rng1, s_rng2, s_gName, s_gNil, s_gCons, s_gTup, s_lc, s_yes, s_append, s_call, s_dget, s_get2, s_pNil, s_pCons, s_disp, s_m1, s_split, s_indexD, s_w1, s_w2, s_isStr, s_gI, s_gI0, s_gAddS, s_gS, s_gSg, s_gEqI, s_gEqS, s_gEqB, s_gEqNI, s_gEqIS, s_gEqSI, s_gNeI, s_gNeS, s_gIsN, s_gNotN, s_isNon0, s_isNonI, s_isNonS, s_isNonT, s_isNonL, s_gIxL, s_gIxT, s_gIxS, s_gCat, s_gCatT, s_gSlL, s_gSlT, s_gSlS, s_gLenL, s_gLenT, s_gLenS, s_gSum, s_gI2, s_gInt1, s_gInt1b, s_gStrI, s_gAll, s_gSeqL, s_gSeqT, s_gDGet, s_gGet2, s_kDs, s_kDi, s_ioN, s_ioS, s_ioL, s_ioD, s_ioO, s_nones0, s_nones1, List.map_cons, List.map_nil, List.cons_append, List.nil_append, List.append_nil, List.append_assoc, List.getElem?_cons_zero, List.getElem?_cons_succ, List.set_cons_zero, List.set_cons_succ, Option.some.injEq, exists_eq_left', exists_eq_left, D.int.injEq, D.str.injEq, D.tup.injEq, D.lst.injEq, D.bl.injEq, D.dct.injEq, and_true, true_and, List.length_cons, List.length_nil, exists_and_left, exists_eq, Bool.not_true, Bool.not_false, exists_eq', Nat.zero_le, atI_0, atI_1, atI_2, atI_3, atI_4, atI_5, s_gInD, if_true, if_false, Bool.false_eq_true, Nat.reduceAdd])
section
variable {P : Program} {w : World} {K : PySem.W.Frag} {mg : Str → Option Value} {base : Heap} {a_Reading a_BindError a_NoText a_SIGNS a_MODES a_WORDS a_SHAPES a_WITH_BLOCKS : Addr}
def lowC (c : Nat) : Bool := decide (97 ≤ c) && decide (c ≤ 122)
def digC (c : Nat) : Bool := decide (48 ≤ c) && decide (c ≤ 57)
def kwS : List Str := ["let", "fn", "call", "set", "tell", "if", "else", "while", "times", "own", "one", "give", "end"]
def nameB (z : Str) : Bool := decide (1 ≤ z.length) && decide (z.length ≤ 6) && !decide (z ∈ kwS) && z.cps.toList.all lowC
def vpIsName : VSp := fun ds Q _ => ∃ z, ds = [.str z] ∧ z.length ≤ 100000 ∧ Q (.bl (nameB z)) [none]
theorem all_id (l : List Bool) : l.all id = l.all (fun b => b) := rfl
theorem sc_is_name : FnScope ["text", "sign"] ["text"] (defScope s_is_name) := ⟨rfl, rfl, rfl, by decide +kernel, rfl, by decide +kernel, by decide +kernel⟩
theorem ok_is_name (T : Top K w mg a_Reading a_BindError a_NoText a_SIGNS a_MODES a_WORDS a_SHAPES a_WITH_BLOCKS) : C8.Cal P w K mg base 1 "is_name" (spOf K [.s] .s (vpIsName)) [] := by
  obtain ⟨f, fd, F, gm⟩ := T.h_is_name
  refine ⟨f, fd, ["text"], [], ?_, gm, F.kp, F.binds (fun _ _ _ _ _ _ us hl => match us, hl with | [_], _ => rfl), .nil⟩
  refine F.ok sc_is_name (fun vs H Q E h => h.len) (fun cdv A outer s H vs Q E hr h => ?_)
  have hu := hu_of hr
  have hu64 : (A.deeper (envOfC "is_name" (defScope s_is_name) s.heap.objs.size f cdv)).units + 64 < cLine := by have := hr.un; omega
  have hu65 : (A.deeper (envOfC "is_name" (defScope s_is_name) s.heap.objs.size f cdv)).units + 65 < cLine := by have := hr.un; omega
  refine ⟨_, (pss_cons (ps_if (pt_not (pt_chain op_le op_le pe_int (pe_callB call_len_str (by rfl) T.n_len (by decide +kernel) (pa_cons (pv 0) pa_nil)) (C8.pe_gc rfl T.c_LONGEST)))
    (pss_one (ps_ret pe_bl))
    pss_nil)
  (pss_cons (ps_if (pt_cmpR (VL.inK K rfl) (pv 0) (C8.pe_gc rfl T.c_WORDS) (by rfl))
    (pss_one (ps_ret pe_bl))
    pss_nil)
  (pss_one (ps_ret (pe_callB (VL.allK K rfl rfl) (by rfl) T.n_all (by decide +kernel) (pa_cons (pe_lc (own := [("sign", 1)]) rfl sc_is_name.nd (pi_str (pv 0)) (blkOk_by (own := [("sign", 1)]) (N := ["text", "sign"]) (sc := defScope s_is_name) (by decide +kernel)) (fun _ _ _ _ _ => (pg_name (i := 1) sc_is_name.nd rfl (Or.inl rfl))) (fun _ _ _ _ _ => pts_nil) (fun _ _ _ _ _ => (pe_chain op_le_str op_le_str pe_str (pv 1) pe_str))) pa_nil)))))), fn_run0 (pM := [.s]) (M2 := [.s]) rfl (fun H0 io av rt hrt => (vs_seq (vs_if (vt_not (vt_test (VQ.e (q_chain (VQ.b q_int) (VQ.b (q_ca (vba_cons (VQ.b (q_var (i := 0) rfl)) vba_nil) cd_lenS)) (VQ.b q_int) od_b0 od_b0))))
    (vs_ret (VQ.e q_bl))
    vs_next)
  (vs_seq (vs_if (vt_test (VQ.e (q_op (VQ.b (q_var (i := 0) rfl)) (VQ.b (q_ktup T.w_WORDS)) od_in)))
    (vs_ret (VQ.e q_bl))
    vs_next)
  (vs_ret (v_ca (va_cons (VE.s (v_lc (vs := [1]) (vi_str (VQ.e (q_var (i := 0) rfl))) (vg_name (i := 1) rfl (hrt 1 (by decide))) vt_yes (VQ.e (q_chain (VQ.b q_str) (VQ.b (q_var (i := 1) rfl)) (VQ.b q_str) od_s od_s)) (by decide) (fun i hi => hrt i (by revert i; decide)))) va_nil) cd_all))))) (fun ds Qv Qx hl hs => ?_) h⟩
  obtain ⟨z, rfl, hz, q⟩ := hs
  walk_at "vs"
  refine ⟨small hz, ?_⟩
  by_cases h1 : (1 : Int) ≤ z.length
  · rw [if_pos (by simpa using h1)]
    by_cases h2 : (z.length : Int) ≤ 6
    · rw [if_neg (by simpa using h2)]
      refine ite2 (fun e => ?_) (fun e => ?_)
      · have : nameB z = false := by
          have e : z ∈ kwS := of_decide_eq_true e
          simp [nameB, e]
        rw [this] at q; exact q
      · refine lc_signs lowC z hz (fun c A hA => ?_) ⟨_, rfl, ?_⟩
        · walk_at "vs"
          have e1 : (Str.ofString "a") = ⟨#[97]⟩ := by decide +kernel
          have e2 : (Str.ofString "z") = ⟨#[122]⟩ := by decide +kernel
          rw [e1, e2, le_sg, le_sg]
          refine ite2 (fun e => ?_) (fun e => ?_)
          · have := hA [some (.str z), some (.str ⟨#[c]⟩)] rfl
            simpa [lowC, e] using this
          · have := hA [some (.str z), some (.str ⟨#[c]⟩)] rfl
            have e : decide (97 ≤ c) = false := by simpa using e
            simpa [lowC, e] using this
        · have e : z ∉ kwS := fun w => e (decide_eq_true w)
          have h1 : 1 ≤ z.length := by omega
          have h2 : z.length ≤ 6 := by omega
          have : nameB z = ((z.cps.toList.map lowC).all id) := by simp [nameB, e, h1, h2, List.all_map]
          rw [this] at q; exact q
    · rw [if_pos (by simpa using h2)]
      have h2 : ¬ z.length ≤ 6 := by omega
      have : nameB z = false := by simp [nameB, h2]
      rw [this] at q; exact q
  · rw [if_neg (by simpa using h1)]
    have h1 : ¬ 1 ≤ z.length := by omega
    have : nameB z = false := by simp [nameB, h1]
    rw [this] at q; exact q
theorem kw_split : Txt.split (Str.ofString "let fn call set tell if else while times own one give end") (Str.ofString " ") = kwS := by decide +kernel
theorem sc__law_is_name : FnScope ["_law_word", "_law_kept", "_law_sign"] ["_law_word"] (defScope s__law_is_name) := ⟨rfl, rfl, rfl, by decide +kernel, rfl, by decide +kernel, by decide +kernel⟩
theorem ok__law_is_name (T : Top K w mg a_Reading a_BindError a_NoText a_SIGNS a_MODES a_WORDS a_SHAPES a_WITH_BLOCKS) : C8.Cal P w K mg base 1 "_law_is_name" (spOf K [.s] .s (vpIsName)) [] := by
  obtain ⟨f, fd, F, gm⟩ := T.h__law_is_name
  refine ⟨f, fd, ["_law_word"], [], ?_, gm, F.kp, F.binds (fun _ _ _ _ _ _ us hl => match us, hl with | [_], _ => rfl), .nil⟩
  refine F.ok sc__law_is_name (fun vs H Q E h => h.len) (fun cdv A outer s H vs Q E hr h => ?_)
  have hu := hu_of hr
  have hu64 : (A.deeper (envOfC "_law_is_name" (defScope s__law_is_name) s.heap.objs.size f cdv)).units + 64 < cLine := by have := hr.un; omega
  have hu65 : (A.deeper (envOfC "_law_is_name" (defScope s__law_is_name) s.heap.objs.size f cdv)).units + 65 < cLine := by have := hr.un; omega
  refine ⟨_, (pss_cons (ps_set (i := 1) sc__law_is_name.nd rfl (Or.inl rfl) (pe_split pe_str pe_str))
  (pss_cons (ps_if (PW.pt (pw_or (pt_not (pt_chain op_le op_le pe_int (pe_callB call_len_str (by rfl) T.n_len (by decide +kernel) (pa_cons (pv 0) pa_nil)) pe_int)) (pw_or1 (pt_cmpR (VL.inK K rfl) (pv 0) (pv 1) (by rfl)))))
    (pss_one (ps_ret pe_bl))
    pss_nil)
  (pss_one (ps_ret (pe_callB (VL.allK K rfl rfl) (by rfl) T.n_all (by decide +kernel) (pa_cons (pe_lc (own := [("_law_sign", 2)]) rfl sc__law_is_name.nd (pi_str (pv 0)) (blkOk_by (own := [("_law_sign", 2)]) (N := ["_law_word", "_law_kept", "_law_sign"]) (sc := defScope s__law_is_name) (by decide +kernel)) (fun _ _ _ _ _ => (pg_name (i := 2) sc__law_is_name.nd rfl (Or.inl rfl))) (fun _ _ _ _ _ => pts_nil) (fun _ _ _ _ _ => (pe_cmpR op_in_sign (pv 2) pe_str rfl))) pa_nil)))))), fn_run0 (pM := [.s]) (M2 := [.s, .s]) rfl (fun H0 io av rt hrt => (vs_seq (vs_set (i := 1) (VE.s (v_split (VQ.e q_str) (VQ.e q_str))) rfl (hrt 1 (by decide)))
  (vs_seq (vs_if (vt_or (vt_not (vt_test (VQ.e (q_chain (VQ.b q_int) (VQ.b (q_ca (vba_cons (VQ.b (q_var (i := 0) rfl)) vba_nil) cd_lenS)) (VQ.b q_int) od_b0 od_b0)))) (vt_test (VQ.e (q_op (VQ.b (q_var (i := 0) rfl)) (VQ.b (q_var (i := 1) rfl)) od_in))))
    (vs_ret (VQ.e q_bl))
    vs_next)
  (vs_ret (v_ca (va_cons (VE.s (v_lc (vs := [2]) (vi_str (VQ.e (q_var (i := 0) rfl))) (vg_name (i := 2) rfl (hrt 2 (by decide))) vt_yes (VQ.e (q_op (VQ.b (q_var (i := 2) rfl)) (VQ.b q_str) od_sg)) (by decide) (fun i hi => hrt i (by revert i; decide)))) va_nil) cd_all))))) (fun ds Qv Qx hl hs => ?_) h⟩
  obtain ⟨z, rfl, hz, q⟩ := hs
  walk_at "vs"
  rw [kw_split]
  refine ⟨by decide +kernel, by decide +kernel, small hz, ?_⟩
  by_cases h1 : (1 : Int) ≤ z.length
  · rw [if_pos (by simpa using h1)]
    by_cases h2 : (z.length : Int) ≤ 6
    · rw [if_neg (by simpa using h2)]


      refine ite2 (fun e => ?_) (fun e => ?_)
      · have : nameB z = false := by
          have e : z ∈ kwS := of_decide_eq_true e
          simp [nameB, e]
        rw [this] at q; exact q
      · refine lc_signs lowC z hz (fun c A hA => ?_) ⟨_, rfl, ?_⟩
        · walk_at "vs"
          have e2 : decide (c ∈ (Str.ofString "abcdefghijklmnopqrstuvwxyz").cps.toList) = lowC c := by
            have e1 : (Str.ofString "abcdefghijklmnopqrstuvwxyz").cps.toList = [97, 98, 99, 100, 101, 102, 103, 104, 105, 106, 107, 108, 109, 110, 111, 112, 113, 114, 115, 116, 117, 118, 119, 120, 121, 122] := by decide +kernel
            rw [e1]
            unfold lowC
            rw [← Bool.decide_and]
            congr 1
            simp only [List.mem_cons, List.not_mem_nil, or_false, eq_iff_iff]
            omega
          refine ⟨c, rfl, ?_⟩
          rw [e2]
          exact hA _ rfl
        · have e : z ∉ kwS := fun w => e (decide_eq_true w)
          have h1 : 1 ≤ z.length := by omega
          have h2 : z.length ≤ 6 := by omega
          have : nameB z = ((z.cps.toList.map lowC).all id) := by simp [nameB, e, h1, h2, List.all_map]
          rw [this] at q; exact q
    · rw [if_pos (by simpa using h2)]
      have h2 : ¬ z.length ≤ 6 := by omega
      have : nameB z = false := by simp [nameB, h2]
      rw [this] at q; exact q
  · rw [if_neg (by simpa using h1)]
    have h1 : ¬ 1 ≤ z.length := by omega
    have : nameB z = false := by simp [nameB, h1]
    rw [this] at q; exact q
def numB (z : Str) : Bool := decide (1 ≤ z.length) && decide (z.length ≤ 9) && !(decide (z.cps.toList.head? = some 48) && decide (z.length ≠ 1)) && z.cps.toList.all digC
def vpIsNumber : VSp := fun ds Q _ => ∃ z, ds = [.str z] ∧ z.length ≤ 100000 ∧ Q (.bl (numB z)) [none]
theorem len_cps (z : Str) : z.cps.toList.length = z.length := by simp [Str.length]
theorem one_sg {z : Str} {c : Nat} (h : z.cps.toList = [c]) : z = ⟨#[c]⟩ := by
  obtain ⟨⟨l⟩⟩ := z
  have h : l = [c] := h
  subst h
  rfl
theorem hd_at {z : Str} (h : 1 ≤ z.length) : ∃ c, atI z.cps.toList 0 = some c ∧ z.cps.toList.head? = some c := by
  have := len_cps z
  cases e : z.cps.toList with
  | nil => rw [e] at this; simp at this; omega
  | cons c l => exact ⟨c, by simp, rfl⟩
theorem is_0 {z : Str} (h : z.cps.toList.head? = some 48) : (z = Str.ofString "0") ↔ z.length = 1 := by
  have e0 : Str.ofString "0" = ⟨#[48]⟩ := by decide +kernel
  rw [e0]
  constructor
  · rintro rfl; rfl
  · intro hl
    have := len_cps z
    cases e : z.cps.toList with
    | nil => rw [e] at h; simp at h
    | cons c l =>
      rw [e] at h this
      simp at h this
      have : l = [] := List.length_eq_zero_iff.mp (by omega)
      subst this
      subst h
      exact one_sg e
theorem sgs (c d : Nat) : decide ((⟨#[c]⟩ : Str) = ⟨#[d]⟩) = decide (c = d) := by
  congr 1
  simp
theorem sc_is_number : FnScope ["text", "sign"] ["text"] (defScope s_is_number) := ⟨rfl, rfl, rfl, by decide +kernel, rfl, by decide +kernel, by decide +kernel⟩
theorem ok_is_number (T : Top K w mg a_Reading a_BindError a_NoText a_SIGNS a_MODES a_WORDS a_SHAPES a_WITH_BLOCKS) : C8.Cal P w K mg base 1 "is_number" (spOf K [.s] .s (vpIsNumber)) [] := by
  obtain ⟨f, fd, F, gm⟩ := T.h_is_number
  refine ⟨f, fd, ["text"], [], ?_, gm, F.kp, F.binds (fun _ _ _ _ _ _ us hl => match us, hl with | [_], _ => rfl), .nil⟩
  refine F.ok sc_is_number (fun vs H Q E h => h.len) (fun cdv A outer s H vs Q E hr h => ?_)
  have hu := hu_of hr
  have hu64 : (A.deeper (envOfC "is_number" (defScope s_is_number) s.heap.objs.size f cdv)).units + 64 < cLine := by have := hr.un; omega
  have hu65 : (A.deeper (envOfC "is_number" (defScope s_is_number) s.heap.objs.size f cdv)).units + 65 < cLine := by have := hr.un; omega
  refine ⟨_, (pss_cons (ps_if (pt_not (pt_chain op_le op_le pe_int (pe_callB call_len_str (by rfl) T.n_len (by decide +kernel) (pa_cons (pv 0) pa_nil)) (C8.pe_gc rfl T.c_MOST_FIGURES)))
    (pss_one (ps_ret pe_bl))
    pss_nil)
  (pss_cons (ps_if (PW.pt (pw_and (pt_cmpR op_eq (pe_ix ix_str (pv 0) pe_int (fun _ _ => rfl)) pe_str (nomark _)) (pw_and1 (pt_cmpR op_ne (pv 0) pe_str (nomark _)))))
    (pss_one (ps_ret pe_bl))
    pss_nil)
  (pss_one (ps_ret (pe_callB (VL.allK K rfl rfl) (by rfl) T.n_all (by decide +kernel) (pa_cons (pe_lc (own := [("sign", 1)]) rfl sc_is_number.nd (pi_str (pv 0)) (blkOk_by (own := [("sign", 1)]) (N := ["text", "sign"]) (sc := defScope s_is_number) (by decide +kernel)) (fun _ _ _ _ _ => (pg_name (i := 1) sc_is_number.nd rfl (Or.inl rfl))) (fun _ _ _ _ _ => pts_nil) (fun _ _ _ _ _ => (pe_chain op_le_str op_le_str pe_str (pv 1) pe_str))) pa_nil)))))), fn_run0 (pM := [.s]) (M2 := [.s]) rfl (fun H0 io av rt hrt => (vs_seq (vs_if (vt_not (vt_test (VQ.e (q_chain (VQ.b q_int) (VQ.b (q_ca (vba_cons (VQ.b (q_var (i := 0) rfl)) vba_nil) cd_lenS)) (VQ.b q_int) od_b0 od_b0))))
    (vs_ret (VQ.e q_bl))
    vs_next)
  (vs_seq (vs_if (vt_and (vt_test (VQ.e (q_op (VQ.b (q_op (VQ.b (q_var (i := 0) rfl)) (VQ.b q_int) od_ixS)) (VQ.b q_str) od_eq))) (vt_test (VQ.e (q_op (VQ.b (q_var (i := 0) rfl)) (VQ.b q_str) od_ne))))
    (vs_ret (VQ.e q_bl))
    vs_next)
  (vs_ret (v_ca (va_cons (VE.s (v_lc (vs := [1]) (vi_str (VQ.e (q_var (i := 0) rfl))) (vg_name (i := 1) rfl (hrt 1 (by decide))) vt_yes (VQ.e (q_chain (VQ.b q_str) (VQ.b (q_var (i := 1) rfl)) (VQ.b q_str) od_s od_s)) (by decide) (fun i hi => hrt i (by revert i; decide)))) va_nil) cd_all))))) (fun ds Qv Qx hl hs => ?_) h⟩
  obtain ⟨z, rfl, hz, q⟩ := hs
  walk_at "vs"
  refine ⟨small hz, ?_⟩
  have e0 : Str.ofString "0" = ⟨#[48]⟩ := by decide +kernel
  have fin : (∀ c, z.cps.toList.head? = some c → ¬ (c = 48 ∧ z.length ≠ 1)) → 1 ≤ z.length → z.length ≤ 9 → vLcL [1] (vgName 1) vYes (vChain (gS fun i j => !decide (j.cps.toList < i.cps.toList)) (gS fun i j => !decide (j.cps.toList < i.cps.toList)) (vC (D.str (Str.ofString "0"))) (vVar 1) (vC (D.str (Str.ofString "9")))) (fun acc e2 => ∃ bs, acc = List.map D.bl bs ∧ Qv (D.bl (bs.all id)) (ioP [Sh.s] e2)) (sgD z) [] [some (D.str z), none] := fun h0 h1 h2 => by
    refine lc_signs digC z hz (fun c A hA => ?_) ⟨_, rfl, ?_⟩
    · walk_at "vs"
      have e2 : (Str.ofString "9") = ⟨#[57]⟩ := by decide +kernel
      rw [e0, e2, le_sg, le_sg]
      refine ite2 (fun e => ?_) (fun e => ?_)
      · have := hA [some (.str z), some (.str ⟨#[c]⟩)] rfl
        simpa [digC, e] using this
      · have := hA [some (.str z), some (.str ⟨#[c]⟩)] rfl
        have e : decide (48 ≤ c) = false := by simpa using e
        simpa [digC, e] using this
    · obtain ⟨c, _, hc⟩ := hd_at h1
      have h0 := h0 c hc
      have : numB z = ((z.cps.toList.map digC).all id) := by
        have e : (decide (z.cps.toList.head? = some 48) && decide (z.length ≠ 1)) = false := by
          rw [hc]
          by_cases w : c = 48
          · have : z.length = 1 := by
              by_cases y : z.length = 1
              · exact y
              · exact absurd ⟨w, y⟩ h0
            simp [this]
          · simp [w]
        unfold numB
        rw [e]
        simp [h1, h2, List.all_map]
      rw [this] at q; exact q
  by_cases h1 : (1 : Int) ≤ z.length
  · rw [if_pos (by simpa using h1)]
    have h1 : 1 ≤ z.length := by omega
    by_cases h2 : (z.length : Int) ≤ 9
    · rw [if_neg (by simpa using h2)]
      obtain ⟨c, ac, hc⟩ := hd_at h1
      refine ⟨small hz, c, ac, ?_⟩
      have es : decide ((⟨#[c]⟩ : Str) = Str.ofString "0") = decide (c = 48) := by rw [e0, sgs]
      rw [es]
      refine ite2 (fun e => ?_) (fun e => fin (fun c' h w => ?_) h1 (by omega))
      · have e : c = 48 := of_decide_eq_true e
        subst e
        refine ite2 (fun e2 => ?_) (fun e2 => fin (fun c' h w => ?_) h1 (by omega))
        · have n1 : z.length ≠ 1 := fun w => by simp [(is_0 hc).mpr w] at e2
          have : numB z = false := by simp [numB, hc, n1]
          rw [this] at q; exact q
        · have : z = Str.ofString "0" := by simpa using e2
          exact w.2 ((is_0 hc).mp this)
      · rw [hc] at h
        cases h
        exact e (decide_eq_true w.1)
    · rw [if_pos (by simpa using h2)]
      have h2 : ¬ z.length ≤ 9 := by omega
      have : numB z = false := by simp [numB, h2]
      rw [this] at q; exact q
  · rw [if_neg (by simpa using h1)]
    have h1 : ¬ 1 ≤ z.length := by omega
    have : numB z = false := by simp [numB, h1]
    rw [this] at q; exact q
/-! what a word is -/
def isOf (c : Nat) (z : Str) : Bool :=
  if c = 115 then decide (z ∈ (["+", "-", "*", "<", "="] : List Str)) else if c = 109 then decide (z ∈ (["own", "one"] : List Str)) else nameB z || (decide (c = 97) && numB z)
def vpIsOf : VSp := fun ds Q _ => ∃ c z, ds = [.str ⟨#[c]⟩, .str z] ∧ z.length ≤ 100000 ∧ Q (.bl (isOf c z)) [none, none]
theorem sc_is_of : FnScope ["letter", "word"] ["letter", "word"] (defScope s_is_of) := ⟨rfl, rfl, rfl, by decide +kernel, rfl, by decide +kernel, by decide +kernel⟩
theorem ok_is_of (T : Top K w mg a_Reading a_BindError a_NoText a_SIGNS a_MODES a_WORDS a_SHAPES a_WITH_BLOCKS) : C8.Cal P w K mg base 2 "is_of" (spOf K [.s, .s] .s (vpIsOf)) [] := by
  have C_is_name := ok_is_name (P := P) (w := w) (base := base) T
  have C_is_number := ok_is_number (P := P) (w := w) (base := base) T
  obtain ⟨f, fd, F, gm⟩ := T.h_is_of
  refine ⟨f, fd, ["letter", "word"], [], ?_, gm, F.kp, F.binds (fun _ _ _ _ _ _ us hl => match us, hl with | [_, _], _ => rfl), .nil⟩
  refine F.ok sc_is_of (fun vs H Q E h => h.len) (fun cdv A outer s H vs Q E hr h => ?_)
  have hu := hu_of hr
  have hu64 : (A.deeper (envOfC "is_of" (defScope s_is_of) s.heap.objs.size f cdv)).units + 64 < cLine := by have := hr.un; omega
  have hu65 : (A.deeper (envOfC "is_of" (defScope s_is_of) s.heap.objs.size f cdv)).units + 65 < cLine := by have := hr.un; omega
  refine ⟨_, (pss_cons (ps_if (pt_cmpR op_eq (pv 0) pe_str (nomark _))
    (pss_one (ps_ret (pe_cmpR (VL.inK K rfl) (pv 1) (C8.pe_gc rfl T.c_SIGNS) (by rfl))))
    pss_nil)
  (pss_cons (ps_if (pt_cmpR op_eq (pv 0) pe_str (nomark _))
    (pss_one (ps_ret (pe_cmpR (VL.inK K rfl) (pv 1) (C8.pe_gc rfl T.c_MODES) (by rfl))))
    pss_nil)
  (pss_one (ps_ret (pe_or (C8.pe_c C_is_name hr (by omega) rfl (pa_cons (pv 1) pa_nil)) (pe_one (pe_and (pe_cmpR op_eq (pv 0) pe_str (nomark _)) (pe_one (C8.pe_c C_is_number hr (by omega) rfl (pa_cons (pv 1) pa_nil)))))))))), fn_run0 (pM := [.s, .s]) (M2 := []) rfl (fun H0 io av rt hrt => (vs_seq (vs_if (vt_test (VQ.e (q_op (VQ.b (q_var (i := 0) rfl)) (VQ.b q_str) od_eq)))
    (vs_ret (VQ.e (q_op (VQ.b (q_var (i := 1) rfl)) (VQ.b (q_ktup T.w_SIGNS)) od_in)))
    vs_next)
  (vs_seq (vs_if (vt_test (VQ.e (q_op (VQ.b (q_var (i := 0) rfl)) (VQ.b q_str) od_eq)))
    (vs_ret (VQ.e (q_op (VQ.b (q_var (i := 1) rfl)) (VQ.b (q_ktup T.w_MODES)) od_in)))
    vs_next)
  (vs_ret (v_or (v_call (va_cons (VQ.e (q_var (i := 1) rfl)) va_nil) (by simp)) (v_and (VQ.e (q_op (VQ.b (q_var (i := 0) rfl)) (VQ.b q_str) od_eq)) (v_call (va_cons (VQ.e (q_var (i := 1) rfl)) va_nil) (by simp)))))))) (fun ds Qv Qx hl hs => ?_) h⟩
  obtain ⟨c, z, rfl, hz, q⟩ := hs
  walk_at "vs"
  have e1 : Str.ofString "s" = ⟨#[115]⟩ := by decide +kernel
  have e2 : Str.ofString "m" = ⟨#[109]⟩ := by decide +kernel
  have e3 : Str.ofString "a" = ⟨#[97]⟩ := by decide +kernel
  rw [e1, e2, sgs, sgs]
  unfold isOf at q
  refine ite2 (fun e => ?_) (fun e => ?_)
  · rw [if_pos (of_decide_eq_true e)] at q
    exact q
  · rw [if_neg (fun w => e (decide_eq_true w))] at q
    refine ite2 (fun e => ?_) (fun e => ?_)
    · rw [if_pos (of_decide_eq_true e)] at q
      exact q
    · rw [if_neg (fun w => e (decide_eq_true w))] at q
      refine ⟨z, rfl, hz, nameB z, rfl, ?_⟩
      cases hn : nameB z with
      | true =>
        rw [hn] at q
        simpa using q
      | false =>
        rw [hn] at q
        simp only [Bool.false_eq_true, if_false]
        rw [e3, sgs]
        by_cases w : c = 97
        · simp only [w, decide_true, if_true]
          refine ⟨z, rfl, hz, ?_⟩
          simpa [w] using q
        · simp only [w, decide_false, Bool.false_eq_true, if_false]
          simpa [w] using q
end
end K10
set_option Elab.async false
set_option linter.all false
set_option maxRecDepth 100000
set_option maxHeartbeats 4000000
namespace K10
open PySem PySem.Spec PyProof.Rows L2 L2H HotX Fb VL
local macro_rules | `(tactic| walk_at "vs") => `(tactic| simp only [vCell, vDr, vFld, vAppC, vPopC, vSetF, vCallA, vCallAX, vCallX, vMakeA, vMethA, vRaise, vTry, vXf, vChain, vTru, s_truN, s_truB, s_truI, s_truS, s_truL, s_truT, vIsi, vIsiT, vStar, vListZip, vEnum, vZipSL, vPop, vExt, vSetIx, vSetIxC, vRep, s_vgLst, vKGet, s_gMulS, s_gBoolL, s_gStrS, s_gIntS, s_gStrA1, s_gStrA2, s_seqL, s_seqT, cuD_1, ioA, Cell, s_gInK, s_gInS, s_gIn2, s_gIn3, s_gIn4, s_gIn5, ex_par, vNeg, s_gAny, vCaTd, vOp2Lv, s_callIO, s_io, s_fill0, s_fillN, s_fillS, s_putIO, s_wio0, s_wioN, s_wioS, s_give0, s_giveN, s_giveS, s_giveM, Option.map_some, s_seq, s_next, s_break, s_cont, s_set, s_ret, s_retN, s_drop, s_ifS, s_for, s_asg, s_par, s_var, s_c, s_op2, s_op2L, s_op2T, s_ca, s_caL, s_caT, s_nil, s_cons, s_tup, s_lst, s_test, s_and, s_or, s_not, s_if, s_andV, s_orV, s_notV, s_no, s_part, s_sl, s_slL, s_slT, s_ls, s_ts, s_sgs, s_rng1, s_rng2, s_gName, s_gNil, s_gCons, s_gTup, s_lc, s_yes, s_append, s_call, s_dget, s_get2, s_pNil, s_pCons, s_disp, s_m1, s_split, s_indexD, s_w1, s_w2, s_isStr, s_gI, s_gI0, s_gAddS, s_gS, s_gSg, s_gEqI, s_gEqS, s_gEqB, s_gEqNI, s_gEqIS, s_gEqSI, s_gNeI, s_gNeS, s_gIsN, s_gNotN, s_isNon0, s_isNonI, s_isNonS, s_isNonT, s_isNonL, s_gIxL, s_gIxT, s_gIxS, s_gCat, s_gCatT, s_gSlL, s_gSlT, s_gSlS, s_gLenL, s_gLenT, s_gLenS, s_gSum, s_gI2, s_gInt1, s_gInt1b, s_gStrI, s_gAll, s_gSeqL, s_gSeqT, s_gDGet, s_gGet2, s_kDs, s_kDi, s_ioN, s_ioS, s_ioL, s_ioD, s_ioO, s_nones0, s_nones1, List.map_cons, List.map_nil, List.cons_append, List.nil_append, List.append_nil, List.append_assoc, List.getElem?_cons_zero, List.getElem?_cons_succ, List.set_cons_zero, List.set_cons_succ, Option.some.injEq, exists_eq_left', exists_eq_left, D.int.injEq, D.str.injEq, D.tup.injEq, D.lst.injEq, D.bl.injEq, D.dct.injEq, and_true, true_and, List.length_cons, List.length_nil, exists_and_left, exists_eq, Bool.not_true, Bool.not_false, exists_eq', Nat.zero_le, atI_0, atI_1, atI_2, atI_3, atI_4, atI_5, s_gInD, if_true, if_false, Bool.false_eq_true, Nat.reduceAdd])
local macro_rules | `(tactic| walk_at "v1") => `(tactic| simp only [vCell, vDr, vFld, vAppC, vPopC, vSetF, vCallA, vCallAX, vCallX, vMakeA, vMethA, vRaise, vTry, vXf, vChain, vTru, s_truN, s_truB, s_truI, s_truS, s_truL, s_truT, vIsi, vIsiT, vStar, vListZip, vEnum, vZipSL, vPop, vExt, vSetIx, vSetIxC, vRep, s_vgLst, vKGet, s_gMulS, s_gBoolL, s_gStrS, s_gIntS, s_gStrA1, s_gStrA2, s_seqL, s_seqT, cuD_1, ioA, Cell, s_gInK, s_gInS, s_gIn2, s_gIn3, s_gIn4, s_gIn5, ex_par, vNeg, s_gAny, vCaTd, vOp2Lv, s_callIO, s_io, s_fill0, s_fillN, s_fillS, s_putIO, s_wio0, s_wioN, s_wioS, s_give0, s_giveN, s_giveS, s_giveM, Option.map_some, s_seq, s_next, s_break, s_cont, s_set, s_ret, s_retN, s_drop, s_for, s_asg, s_par, s_var, s_c, s_op2, s_op2L, s_op2T, s_ca, s_caL, s_caT, s_nil, s_cons, s_tup, s_lst, s_test, s_and, s_or, s_not, s_if, s_andV, s_orV, s_notV, s_no, s_part, s_sl, s_slL, s_slT, s_ls, s_ts, s_sgs, s_rng1, s_rng2, s_gName, s_gNil, s_gCons, s_gTup, s_lc, s_yes, s_append, s_call, s_dget, s_get2, s_pNil, s_pCons, s_disp, s_m1, s_split, s_indexD, s_w1, s_w2, s_isStr, s_gI, s_gI0, s_gAddS, s_gS, s_gSg, s_gEqI, s_gEqS, s_gEqB, s_gEqNI, s_gEqIS, s_gEqSI, s_gNeI, s_gNeS, s_gIsN, s_gNotN, s_isNon0, s_isNonI, s_isNonS, s_isNonT, s_isNonL, s_gIxL, s_gIxT, s_gIxS, s_gCat, s_gCatT, s_gSlL, s_gSlT, s_gSlS, s_gLenL, s_gLenT, s_gLenS, s_gSum, s_gI2, s_gInt1, s_gInt1b, s_gStrI, s_gAll, s_gSeqL, s_gSeqT, s_gDGet, s_gGet2, s_kDs, s_kDi, s_ioN, s_ioS, s_ioL, s_ioD, s_ioO, s_nones0, s_nones1, List.map_cons, List.map_nil, List.cons_append, List.nil_append, List.append_nil, List.append_assoc, List.getElem?_cons_zero, List.getElem?_cons_succ, List.set_cons_zero, List.set_cons_succ, Option.some.injEq, exists_eq_left', exists_eq_left, D.int.injEq, D.str.injEq, D.tup.injEq, D.lst.injEq, D.bl.injEq, D.dct.injEq, and_true, true_and, List.length_cons, List.length_nil, exists_and_left, exists_eq, Bool.not_true, Bool.not_false, exists_eq', Nat.zero_le, atI_0, atI_1, atI_2, atI_3, atI_4, atI_5, s_gInD, if_true, if_false, Bool.false_eq_true, Nat.reduceAdd])
section
variable {P : Program} {w : World} {K : PySem.W.Frag} {mg : Str → Option Value} {base : Heap} {a_Reading a_BindError a_NoText a_SIGNS a_MODES a_WORDS a_SHAPES a_WITH_BLOCKS : Addr}
abbrev S (l : List Nat) : Str := ⟨l.toArray⟩
theorem fold_rep (c : Nat) : ∀ (n : Nat) (acc : Array Nat), (List.replicate n (#[c] : Array Nat)).foldl (· ++ ·) acc = acc ++ (List.replicate n c).toArray
  | 0, acc => by simp
  | n + 1, acc => by
    rw [List.replicate_succ, List.foldl_cons, fold_rep c n, List.replicate_succ]
    apply Array.ext'
    simp
theorem mul_sg (c : Nat) {k : Int} (h0 : -10 ≤ k) (h1 : k ≤ 10000) : PySem.MulOk (S [c]) k ∧ Txt.mul (S [c]) k = S (List.replicate k.toNat c) := by
  refine ⟨⟨by simp; omega, fun a _ => ?_, fun a _ => ?_⟩, ?_⟩
  · have : (1 : Int) ≤ (2 ^ 63 - 1) / k := by
      rw [Int.le_ediv_iff_mul_le (by omega)]
      omega
    show ¬ ((1 : Int) > _)
    omega
  · have e : (S [c]).length * k.toNat = k.toNat := by show 1 * k.toNat = _; omega
    rw [e]
    unfold Builtin.Str.tooLong
    simp
    have := sizeLine_eq
    omega
  · unfold Txt.mul
    by_cases h : k < 1
    · rw [if_pos h]
      have : k.toNat = 0 := by omega
      rw [this]
      rfl
    · rw [if_neg h]
      by_cases e : k = 1
      · subst e
        rfl
      · have e' : (k == 1 || (S [c]).length == 0) = false := by
          have : (k == 1) = false := by simpa using e
          rw [this]
          rfl
        rw [e', if_neg (by simp)]
        show (⟨(List.replicate k.toNat (#[c] : Array Nat)).foldl (· ++ ·) #[]⟩ : Str) = _
        rw [fold_rep]
        simp
def shp (w : Str) (n : Nat) : Option (List Nat) :=
  if w = "fn" then some (120 :: List.replicate (n - 1) 120)
  else if w = "call" then some (120 :: 120 :: List.replicate (n - 2) 97)
  else if w = "let" ∧ n = 4 then some [120, 97, 115, 97]
  else if w = "let" then some [120, 97] else if w = "set" then some [120, 97] else if w = "tell" then some [97] else if w = "give" then some [97] else if w = "if" then some [97] else if w = "while" then some [97] else if w = "times" then some [109, 120, 97] else none
def shpD (w : Str) (n : Nat) : D := match shp w n with | none => .non | some l => .str (S l)
def vpShapeOf : VSp := fun ds Q _ => ∃ w n, ds = [.str w, .int (n : Nat)] ∧ n ≤ 10000 ∧ Q (shpD w n) [none, none]
theorem S_app (a b : List Nat) : S a ++ S b = S (a ++ b) := by
  show (⟨a.toArray ++ b.toArray⟩ : Str) = _
  simp
theorem S_len (a : List Nat) : (S a).length = a.length := by simp [Str.length]
theorem look7 {w a1 a2 a3 a4 a5 a6 a7 b1 b2 b3 b4 b5 b6 b7 : Str} : (List.lookup w [(a1, b1), (a2, b2), (a3, b3), (a4, b4), (a5, b5), (a6, b6), (a7, b7)]) = if w = a1 then some b1 else if w = a2 then some b2 else if w = a3 then some b3 else if w = a4 then some b4 else if w = a5 then some b5 else if w = a6 then some b6 else if w = a7 then some b7 else none := by
  simp only [List.lookup]
  by_cases h1 : w = a1
  · simp [h1]
  by_cases h2 : w = a2
  · have : (w == a1) = false := by simpa using h1
    rw [this, if_neg h1, if_pos h2]; simp [h2]
  by_cases h3 : w = a3
  · have e1 : (w == a1) = false := by simpa using h1
    have e2 : (w == a2) = false := by simpa using h2
    rw [e1, e2, if_neg h1, if_neg h2, if_pos h3]; simp [h3]
  by_cases h4 : w = a4
  · have e1 : (w == a1) = false := by simpa using h1
    have e2 : (w == a2) = false := by simpa using h2
    have e3 : (w == a3) = false := by simpa using h3
    rw [e1, e2, e3, if_neg h1, if_neg h2, if_neg h3, if_pos h4]; simp [h4]
  have e1 : (w == a1) = false := by simpa using h1
  have e2 : (w == a2) = false := by simpa using h2
  have e3 : (w == a3) = false := by simpa using h3
  have e4 : (w == a4) = false := by simpa using h4
  rw [e1, e2, e3, e4, if_neg h1, if_neg h2, if_neg h3, if_neg h4]
  by_cases h5 : w = a5
  · rw [if_pos h5]; simp [h5]
  by_cases h6 : w = a6
  · have e5 : (w == a5) = false := by simpa using h5
    rw [e5, if_neg h5, if_pos h6]; simp [h6]
  by_cases h7 : w = a7
  · have e5 : (w == a5) = false := by simpa using h5
    have e6 : (w == a6) = false := by simpa using h6
    rw [e5, e6, if_neg h5, if_neg h6, if_pos h7]; simp [h7]
  have e5 : (w == a5) = false := by simpa using h5
  have e6 : (w == a6) = false := by simpa using h6
  have e7 : (w == a7) = false := by simpa using h7
  rw [e5, e6, e7, if_neg h5, if_neg h6, if_neg h7]
theorem s_xa : Str.ofString "xa" = S [120, 97] := by decide +kernel
theorem s_a : Str.ofString "a" = S [97] := by decide +kernel
theorem s_x : Str.ofString "x" = S [120] := by decide +kernel
theorem s_xx : Str.ofString "xx" = S [120, 120] := by decide +kernel
theorem s_mxa : Str.ofString "mxa" = S [109, 120, 97] := by decide +kernel
theorem s_xasa : Str.ofString "xasa" = S [120, 97, 115, 97] := by decide +kernel
theorem sc_shape_of : FnScope ["word", "many"] ["word", "many"] (defScope s_shape_of) := ⟨rfl, rfl, rfl, by decide +kernel, rfl, by decide +kernel, by decide +kernel⟩
theorem ok_shape_of (T : Top K w mg a_Reading a_BindError a_NoText a_SIGNS a_MODES a_WORDS a_SHAPES a_WITH_BLOCKS) : C8.Cal P w K mg base 1 "shape_of" (spOf K [.s, .s] .s (vpShapeOf)) [] := by
  obtain ⟨f, fd, F, gm⟩ := T.h_shape_of
  refine ⟨f, fd, ["word", "many"], [], ?_, gm, F.kp, F.binds (fun _ _ _ _ _ _ us hl => match us, hl with | [_, _], _ => rfl), .nil⟩
  refine F.ok sc_shape_of (fun vs H Q E h => h.len) (fun cdv A outer s H vs Q E hr h => ?_)
  have hu := hu_of hr
  have hu64 : (A.deeper (envOfC "shape_of" (defScope s_shape_of) s.heap.objs.size f cdv)).units + 64 < cLine := by have := hr.un; omega
  have hu65 : (A.deeper (envOfC "shape_of" (defScope s_shape_of) s.heap.objs.size f cdv)).units + 65 < cLine := by have := hr.un; omega
  refine ⟨_, (pss_cons (ps_if (pt_cmpR op_eq (pv 0) pe_str (nomark _))
    (pss_one (ps_ret (pe_op op_add_str pe_str (pe_op VL.op_mulS pe_str (pe_op op_sub (pv 1) pe_int)))))
    pss_nil)
  (pss_cons (ps_if (pt_cmpR op_eq (pv 0) pe_str (nomark _))
    (pss_one (ps_ret (pe_op op_add_str pe_str (pe_op VL.op_mulS pe_str (pe_op op_sub (pv 1) pe_int)))))
    pss_nil)
  (pss_cons (ps_if (PW.pt (pw_and (pt_cmpR op_eq (pv 0) pe_str (nomark _)) (pw_and1 (pt_cmpR op_eq (pv 1) (pe_callB call_len_str (by rfl) T.n_len (by decide +kernel) (pa_cons (C8.pe_gc rfl T.c_SUM_SHAPE) pa_nil)) (nomark _)))))
    (pss_one (ps_ret (C8.pe_gc rfl T.c_SUM_SHAPE)))
    pss_nil)
  (pss_one (ps_ret (VL.pe_kget T.k_SHAPES (C8.pe_gc rfl T.c_SHAPES) (pv 0) (by constructor <;> rfl))))))), fn_run0 (pM := [.s, .s]) (M2 := []) rfl (fun H0 io av rt hrt => (vs_seq (vs_if (vt_test (VQ.e (q_op (VQ.b (q_var (i := 0) rfl)) (VQ.b q_str) od_eq)))
    (vs_ret (VQ.e (q_op (VQ.b q_str) (VQ.b (q_op (VQ.b q_str) (VQ.b (q_op (VQ.b (q_var (i := 1) rfl)) (VQ.b q_int) od_i0)) od_mulS)) od_addS)))
    vs_next)
  (vs_seq (vs_if (vt_test (VQ.e (q_op (VQ.b (q_var (i := 0) rfl)) (VQ.b q_str) od_eq)))
    (vs_ret (VQ.e (q_op (VQ.b q_str) (VQ.b (q_op (VQ.b q_str) (VQ.b (q_op (VQ.b (q_var (i := 1) rfl)) (VQ.b q_int) od_i0)) od_mulS)) od_addS)))
    vs_next)
  (vs_seq (vs_if (vt_and (vt_test (VQ.e (q_op (VQ.b (q_var (i := 0) rfl)) (VQ.b q_str) od_eq))) (vt_test (VQ.e (q_op (VQ.b (q_var (i := 1) rfl)) (VQ.b (q_ca (vba_cons (VQ.b q_str) vba_nil) cd_lenS)) od_eq))))
    (vs_ret (VQ.e q_str))
    vs_next)
  (vs_ret (VQ.e (q_kget (VQ.b (q_var (i := 0) rfl))))))))) (fun ds Qv Qx hl hs => ?_) h⟩
  obtain ⟨w, n, rfl, hn, q⟩ := hs
  walk_at "vs"
  rw [look7, s_x, s_xx, s_a, s_xa, s_mxa, s_xasa]
  unfold shpD shp at q
  have tab : ∀ {X : D}, (¬ w = "fn") → (¬ w = "call") → ¬ (w = "let" ∧ n = 4) → Qv (match (if w = Str.ofString "let" then some (S [120, 97]) else if w = Str.ofString "set" then some (S [120, 97]) else if w = Str.ofString "tell" then some (S [97]) else if w = Str.ofString "give" then some (S [97]) else if w = Str.ofString "if" then some (S [97]) else if w = Str.ofString "while" then some (S [97]) else if w = Str.ofString "times" then some (S [109, 120, 97]) else none) with | none => .non | some v => .str v) [none, none] := fun {_} h1 h2 h3 => by
    rw [if_neg h1, if_neg h2, if_neg h3] at q
    by_cases c_let : w = Str.ofString "let"
    · rw [if_pos c_let] at q ⊢; exact q
    rw [if_neg c_let] at q ⊢
    by_cases c_set : w = Str.ofString "set"
    · rw [if_pos c_set] at q ⊢; exact q
    rw [if_neg c_set] at q ⊢
    by_cases c_tell : w = Str.ofString "tell"
    · rw [if_pos c_tell] at q ⊢; exact q
    rw [if_neg c_tell] at q ⊢
    by_cases c_give : w = Str.ofString "give"
    · rw [if_pos c_give] at q ⊢; exact q
    rw [if_neg c_give] at q ⊢
    by_cases c_if : w = Str.ofString "if"
    · rw [if_pos c_if] at q ⊢; exact q
    rw [if_neg c_if] at q ⊢
    by_cases c_while : w = Str.ofString "while"
    · rw [if_pos c_while] at q ⊢; exact q
    rw [if_neg c_while] at q ⊢
    by_cases c_times : w = Str.ofString "times"
    · rw [if_pos c_times] at q ⊢; exact q
    rw [if_neg c_times] at q ⊢
    exact q
  refine ite2 (fun e => ?_) (fun e => ?_)
  · rw [if_pos (of_decide_eq_true e)] at q
    obtain ⟨m1, m2⟩ := mul_sg 120 (k := (n : Int) - 1) (by omega) (by omega)
    refine ⟨m1, ?_, ?_⟩
    · rw [m2, S_len, S_len, List.length_replicate]; exact small (by simp; omega)
    · rw [m2, S_app]
      have : ((n : Int) - 1).toNat = n - 1 := by omega
      rw [this]
      exact q
  have e : ¬ w = "fn" := fun z => e (decide_eq_true z)
  refine ite2 (fun e2 => ?_) (fun e2 => ?_)
  · rw [if_neg e, if_pos (of_decide_eq_true e2)] at q
    obtain ⟨m1, m2⟩ := mul_sg 97 (k := (n : Int) - 2) (by omega) (by omega)
    refine ⟨m1, ?_, ?_⟩
    · rw [m2, S_len, S_len, List.length_replicate]; exact small (by simp; omega)
    · rw [m2, S_app]
      have : ((n : Int) - 2).toNat = n - 2 := by omega
      rw [this]
      exact q
  have e2 : ¬ w = "call" := fun z => e2 (decide_eq_true z)
  refine ite2 (fun e3 => ?_) (fun e3 => ?_)
  · have e3 : w = "let" := of_decide_eq_true e3
    refine ⟨by rw [S_len]; exact small (by decide), ?_⟩
    refine ite2 (fun e4 => ?_) (fun e4 => ?_)
    · have e4 : n = 4 := by
        have := of_decide_eq_true e4
        rw [S_len] at this
        simp at this
        omega
      rw [if_neg e, if_neg e2, if_pos ⟨e3, e4⟩] at q
      exact q
    · have e4 : ¬ n = 4 := fun z => e4 (by rw [S_len]; simp [z])
      exact tab (X := .non) e e2 fun z => e4 z.2
  · have e3 : ¬ w = "let" := fun z => e3 (decide_eq_true z)
    exact tab (X := .non) e e2 fun z => e3 z.1
end
end K10
set_option Elab.async false
set_option linter.all false
set_option maxRecDepth 100000
set_option maxHeartbeats 4000000
namespace K10
open PySem PySem.Spec PyProof.Rows L2 L2H HotX Fb VL
local macro_rules | `(tactic| walk_at "vs") => `(tactic| simp only [vCell, vDr, vFld, vAppC, vPopC, vSetF, vCallA, vCallAX, vCallX, vMakeA, vMethA, vRaise, vTry, vXf, vChain, vTru, s_truN, s_truB, s_truI, s_truS, s_truL, s_truT, vIsi, vIsiT, vStar, vListZip, vEnum, vZipSL, vPop, vExt, vSetIx, vSetIxC, vRep, s_vgLst, vKGet, s_gMulS, s_gBoolL, s_gStrS, s_gIntS, s_gStrA1, s_gStrA2, s_seqL, s_seqT, cuD_1, ioA, Cell, s_gInK, s_gInS, s_gIn2, s_gIn3, s_gIn4, s_gIn5, ex_par, vNeg, s_gAny, vCaTd, vOp2Lv, s_callIO, s_io, s_fill0, s_fillN, s_fillS, s_putIO, s_wio0, s_wioN, s_wioS, s_give0, s_giveN, s_giveS, s_giveM, Option.map_some, s_seq, s_next, s_break, s_cont, s_set, s_ret, s_retN, s_drop, s_ifS, s_for, s_asg, s_par, s_var, s_c, s_op2, s_op2L, s_op2T, s_ca, s_caL, s_caT, s_nil, s_cons, s_tup, s_lst, s_test, s_and, s_or, s_not, s_if, s_andV, s_orV, s_notV, s_no, s_part, s_sl, s_slL, s_slT, s_ls, s_ts, s_sgs, s_rng1, s_rng2, s_gName, s_gNil, s_gCons, s_gTup, s_lc, s_yes, s_append, s_call, s_dget, s_get2, s_pNil, s_pCons, s_disp, s_m1, s_split, s_indexD, s_w1, s_w2, s_isStr, s_gI, s_gI0, s_gAddS, s_gS, s_gSg, s_gEqI, s_gEqS, s_gEqB, s_gEqNI, s_gEqIS, s_gEqSI, s_gNeI, s_gNeS, s_gIsN, s_gNotN, s_isNon0, s_isNonI, s_isNonS, s_isNonT, s_isNonL, s_gIxL, s_gIxT, s_gIxS, s_gCat, s_gCatT, s_gSlL, s_gSlT, s_gSlS, s_gLenL, s_gLenT, s_gLenS, s_gSum, s_gI2, s_gInt1, s_gInt1b, s_gStrI, s_gAll, s_gSeqL, s_gSeqT, s_gDGet, s_gGet2, s_kDs, s_kDi, s_ioN, s_ioS, s_ioL, s_ioD, s_ioO, s_nones0, s_nones1, List.map_cons, List.map_nil, List.cons_append, List.nil_append, List.append_nil, List.append_assoc, List.getElem?_cons_zero, List.getElem?_cons_succ, List.set_cons_zero, List.set_cons_succ, Option.some.injEq, exists_eq_left', exists_eq_left, D.int.injEq, D.str.injEq, D.tup.injEq, D.lst.injEq, D.bl.injEq, D.dct.injEq, and_true, true_and, List.length_cons, List.length_nil, exists_and_left, exists_eq, Bool.not_true, Bool.not_false, exists_eq', Nat.zero_le, atI_0, atI_1, atI_2, atI_3, atI_4, atI_5, s_gInD, if_true, if_false, Bool.false_eq_true, Nat.reduceAdd])
local macro_rules | `(tactic| walk_at "v1") => `(tactic| simp only [vCell, vDr, vFld, vAppC, vPopC, vSetF, vCallA, vCallAX, vCallX, vMakeA, vMethA, vRaise, vTry, vXf, vChain, vTru, s_truN, s_truB, s_truI, s_truS, s_truL, s_truT, vIsi, vIsiT, vStar, vListZip, vEnum, vZipSL, vPop, vExt, vSetIx, vSetIxC, vRep, s_vgLst, vKGet, s_gMulS, s_gBoolL, s_gStrS, s_gIntS, s_gStrA1, s_gStrA2, s_seqL, s_seqT, cuD_1, ioA, Cell, s_gInK, s_gInS, s_gIn2, s_gIn3, s_gIn4, s_gIn5, ex_par, vNeg, s_gAny, vCaTd, vOp2Lv, s_callIO, s_io, s_fill0, s_fillN, s_fillS, s_putIO, s_wio0, s_wioN, s_wioS, s_give0, s_giveN, s_giveS, s_giveM, Option.map_some, s_seq, s_next, s_break, s_cont, s_set, s_ret, s_retN, s_drop, s_for, s_asg, s_par, s_var, s_c, s_op2, s_op2L, s_op2T, s_ca, s_caL, s_caT, s_nil, s_cons, s_tup, s_lst, s_test, s_and, s_or, s_not, s_if, s_andV, s_orV, s_notV, s_no, s_part, s_sl, s_slL, s_slT, s_ls, s_ts, s_sgs, s_rng1, s_rng2, s_gName, s_gNil, s_gCons, s_gTup, s_lc, s_yes, s_append, s_call, s_dget, s_get2, s_pNil, s_pCons, s_disp, s_m1, s_split, s_indexD, s_w1, s_w2, s_isStr, s_gI, s_gI0, s_gAddS, s_gS, s_gSg, s_gEqI, s_gEqS, s_gEqB, s_gEqNI, s_gEqIS, s_gEqSI, s_gNeI, s_gNeS, s_gIsN, s_gNotN, s_isNon0, s_isNonI, s_isNonS, s_isNonT, s_isNonL, s_gIxL, s_gIxT, s_gIxS, s_gCat, s_gCatT, s_gSlL, s_gSlT, s_gSlS, s_gLenL, s_gLenT, s_gLenS, s_gSum, s_gI2, s_gInt1, s_gInt1b, s_gStrI, s_gAll, s_gSeqL, s_gSeqT, s_gDGet, s_gGet2, s_kDs, s_kDi, s_ioN, s_ioS, s_ioL, s_ioD, s_ioO, s_nones0, s_nones1, List.map_cons, List.map_nil, List.cons_append, List.nil_append, List.append_nil, List.append_assoc, List.getElem?_cons_zero, List.getElem?_cons_succ, List.set_cons_zero, List.set_cons_succ, Option.some.injEq, exists_eq_left', exists_eq_left, D.int.injEq, D.str.injEq, D.tup.injEq, D.lst.injEq, D.bl.injEq, D.dct.injEq, and_true, true_and, List.length_cons, List.length_nil, exists_and_left, exists_eq, Bool.not_true, Bool.not_false, exists_eq', Nat.zero_le, atI_0, atI_1, atI_2, atI_3, atI_4, atI_5, s_gInD, if_true, if_false, Bool.false_eq_true, Nat.reduceAdd])
section
variable {P : Program} {w : World} {K : PySem.W.Frag} {mg : Str → Option Value} {base : Heap} {a_Reading a_BindError a_NoText a_SIGNS a_MODES a_WORDS a_SHAPES a_WITH_BLOCKS : Addr}
def fitsB (w : Str) (rest : List Str) : Bool := match shp w rest.length with | none => false | some l => decide (l.length = rest.length) && (List.zipWith isOf l rest).all id
def okZ (z : Str) : Prop := z.length ≤ 100000 ∧ PyData.strOk z = true
def okWs (w : Str) (rest : List Str) : Prop := rest.length ≤ 5000 ∧ ∀ z ∈ w :: rest, okZ z
def vpFits : VSp := fun ds Q _ => ∃ w rest, ds = [.lst ((w :: rest).map D.str)] ∧ okWs w rest ∧ Q (.bl (fitsB w rest)) [none]
theorem shp_len {w : Str} {n : Nat} {l : List Nat} (h : shp w n = some l) : l.length ≤ n + 4 := by
  unfold shp at h
  repeat' (split at h)
  all_goals first | (cases h; simp; omega) | (cases h; simp) | cases h
theorem sgD_S (l : List Nat) : sgD (S l) = l.map fun c => .str ⟨#[c]⟩ := by simp [sgD]
theorem sc_fits : FnScope ["words", "rest", "shape", "letter", "word"] ["words"] (defScope s_fits) := ⟨rfl, rfl, rfl, by decide +kernel, rfl, by decide +kernel, by decide +kernel⟩
theorem ok_fits (T : Top K w mg a_Reading a_BindError a_NoText a_SIGNS a_MODES a_WORDS a_SHAPES a_WITH_BLOCKS) : C8.Cal P w K mg base 3 "fits" (spOf K [.s] .s (vpFits)) [] := by
  have C_shape_of := ok_shape_of (P := P) (w := w) (base := base) T
  have C_is_of := ok_is_of (P := P) (w := w) (base := base) T
  obtain ⟨f, fd, F, gm⟩ := T.h_fits
  refine ⟨f, fd, ["words"], [], ?_, gm, F.kp, F.binds (fun _ _ _ _ _ _ us hl => match us, hl with | [_], _ => rfl), .nil⟩
  refine F.ok sc_fits (fun vs H Q E h => h.len) (fun cdv A outer s H vs Q E hr h => ?_)
  have hu := hu_of hr
  have hu64 : (A.deeper (envOfC "fits" (defScope s_fits) s.heap.objs.size f cdv)).units + 64 < cLine := by have := hr.un; omega
  have hu65 : (A.deeper (envOfC "fits" (defScope s_fits) s.heap.objs.size f cdv)).units + 65 < cLine := by have := hr.un; omega
  refine ⟨_, (pss_cons (ps_set (i := 1) sc_fits.nd rfl (Or.inl rfl) (pe_slice (VL.slL K rfl) (pv 0) (po_some pe_int) po_none))
  (pss_cons (ps_set (i := 2) sc_fits.nd rfl (Or.inl rfl) (C8.pe_c C_shape_of hr (by omega) rfl (pa_cons (pe_ix (VL.ixL K rfl) (pv 0) pe_int (fun _ _ => rfl)) (pa_cons (pe_callB (VL.lenK K rfl) (by rfl) T.n_len (by decide +kernel) (pa_cons (pv 1) pa_nil)) pa_nil))))
  (pss_cons (ps_if (PW.pt (pw_or (pt_cmpR op_isN (pv 2) pe_non (nomark _)) (pw_or1 (pt_cmpR op_ne (pe_callB call_len_str (by rfl) T.n_len (by decide +kernel) (pa_cons (pv 2) pa_nil)) (pe_callB (VL.lenK K rfl) (by rfl) T.n_len (by decide +kernel) (pa_cons (pv 1) pa_nil)) (nomark _)))))
    (pss_one (ps_ret pe_bl))
    pss_nil)
  (pss_one (ps_ret (pe_callB (VL.allK K rfl rfl) (by rfl) T.n_all (by decide +kernel) (pa_cons (pe_lc (own := [("letter", 3), ("word", 4)]) rfl sc_fits.nd (Fb.pi_zipSL K rfl rfl T.n_zip (pa_cons (pv 2) (pa_cons (pv 1) pa_nil))) (blkOk_by (own := [("letter", 3), ("word", 4)]) (N := ["words", "rest", "shape", "letter", "word"]) (sc := defScope s_fits) (by decide +kernel)) (fun _ _ _ _ _ => (VL.tupTK K rfl (n := 2) rfl (pgs_cons (pg_name (i := 3) sc_fits.nd rfl (Or.inl rfl)) (pgs_cons (pg_name (i := 4) sc_fits.nd rfl (Or.inl rfl)) pgs_nil)))) (fun _ _ _ _ _ => pts_nil) (fun _ _ _ _ _ => (C8.pe_c C_is_of hr (by omega) rfl (pa_cons (pv 3) (pa_cons (pv 4) pa_nil))))) pa_nil))))))), fn_run0 (pM := [.s]) (M2 := [.s, .s, .s, .s]) rfl (fun H0 io av rt hrt => (vs_seq (vs_set (i := 1) (VE.s (v_slL (VQ.e (q_var (i := 0) rfl)) (vo_some (VQ.e q_int)) vo_none ol_sl)) rfl (hrt 1 (by decide)))
  (vs_seq (vs_set (i := 2) (v_call (va_cons (VQ.e (q_op (VQ.b (q_var (i := 0) rfl)) (VQ.b q_int) od_ixL)) (va_cons (VQ.e (q_ca (vba_cons (VQ.b (q_var (i := 1) rfl)) vba_nil) cd_len)) va_nil)) (by simp)) rfl (hrt 2 (by decide)))
  (vs_seq (vs_if (vt_or (vt_test (VQ.e (q_op (VQ.b (q_var (i := 2) rfl)) (VQ.b q_non) od_isN))) (vt_test (VQ.e (q_op (VQ.b (q_ca (vba_cons (VQ.b (q_var (i := 2) rfl)) vba_nil) cd_lenS)) (VQ.b (q_ca (vba_cons (VQ.b (q_var (i := 1) rfl)) vba_nil) cd_len)) od_ne))))
    (vs_ret (VQ.e q_bl))
    vs_next)
  (vs_ret (v_ca (va_cons (VE.s (v_lc (vs := [3, 4]) (vi_zipSL (va_cons (VQ.e (q_var (i := 2) rfl)) (va_cons (VQ.e (q_var (i := 1) rfl)) va_nil))) (vg_tup (vg_cons (vg_name (i := 3) rfl (hrt 3 (by decide))) (vg_cons (vg_name (i := 4) rfl (hrt 4 (by decide))) vg_nil))) vt_yes (v_call (va_cons (VQ.e (q_var (i := 3) rfl)) (va_cons (VQ.e (q_var (i := 4) rfl)) va_nil)) (by simp)) (by decide) (fun i hi => hrt i (by revert i; decide)))) va_nil) cd_all)))))) (fun ds Qv Qx hl hs => ?_) h⟩
  obtain ⟨w, rest, rfl, hok, q⟩ := hs
  walk_at "vs"
  have e : ((List.map D.str rest).length : Nat) = rest.length := by simp
  refine ⟨w, rest.length, by rw [e], by have := hok.1; omega, ?_⟩
  unfold shpD
  unfold fitsB at q
  cases hs : shp w rest.length with
  | none =>
    rw [hs] at q
    exact q
  | some l =>
    rw [hs] at q
    dsimp only at q ⊢
    walk_at "vs"
    have hl5 : l.length ≤ 5004 := by have := shp_len hs; have := hok.1; omega
    refine ⟨small (by rw [S_len]; omega), ?_⟩
    rw [S_len, e]
    refine ite2 (fun ne => ?_) (fun ne => ?_)
    · have ne : ¬ l.length = rest.length := by
        intro z
        simp [z] at ne
      simpa [ne] using q
    · have ne : l.length = rest.length := by
        by_cases z : (l.length : Int) = rest.length
        · exact_mod_cast z
        · simp [z] at ne
      refine ⟨_, _, rfl, ?_⟩
      rw [sgD_S, zipD_strs]
      refine lc_mapF _ (fun p : Nat × Str => D.bl (isOf p.1 p.2)) (l.zip rest) [] (small (by simp; omega)) (fun p hp A B hA => ?_) ⟨(l.zip rest).map fun p => isOf p.1 p.2, by simp, ?_⟩
      · walk_at "vs"
        refine ⟨p.1, p.2, rfl, (hok.2 _ (List.mem_cons_of_mem _ (List.of_mem_zip hp).2)).1, hA _ rfl⟩
      · have e2 : List.zipWith isOf l rest = (l.zip rest).map fun p => isOf p.1 p.2 := by
          rw [List.zip, List.map_zipWith]
        rw [e2] at q
        simpa [ne] using q
def numV (z : Str) : Int := (PySem.intText? z).getD 0
def partD (z : Str) : D := if numB z = true then .int (numV z) else .str z
def startD (w : Str) (rest : List Str) : D :=
  if w = "let" ∧ rest.length = 4 then .tup [.str "sum", (rest.map partD).getD 0 .non, (rest.map partD).getD 2 .non, (rest.map partD).getD 1 .non, (rest.map partD).getD 3 .non]
  else if w = "fn" then .tup [.str w, (rest.map partD).getD 0 .non, .tup ((rest.map partD).drop 1)]
  else if w = "call" then .tup [.str w, (rest.map partD).getD 0 .non, (rest.map partD).getD 1 .non, .tup ((rest.map partD).drop 2)]
  else .tup (.str w :: rest.map partD)
def vpStarted : VSp := fun ds Q _ => ∃ w rest, ds = [.lst ((w :: rest).map D.str)] ∧ okWs w rest ∧ fitsB w rest = true ∧ Q (startD w rest) [none]
theorem digs_of {z : Str} (h : numB z = true) : ∃ n, PySem.intText? z = some n ∧ z.length ≤ 640 := by
  unfold numB at h
  simp only [Bool.and_eq_true, decide_eq_true_eq] at h
  have hd : NumText.AllDigits z.cps.toList := by
    intro c hc
    have := List.all_eq_true.mp h.2 c hc
    simpa [digC] using this
  have hl := len_cps z
  exact ⟨_, PySem.intText_digits hd (fun e => by rw [e] at hl; simp at hl; omega) (by omega), by omega⟩
theorem fits_len {w : Str} {rest : List Str} (h : fitsB w rest = true) : (w = "fn" → 1 ≤ rest.length) ∧ (w = "call" → 2 ≤ rest.length) := by
  have n1 : ¬ (Str.ofString "call" = Str.ofString "fn") := by decide +kernel
  unfold fitsB shp at h
  constructor
  · intro e
    subst e
    rw [if_pos rfl] at h
    simp only [Bool.and_eq_true, decide_eq_true_eq, List.length_cons, List.length_replicate] at h
    omega
  · intro e
    subst e
    rw [if_neg n1, if_pos rfl] at h
    simp only [Bool.and_eq_true, decide_eq_true_eq, List.length_cons, List.length_replicate] at h
    omega
theorem sc_started : FnScope ["words", "word", "parts", "x", "a", "s", "b", "part"] ["words"] (defScope s_started) := ⟨rfl, rfl, rfl, by decide +kernel, rfl, by decide +kernel, by decide +kernel⟩
theorem ok_started (T : Top K w mg a_Reading a_BindError a_NoText a_SIGNS a_MODES a_WORDS a_SHAPES a_WITH_BLOCKS) : C8.Cal P w K mg base 2 "started" (spOf K [.s] .s (vpStarted)) [] := by
  have C_is_number := ok_is_number (P := P) (w := w) (base := base) T
  obtain ⟨f, fd, F, gm⟩ := T.h_started
  refine ⟨f, fd, ["words"], [], ?_, gm, F.kp, F.binds (fun _ _ _ _ _ _ us hl => match us, hl with | [_], _ => rfl), .nil⟩
  refine F.ok sc_started (fun vs H Q E h => h.len) (fun cdv A outer s H vs Q E hr h => ?_)
  have hu := hu_of hr
  have hu64 : (A.deeper (envOfC "started" (defScope s_started) s.heap.objs.size f cdv)).units + 64 < cLine := by have := hr.un; omega
  have hu65 : (A.deeper (envOfC "started" (defScope s_started) s.heap.objs.size f cdv)).units + 65 < cLine := by have := hr.un; omega
  refine ⟨_, (pss_cons (ps_set (i := 1) sc_started.nd rfl (Or.inl rfl) (pe_ix (VL.ixL K rfl) (pv 0) pe_int (fun _ _ => rfl)))
  (pss_cons (ps_setLc (i := 2) (own := [("part", 7)]) rfl sc_started.nd rfl rfl (sw_true rfl rfl rfl (by decide +kernel)) (VL.piLK K rfl (pe_slice (VL.slL K rfl) (pv 0) (po_some pe_int) po_none)) (blkOk_by (own := [("part", 7)]) (N := ["words", "word", "parts", "x", "a", "s", "b", "part"]) (sc := defScope s_started) (by decide +kernel)) (fun _ _ _ _ _ => (pg_name (i := 7) sc_started.nd rfl (Or.inl rfl))) (fun _ _ _ _ _ => pts_nil) (fun _ _ _ _ _ => (pe_ifExp (pt_val (C8.pe_c C_is_number hr (by omega) rfl (pa_cons (pv 7) pa_nil))) (pe_callTy call_int_str (by rfl) T.n_int (by decide +kernel) (pa_cons (pv 7) pa_nil)) (pv 7))))
  (pss_cons (ps_if (PW.pt (pw_and (pt_cmpR op_eq (pv 1) pe_str (nomark _)) (pw_and1 (pt_cmpR op_eq (pe_callB (VL.lenK K rfl) (by rfl) T.n_len (by decide +kernel) (pa_cons (pv 2) pa_nil)) (pe_callB call_len_str (by rfl) T.n_len (by decide +kernel) (pa_cons (C8.pe_gc rfl T.c_SUM_SHAPE) pa_nil)) (nomark _)))))
    (pss_cons (ps_asg (pv 2) (VL.lstTK K rfl (n := 4) rfl (pgs_cons (pg_name (i := 3) sc_started.nd rfl (Or.inl rfl)) (pgs_cons (pg_name (i := 4) sc_started.nd rfl (Or.inl rfl)) (pgs_cons (pg_name (i := 5) sc_started.nd rfl (Or.inl rfl)) (pgs_cons (pg_name (i := 6) sc_started.nd rfl (Or.inl rfl)) pgs_nil))))))
  (pss_one (ps_ret (pe_tup (pa_cons pe_str (pa_cons (pv 3) (pa_cons (pv 5) (pa_cons (pv 4) (pa_cons (pv 6) pa_nil)))))))))
    pss_nil)
  (pss_cons (ps_if (pt_cmpR op_eq (pv 1) pe_str (nomark _))
    (pss_one (ps_ret (pe_tup (pa_cons (pv 1) (pa_cons (pe_ix (VL.ixL K rfl) (pv 2) pe_int (fun _ _ => rfl)) (pa_cons (pe_callTy (VL.tupleK K rfl) (by rfl) T.n_tuple (by decide +kernel) (pa_cons (pe_slice (VL.slL K rfl) (pv 2) (po_some pe_int) po_none) pa_nil)) pa_nil))))))
    pss_nil)
  (pss_cons (ps_if (pt_cmpR op_eq (pv 1) pe_str (nomark _))
    (pss_one (ps_ret (pe_tup (pa_cons (pv 1) (pa_cons (pe_ix (VL.ixL K rfl) (pv 2) pe_int (fun _ _ => rfl)) (pa_cons (pe_ix (VL.ixL K rfl) (pv 2) pe_int (fun _ _ => rfl)) (pa_cons (pe_callTy (VL.tupleK K rfl) (by rfl) T.n_tuple (by decide +kernel) (pa_cons (pe_slice (VL.slL K rfl) (pv 2) (po_some pe_int) po_none) pa_nil)) pa_nil)))))))
    pss_nil)
  (pss_one (ps_ret (pe_tup (pa_cons (pv 1) (VL.starK K rfl (pv 2) pa_nil)))))))))), fn_run0 (pM := [.s]) (M2 := [.s, .s, .s, .s, .s, .s, .s]) rfl (fun H0 io av rt hrt => (vs_seq (vs_set (i := 1) (VQ.e (q_op (VQ.b (q_var (i := 0) rfl)) (VQ.b q_int) od_ixL)) rfl (hrt 1 (by decide)))
  (vs_seq (vs_set (i := 2) (VE.s (v_lc (vs := [7]) (vi_list (VE.s (v_slL (VQ.e (q_var (i := 0) rfl)) (vo_some (VQ.e q_int)) vo_none ol_sl))) (vg_name (i := 7) rfl (hrt 7 (by decide))) vt_yes (v_if (vt_b (v_call (va_cons (VQ.e (q_var (i := 7) rfl)) va_nil) (by simp))) (VQ.e (q_ca (vba_cons (VQ.b (q_var (i := 7) rfl)) vba_nil) cd_intS)) (VQ.e (q_var (i := 7) rfl))) (by decide) (fun i hi => hrt i (by revert i; decide)))) rfl (hrt 2 (by decide)))
  (vs_seq (vs_if (vt_and (vt_test (VQ.e (q_op (VQ.b (q_var (i := 1) rfl)) (VQ.b q_str) od_eq))) (vt_test (VQ.e (q_op (VQ.b (q_ca (vba_cons (VQ.b (q_var (i := 2) rfl)) vba_nil) cd_len)) (VQ.b (q_ca (vba_cons (VQ.b q_str) vba_nil) cd_lenS)) od_eq))))
    (vs_seq (vs_asg (VQ.e (q_var (i := 2) rfl)) (vg_lst (vg_cons (vg_name (i := 3) rfl (hrt 3 (by decide))) (vg_cons (vg_name (i := 4) rfl (hrt 4 (by decide))) (vg_cons (vg_name (i := 5) rfl (hrt 5 (by decide))) (vg_cons (vg_name (i := 6) rfl (hrt 6 (by decide))) vg_nil))))))
  (vs_ret (v_tup (va_cons (VQ.e q_str) (va_cons (VQ.e (q_var (i := 3) rfl)) (va_cons (VQ.e (q_var (i := 5) rfl)) (va_cons (VQ.e (q_var (i := 4) rfl)) (va_cons (VQ.e (q_var (i := 6) rfl)) va_nil))))))))
    vs_next)
  (vs_seq (vs_if (vt_test (VQ.e (q_op (VQ.b (q_var (i := 1) rfl)) (VQ.b q_str) od_eq)))
    (vs_ret (v_tup (va_cons (VQ.e (q_var (i := 1) rfl)) (va_cons (VQ.e (q_op (VQ.b (q_var (i := 2) rfl)) (VQ.b q_int) od_ixL)) (va_cons (v_caT (va_cons (VE.s (v_slL (VQ.e (q_var (i := 2) rfl)) (vo_some (VQ.e q_int)) vo_none ol_sl)) va_nil) ct_tuple) va_nil)))))
    vs_next)
  (vs_seq (vs_if (vt_test (VQ.e (q_op (VQ.b (q_var (i := 1) rfl)) (VQ.b q_str) od_eq)))
    (vs_ret (v_tup (va_cons (VQ.e (q_var (i := 1) rfl)) (va_cons (VQ.e (q_op (VQ.b (q_var (i := 2) rfl)) (VQ.b q_int) od_ixL)) (va_cons (VQ.e (q_op (VQ.b (q_var (i := 2) rfl)) (VQ.b q_int) od_ixL)) (va_cons (v_caT (va_cons (VE.s (v_slL (VQ.e (q_var (i := 2) rfl)) (vo_some (VQ.e q_int)) vo_none ol_sl)) va_nil) ct_tuple) va_nil))))))
    vs_next)
  (vs_ret (v_tup (va_cons (VQ.e (q_var (i := 1) rfl)) (va_star (VQ.e (q_var (i := 2) rfl)) va_nil)))))))))) (fun ds Qv Qx hl hs => ?_) h⟩
  obtain ⟨w, rest, rfl, hok, hf, q⟩ := hs
  walk_at "vs"
  have h5 := hok.1
  refine lc_mapF D.str partD rest [] (small (by simp; omega)) (fun z hz A B hA => ?_) ?_
  · walk_at "vs"
    refine ⟨z, rfl, (hok.2 z (List.mem_cons_of_mem _ hz)).1, numB z, rfl, ?_⟩
    have := hA [some (.lst (D.str w :: List.map D.str rest)), some (.str w), none, none, none, none, none, some (.str z)] rfl
    unfold partD at this
    cases hn : numB z with
    | true =>
      rw [hn] at this
      simp only [if_true] at this ⊢
      obtain ⟨n, h1, h2⟩ := digs_of hn
      refine ⟨n, h1, h2, ?_⟩
      unfold numV at this
      rw [h1] at this
      exact this
    | false =>
      rw [hn] at this
      simpa using this
  · walk_at "vs"
    obtain ⟨f1, f2⟩ := fits_len hf
    have lm : (List.map partD rest).length = rest.length := by simp
    by_cases hlet : w = "let" ∧ rest.length = 4
    · obtain ⟨e1, e2⟩ := hlet
      rw [if_pos (decide_eq_true e1)]
      refine ⟨by rw [s_xasa, S_len]; exact small (by decide), ?_⟩
      rw [if_pos (decide_eq_true (by rw [s_xasa, S_len, lm, e2]; rfl))]
      refine ⟨by rw [lm]; exact e2, ?_⟩
      match rest, e2 with
      | [r0, r1, r2, r3], _ =>
        walk_at "vs"
        refine ⟨small (by decide), ?_⟩
        unfold startD at q
        rw [if_pos ⟨e1, rfl⟩] at q
        exact q
    · unfold startD at q
      rw [if_neg hlet] at q
      have hT : (if decide (w = Str.ofString "fn") = true then ∃ d, atI (List.map partD rest) 0 = some d ∧ 3 ≤ sizeLine ∧ Qv (D.tup [D.str w, d, D.tup (cuD (List.map partD rest) (some 1) none)]) [none]
        else if decide (w = Str.ofString "call") = true then ∃ d, atI (List.map partD rest) 0 = some d ∧ ∃ d_1, atI (List.map partD rest) 1 = some d_1 ∧ 4 ≤ sizeLine ∧ Qv (D.tup [D.str w, d, d_1, D.tup (cuD (List.map partD rest) (some 2) none)]) [none]
        else ∃ l, (D.lst (List.map partD rest) = D.tup l ∨ List.map partD rest = l) ∧ l.length + 1 ≤ sizeLine ∧ Qv (D.tup (D.str w :: l)) [none]) := by
        refine ite2 (fun e => ?_) (fun e => ?_)
        · have e := of_decide_eq_true e
          rw [if_pos e] at q
          have := f1 e
          match rest, this with
          | r0 :: r, _ =>
            refine ⟨partD r0, by simp, small (by decide), ?_⟩
            rw [List.map_cons, cuD_1]
            exact q
        · have e : ¬ w = "fn" := fun z => e (decide_eq_true z)
          rw [if_neg e] at q
          refine ite2 (fun e => ?_) (fun e => ?_)
          · have e := of_decide_eq_true e
            rw [if_pos e] at q
            have := f2 e
            match rest, this with
            | r0 :: r1 :: r, _ =>
              refine ⟨partD r0, by simp, partD r1, by simp, small (by decide), ?_⟩
              rw [cuD_2 (by simp)]
              exact q
          · have e : ¬ w = "call" := fun z => e (decide_eq_true z)
            rw [if_neg e] at q
            exact ⟨_, .inr rfl, small (by rw [lm]; omega), q⟩
      refine ite2 (fun e => ?_) (fun e => hT)
      refine ⟨by rw [s_xasa, S_len]; exact small (by decide), ?_⟩
      rw [if_neg (fun z => hlet ⟨of_decide_eq_true e, by
        have := of_decide_eq_true z
        rw [s_xasa, S_len, lm] at this
        exact_mod_cast this⟩)]
      exact hT
def atomD (z : Str) : D := if nameB z = true then .str z else if numB z = true then .int (numV z) else .non
def vpAtomIn : VSp := fun ds Q _ => ∃ z, ds = [.str z] ∧ z.length ≤ 100000 ∧ Q (atomD z) [none]
theorem sc__law_atom_in : FnScope ["_law_word", "_law_sign"] ["_law_word"] (defScope s__law_atom_in) := ⟨rfl, rfl, rfl, by decide +kernel, rfl, by decide +kernel, by decide +kernel⟩
theorem ok__law_atom_in (T : Top K w mg a_Reading a_BindError a_NoText a_SIGNS a_MODES a_WORDS a_SHAPES a_WITH_BLOCKS) : C8.Cal P w K mg base 2 "_law_atom_in" (spOf K [.s] .s (vpAtomIn)) [] := by
  have C_law_is_name := ok__law_is_name (P := P) (w := w) (base := base) T
  obtain ⟨f, fd, F, gm⟩ := T.h__law_atom_in
  refine ⟨f, fd, ["_law_word"], [], ?_, gm, F.kp, F.binds (fun _ _ _ _ _ _ us hl => match us, hl with | [_], _ => rfl), .nil⟩
  refine F.ok sc__law_atom_in (fun vs H Q E h => h.len) (fun cdv A outer s H vs Q E hr h => ?_)
  have hu := hu_of hr
  have hu64 : (A.deeper (envOfC "_law_atom_in" (defScope s__law_atom_in) s.heap.objs.size f cdv)).units + 64 < cLine := by have := hr.un; omega
  have hu65 : (A.deeper (envOfC "_law_atom_in" (defScope s__law_atom_in) s.heap.objs.size f cdv)).units + 65 < cLine := by have := hr.un; omega
  refine ⟨_, (pss_cons (ps_if (pt_val (C8.pe_c C_law_is_name hr (by omega) rfl (pa_cons (pv 0) pa_nil)))
    (pss_one (ps_ret (pv 0)))
    pss_nil)
  (pss_cons (ps_if (PW.pt (pw_or (pt_not (pt_chain op_le op_le pe_int (pe_callB call_len_str (by rfl) T.n_len (by decide +kernel) (pa_cons (pv 0) pa_nil)) pe_int)) (pw_or1 (pt_val (pe_callB (VL.anyK K rfl rfl) (by rfl) T.n_any (by decide +kernel) (pa_cons (pe_lc (own := [("_law_sign", 1)]) rfl sc__law_atom_in.nd (pi_str (pv 0)) (blkOk_by (own := [("_law_sign", 1)]) (N := ["_law_word", "_law_sign"]) (sc := defScope s__law_atom_in) (by decide +kernel)) (fun _ _ _ _ _ => (pg_name (i := 1) sc__law_atom_in.nd rfl (Or.inl rfl))) (fun _ _ _ _ _ => pts_nil) (fun _ _ _ _ _ => (pe_cmpR op_notIn_sign (pv 1) pe_str rfl))) pa_nil))))))
    (pss_one (ps_ret pe_non))
    pss_nil)
  (pss_cons (ps_if (PW.pt (pw_and (pt_cmpR op_eq (pe_ix ix_str (pv 0) pe_int (fun _ _ => rfl)) pe_str (nomark _)) (pw_and1 (pt_cmpR op_gt (pe_callB call_len_str (by rfl) T.n_len (by decide +kernel) (pa_cons (pv 0) pa_nil)) pe_int (nomark _)))))
    (pss_one (ps_ret pe_non))
    pss_nil)
  (pss_one (ps_ret (pe_callTy call_int_str (by rfl) T.n_int (by decide +kernel) (pa_cons (pv 0) pa_nil))))))), fn_run0 (pM := [.s]) (M2 := [.s]) rfl (fun H0 io av rt hrt => (vs_seq (vs_if (vt_b (v_call (va_cons (VQ.e (q_var (i := 0) rfl)) va_nil) (by simp)))
    (vs_ret (VQ.e (q_var (i := 0) rfl)))
    vs_next)
  (vs_seq (vs_if (vt_or (vt_not (vt_test (VQ.e (q_chain (VQ.b q_int) (VQ.b (q_ca (vba_cons (VQ.b (q_var (i := 0) rfl)) vba_nil) cd_lenS)) (VQ.b q_int) od_b0 od_b0)))) (vt_b (v_ca (va_cons (VE.s (v_lc (vs := [1]) (vi_str (VQ.e (q_var (i := 0) rfl))) (vg_name (i := 1) rfl (hrt 1 (by decide))) vt_yes (VQ.e (q_op (VQ.b (q_var (i := 1) rfl)) (VQ.b q_str) od_sg)) (by decide) (fun i hi => hrt i (by revert i; decide)))) va_nil) cd_any)))
    (vs_ret (VQ.e q_non))
    vs_next)
  (vs_seq (vs_if (vt_and (vt_test (VQ.e (q_op (VQ.b (q_op (VQ.b (q_var (i := 0) rfl)) (VQ.b q_int) od_ixS)) (VQ.b q_str) od_eq))) (vt_test (VQ.e (q_op (VQ.b (q_ca (vba_cons (VQ.b (q_var (i := 0) rfl)) vba_nil) cd_lenS)) (VQ.b q_int) od_b0))))
    (vs_ret (VQ.e q_non))
    vs_next)
  (vs_ret (VQ.e (q_ca (vba_cons (VQ.b (q_var (i := 0) rfl)) vba_nil) cd_intS))))))) (fun ds Qv Qx hl hs => ?_) h⟩
  obtain ⟨z, rfl, hz, q⟩ := hs
  walk_at "vs"
  refine ⟨z, rfl, hz, nameB z, rfl, ?_⟩
  unfold atomD at q
  cases hn : nameB z with
  | true =>
    rw [hn] at q
    simpa using q
  | false =>
    rw [hn] at q
    simp only [Bool.false_eq_true, if_false] at q ⊢
    refine ⟨small hz, ?_⟩
    by_cases h1 : (1 : Int) ≤ z.length
    · rw [if_pos (by simpa using h1)]
      have h1 : 1 ≤ z.length := by omega
      by_cases h2 : (z.length : Int) ≤ 9
      · rw [if_neg (by simpa using h2)]
        have h2 : z.length ≤ 9 := by omega
        refine lc_signs (fun c => !digC c) z hz (fun c A hA => ?_) ⟨_, rfl, ?_⟩
        · walk_at "vs"
          have e2 : decide (c ∈ (Str.ofString "0123456789").cps.toList) = digC c := by
            have e1 : (Str.ofString "0123456789").cps.toList = [48, 49, 50, 51, 52, 53, 54, 55, 56, 57] := by decide +kernel
            rw [e1]
            unfold digC
            rw [← Bool.decide_and]
            congr 1
            simp only [List.mem_cons, List.not_mem_nil, or_false, eq_iff_iff]
            omega
          refine ⟨c, rfl, ?_⟩
          rw [e2]
          exact hA _ rfl
        · have ea : ((z.cps.toList.map fun c => !digC c).any id) = !(z.cps.toList.all digC) := by
            rw [List.any_map, List.all_eq_not_any_not]
            simp [Function.comp_def]
          rw [ea]
          refine ite2 (fun e => ?_) (fun e => ?_)
          · have : numB z = false := by
              have e : z.cps.toList.all digC = false := by simpa using e
              simp [numB, e]
            rw [this] at q
            simpa using q
          · have e : z.cps.toList.all digC = true := by
              cases w : z.cps.toList.all digC with
              | true => rfl
              | false => rw [w] at e; simp at e
            walk_at "vs"
            obtain ⟨c, ac, hc⟩ := hd_at h1
            refine ⟨small hz, c, ac, ?_⟩
            have e0 : Str.ofString "0" = ⟨#[48]⟩ := by decide +kernel
            have es : decide ((⟨#[c]⟩ : Str) = Str.ofString "0") = decide (c = 48) := by rw [e0, sgs]
            rw [es]
            have yes : numB z = true → ∃ n, intText? z = some n ∧ z.length ≤ 640 ∧ Qv (D.int n) [none] := fun hb => by
              obtain ⟨n, g1, g2⟩ := digs_of hb
              rw [hb] at q
              unfold numV at q
              rw [g1] at q
              exact ⟨n, g1, g2, q⟩
            refine ite2 (fun e3 => ?_) (fun e3 => ?_)
            · have e3 : c = 48 := of_decide_eq_true e3
              subst e3
              refine ⟨small hz, ?_⟩
              refine ite2 (fun e4 => ?_) (fun e4 => ?_)
              · have : (1 : Int) < z.length := of_decide_eq_true e4
                have : ¬ z.length = 1 := by omega
                have : numB z = false := by simp [numB, hc, this]
                rw [this] at q
                simpa using q
              · have : ¬ (1 : Int) < z.length := fun w => e4 (decide_eq_true w)
                have : z.length = 1 := by omega
                exact yes (by simp [numB, hc, this, e])
            · have e3 : ¬ c = 48 := fun w => e3 (decide_eq_true w)
              exact yes (by simp [numB, hc, e3, e, h1, h2])
      · rw [if_pos (by simpa using h2)]
        have h2 : ¬ z.length ≤ 9 := by omega
        have : numB z = false := by simp [numB, h2]
        rw [this] at q; simpa using q
    · rw [if_neg (by simpa using h1)]
      have h1 : ¬ 1 ≤ z.length := by omega
      have : numB z = false := by simp [numB, h1]
      rw [this] at q; simpa using q
end
end K10
set_option Elab.async false
set_option linter.all false
set_option maxRecDepth 100000
set_option maxHeartbeats 4000000
namespace K10
open PySem PySem.Spec PyProof.Rows L2 L2H HotX Fb VL
local macro_rules | `(tactic| walk_at "vs") => `(tactic| simp only [vCell, vDr, vFld, vAppC, vPopC, vSetF, vCallA, vCallAX, vCallX, vMakeA, vMethA, vRaise, vTry, vXf, vChain, vTru, s_truN, s_truB, s_truI, s_truS, s_truL, s_truT, vIsi, vIsiT, vStar, vListZip, vEnum, vZipSL, vPop, vExt, vSetIx, vSetIxC, vRep, s_vgLst, vKGet, s_gMulS, s_gBoolL, s_gStrS, s_gIntS, s_gStrA1, s_gStrA2, s_seqL, s_seqT, cuD_1, ioA, Cell, s_gInK, s_gInS, s_gIn2, s_gIn3, s_gIn4, s_gIn5, ex_par, vNeg, s_gAny, vCaTd, vOp2Lv, s_callIO, s_io, s_fill0, s_fillN, s_fillS, s_putIO, s_wio0, s_wioN, s_wioS, s_give0, s_giveN, s_giveS, s_giveM, Option.map_some, s_seq, s_next, s_break, s_cont, s_set, s_ret, s_retN, s_drop, s_ifS, s_for, s_asg, s_par, s_var, s_c, s_op2, s_op2L, s_op2T, s_ca, s_caL, s_caT, s_nil, s_cons, s_tup, s_lst, s_test, s_and, s_or, s_not, s_if, s_andV, s_orV, s_notV, s_no, s_part, s_sl, s_slL, s_slT, s_ls, s_ts, s_sgs, s_rng1, s_rng2, s_gName, s_gNil, s_gCons, s_gTup, s_lc, s_yes, s_append, s_call, s_dget, s_get2, s_pNil, s_pCons, s_disp, s_m1, s_split, s_indexD, s_w1, s_w2, s_isStr, s_gI, s_gI0, s_gAddS, s_gS, s_gSg, s_gEqI, s_gEqS, s_gEqB, s_gEqNI, s_gEqIS, s_gEqSI, s_gNeI, s_gNeS, s_gIsN, s_gNotN, s_isNon0, s_isNonI, s_isNonS, s_isNonT, s_isNonL, s_gIxL, s_gIxT, s_gIxS, s_gCat, s_gCatT, s_gSlL, s_gSlT, s_gSlS, s_gLenL, s_gLenT, s_gLenS, s_gSum, s_gI2, s_gInt1, s_gInt1b, s_gStrI, s_gAll, s_gSeqL, s_gSeqT, s_gDGet, s_gGet2, s_kDs, s_kDi, s_ioN, s_ioS, s_ioL, s_ioD, s_ioO, s_nones0, s_nones1, List.map_cons, List.map_nil, List.cons_append, List.nil_append, List.append_nil, List.append_assoc, List.getElem?_cons_zero, List.getElem?_cons_succ, List.set_cons_zero, List.set_cons_succ, Option.some.injEq, exists_eq_left', exists_eq_left, D.int.injEq, D.str.injEq, D.tup.injEq, D.lst.injEq, D.bl.injEq, D.dct.injEq, and_true, true_and, List.length_cons, List.length_nil, exists_and_left, exists_eq, Bool.not_true, Bool.not_false, exists_eq', Nat.zero_le, atI_0, atI_1, atI_2, atI_3, atI_4, atI_5, s_gInD, if_true, if_false, Bool.false_eq_true, Nat.reduceAdd])
local macro_rules | `(tactic| walk_at "v1") => `(tactic| simp only [vCell, vDr, vFld, vAppC, vPopC, vSetF, vCallA, vCallAX, vCallX, vMakeA, vMethA, vRaise, vTry, vXf, vChain, vTru, s_truN, s_truB, s_truI, s_truS, s_truL, s_truT, vIsi, vIsiT, vStar, vListZip, vEnum, vZipSL, vPop, vExt, vSetIx, vSetIxC, vRep, s_vgLst, vKGet, s_gMulS, s_gBoolL, s_gStrS, s_gIntS, s_gStrA1, s_gStrA2, s_seqL, s_seqT, cuD_1, ioA, Cell, s_gInK, s_gInS, s_gIn2, s_gIn3, s_gIn4, s_gIn5, ex_par, vNeg, s_gAny, vCaTd, vOp2Lv, s_callIO, s_io, s_fill0, s_fillN, s_fillS, s_putIO, s_wio0, s_wioN, s_wioS, s_give0, s_giveN, s_giveS, s_giveM, Option.map_some, s_seq, s_next, s_break, s_cont, s_set, s_ret, s_retN, s_drop, s_for, s_asg, s_par, s_var, s_c, s_op2, s_op2L, s_op2T, s_ca, s_caL, s_caT, s_nil, s_cons, s_tup, s_lst, s_test, s_and, s_or, s_not, s_if, s_andV, s_orV, s_notV, s_no, s_part, s_sl, s_slL, s_slT, s_ls, s_ts, s_sgs, s_rng1, s_rng2, s_gName, s_gNil, s_gCons, s_gTup, s_lc, s_yes, s_append, s_call, s_dget, s_get2, s_pNil, s_pCons, s_disp, s_m1, s_split, s_indexD, s_w1, s_w2, s_isStr, s_gI, s_gI0, s_gAddS, s_gS, s_gSg, s_gEqI, s_gEqS, s_gEqB, s_gEqNI, s_gEqIS, s_gEqSI, s_gNeI, s_gNeS, s_gIsN, s_gNotN, s_isNon0, s_isNonI, s_isNonS, s_isNonT, s_isNonL, s_gIxL, s_gIxT, s_gIxS, s_gCat, s_gCatT, s_gSlL, s_gSlT, s_gSlS, s_gLenL, s_gLenT, s_gLenS, s_gSum, s_gI2, s_gInt1, s_gInt1b, s_gStrI, s_gAll, s_gSeqL, s_gSeqT, s_gDGet, s_gGet2, s_kDs, s_kDi, s_ioN, s_ioS, s_ioL, s_ioD, s_ioO, s_nones0, s_nones1, List.map_cons, List.map_nil, List.cons_append, List.nil_append, List.append_nil, List.append_assoc, List.getElem?_cons_zero, List.getElem?_cons_succ, List.set_cons_zero, List.set_cons_succ, Option.some.injEq, exists_eq_left', exists_eq_left, D.int.injEq, D.str.injEq, D.tup.injEq, D.lst.injEq, D.bl.injEq, D.dct.injEq, and_true, true_and, List.length_cons, List.length_nil, exists_and_left, exists_eq, Bool.not_true, Bool.not_false, exists_eq', Nat.zero_le, atI_0, atI_1, atI_2, atI_3, atI_4, atI_5, s_gInD, if_true, if_false, Bool.false_eq_true, Nat.reduceAdd])
section
variable {P : Program} {w : World} {K : PySem.W.Frag} {mg : Str → Option Value} {base : Heap} {a_Reading a_BindError a_NoText a_SIGNS a_MODES a_WORDS a_SHAPES a_WITH_BLOCKS : Addr}
/-! a row, as the law reads it -/
def atB (z : Str) : Bool := nameB z || numB z
def rowD (w : Str) (rest : List Str) : D := if fitsB w rest = true then startD w rest else .non
theorem name_num {z : Str} (h : nameB z = true) : numB z = false := by
  unfold nameB at h
  simp only [Bool.and_eq_true, decide_eq_true_eq, Bool.not_eq_true'] at h
  have hl := len_cps z
  cases e : z.cps.toList with
  | nil => rw [e] at hl; simp at hl; omega
  | cons c l =>
    have h2 := h.2
    rw [e] at h2
    simp only [List.all_cons, Bool.and_eq_true, lowC, decide_eq_true_eq] at h2
    have : digC c = false := by
      unfold digC
      have : ¬ c ≤ 57 := by omega
      simp [this]
    unfold numB
    rw [e]
    simp [this]
theorem part_name {z : Str} (h : nameB z = true) : partD z = .str z := by simp [partD, name_num h]
theorem part_at {z : Str} (h : atB z = true) : partD z = atomD z := by
  unfold atB at h
  unfold partD atomD
  cases hn : nameB z with
  | true => simp [name_num hn]
  | false =>
    rw [hn] at h
    have h : numB z = true := by simpa using h
    simp [h]
theorem atom_non {z : Str} : VL.isNon (atomD z) = !atB z := by
  unfold atomD atB
  cases hn : nameB z <;> cases hm : numB z <;> simp [VL.isNon]
theorem atom_eq {z : Str} : (atomD z = .non) ↔ atB z = false := by
  unfold atomD atB
  cases hn : nameB z <;> cases hm : numB z <;> simp
theorem isOf_x (z : Str) : isOf 120 z = nameB z := by simp [isOf]
theorem isOf_a (z : Str) : isOf 97 z = atB z := by simp [isOf, atB]
theorem isOf_s (z : Str) : isOf 115 z = decide (z ∈ (["+", "-", "*", "<", "="] : List Str)) := by simp [isOf]
theorem isOf_m (z : Str) : isOf 109 z = decide (z ∈ (["own", "one"] : List Str)) := by simp [isOf]
theorem kw1 : ¬ (Str.ofString "times" = Str.ofString "fn") ∧ ¬ (Str.ofString "times" = Str.ofString "call") ∧ ¬ (Str.ofString "times" = Str.ofString "let") ∧ ¬ (Str.ofString "times" = Str.ofString "set") ∧ ¬ (Str.ofString "times" = Str.ofString "tell") ∧ ¬ (Str.ofString "times" = Str.ofString "give") ∧ ¬ (Str.ofString "times" = Str.ofString "if") ∧ ¬ (Str.ofString "times" = Str.ofString "while") := by decide +kernel
theorem kw2 : ¬ (Str.ofString "let" = Str.ofString "fn") ∧ ¬ (Str.ofString "let" = Str.ofString "call") ∧ ¬ (Str.ofString "let" = Str.ofString "times") := by decide +kernel
theorem kw3 : ¬ (Str.ofString "set" = Str.ofString "fn") ∧ ¬ (Str.ofString "set" = Str.ofString "call") ∧ ¬ (Str.ofString "set" = Str.ofString "let") := by decide +kernel
theorem kw4 : ¬ (Str.ofString "call" = Str.ofString "fn") ∧ ¬ (Str.ofString "call" = Str.ofString "let") ∧ ¬ (Str.ofString "fn" = Str.ofString "let") := by decide +kernel
def one4 (w : Str) : Prop := w = "tell" ∨ w = "give" ∨ w = "if" ∨ w = "while"
theorem kw5 {w : Str} (h : one4 w) : ¬ (w = Str.ofString "fn") ∧ ¬ (w = Str.ofString "call") ∧ ¬ (w = Str.ofString "let") ∧ ¬ (w = Str.ofString "set") := by
  rcases h with rfl | rfl | rfl | rfl <;> decide +kernel
theorem shp_times (n : Nat) : shp "times" n = some [109, 120, 97] := by
  obtain ⟨h1, h2, h3, h4, h5, h6, h7, h8⟩ := kw1
  simp [shp, h1, h2, h3, h4, h5, h6, h7, h8]
theorem shp_let (n : Nat) : shp "let" n = if n = 4 then some [120, 97, 115, 97] else some [120, 97] := by
  obtain ⟨h1, h2, h3⟩ := kw2
  simp [shp, h1, h2]
theorem shp_set (n : Nat) : shp "set" n = some [120, 97] := by
  obtain ⟨h1, h2, h3⟩ := kw3
  simp [shp, h1, h2, h3]
theorem shp_fn (n : Nat) : shp "fn" n = some (120 :: List.replicate (n - 1) 120) := by simp [shp]
theorem shp_call (n : Nat) : shp "call" n = some (120 :: 120 :: List.replicate (n - 2) 97) := by
  obtain ⟨h1, h2, h3⟩ := kw4
  simp [shp, h1]
theorem shp_one {w : Str} (h : one4 w) (n : Nat) : shp w n = some [97] := by
  obtain ⟨h1, h2, h3, h4⟩ := kw5 h
  rcases h with rfl | rfl | rfl | rfl <;> simp [shp, h1, h2, h3, h4]
theorem shp_no {w : Str} (h1 : ¬ w = "times") (h2 : ¬ w = "let") (h3 : ¬ w = "set") (h4 : ¬ w = "fn") (h5 : ¬ w = "call") (h6 : ¬ one4 w) (n : Nat) : shp w n = none := by
  simp only [one4, not_or] at h6
  simp [shp, h1, h2, h3, h4, h5, h6]
theorem fits_sh {w : Str} {rest : List Str} {l : List Nat} (h : shp w rest.length = some l) : fitsB w rest = (decide (l.length = rest.length) && (List.zipWith isOf l rest).all id) := by
  unfold fitsB
  rw [h]
theorem zip_rep {c : Nat} : ∀ (r : List Str), (List.zipWith isOf (List.replicate r.length c) r).all id = r.all (isOf c)
  | [] => rfl
  | z :: r => by
    rw [List.length_cons, List.replicate_succ, List.zipWith_cons_cons, List.all_cons, List.all_cons, zip_rep r]
    rfl
theorem fits_fn (x : Str) (r : List Str) : fitsB "fn" (x :: r) = (x :: r).all nameB := by
  rw [fits_sh (shp_fn _)]
  have e : (x :: r).length - 1 = r.length := by simp
  rw [e, List.zipWith_cons_cons, List.all_cons, zip_rep, isOf_x]
  have e2 : isOf 120 = nameB := funext isOf_x
  rw [e2]
  simp
theorem fits_call (x f : Str) (r : List Str) : fitsB "call" (x :: f :: r) = (nameB x && nameB f && r.all atB) := by
  rw [fits_sh (shp_call _)]
  have e : (x :: f :: r).length - 2 = r.length := by simp
  rw [e, List.zipWith_cons_cons, List.zipWith_cons_cons, List.all_cons, List.all_cons, zip_rep, isOf_x, isOf_x]
  have e2 : isOf 97 = atB := funext isOf_a
  rw [e2]
  simp [Bool.and_assoc]
def vpInRow : VSp := fun ds Q _ => ∃ z w rest, ds = [.str z] ∧ z.length ≤ 90000 ∧ Txt.split z " " = w :: rest ∧ okWs w rest ∧ Q (rowD w rest) [none]
theorem at_map {f : Str → D} {l : List Str} {i : Nat} {z : Str} (h : l[i]? = some z) : atI (l.map f) (i : Int) = some (f z) := by
  rw [atI_n, List.getElem?_map, h]
  rfl
def tmB : List Str → Bool
  | [m, x, _] => decide (m ∈ (["own", "one"] : List Str)) && nameB x
  | _ => false
def leB : List Str → Bool
  | [_, _, s, _] => decide (s ∈ (["+", "-", "*", "<", "="] : List Str))
  | _ => false
theorem eqv_nil (l : List Str) : PyData.eqv (py (.lst (l.map D.str))) (py (.lst [])) = l.isEmpty := by
  cases l with
  | nil => simp [py, pys, PyData.eqv, PyData.eqvAll]
  | cons z r => simp [py, pys, PyData.eqv, PyData.eqvAll]
theorem plain_strs : ∀ l : List Str, plains (l.map D.str) = true
  | [] => by simp [plains]
  | z :: r => by simp [plains, VL.plain, plain_strs r]
theorem in_non (l : List Str) : inV (scV .non) ((l.map atomD).map scV) = l.any (fun z => !atB z) := by
  induction l with
  | nil => rfl
  | cons z r ih =>
    unfold inV at ih ⊢
    rw [List.map_cons, List.map_cons, List.any_cons, List.any_cons, ih]
    congr 1
    unfold atomD atB
    cases hn : nameB z <;> cases hm : numB z <;> simp [scV, eqV]
theorem atom_sc (l : List Str) : (l.map atomD).all isSc = true := by
  rw [List.all_eq_true]
  intro d hd
  obtain ⟨z, _, rfl⟩ := List.mem_map.mp hd
  unfold atomD
  cases hn : nameB z <;> cases hm : numB z <;> simp [isSc]
theorem nt {b : Bool} (h : (!b) = true) : b = false := by cases b <;> simp_all
theorem lay_strs : ∀ l : List Str, (∀ z ∈ l, PyData.strOk z = true) → PyData.canLayAll0 (pys (l.map D.str)) = true
  | [], _ => by simp [pys, PyData.canLayAll0]
  | z :: r, h => by simp [pys, py, PyData.canLayAll0, PyData.canLay0, lay_strs r (fun z hz => h z (List.mem_cons_of_mem _ hz)), h z List.mem_cons_self]
theorem dep_strs : ∀ l : List Str, PyData.depthAll (pys (l.map D.str)) ≤ 1
  | [] => by simp [pys, PyData.depthAll]
  | z :: r => by
    have := dep_strs r
    simp only [List.map_cons, pys, py, PyData.depthAll, PyData.depth]
    omega
theorem shaped_strs (l : List Str) (h : ∀ z ∈ l, PyData.strOk z = true) : SeqAt.shaped (py (.lst (l.map D.str))) = true := by
  have h1 := dep_strs l
  have h2 : PyData.depth (py (.lst (l.map D.str))) ≤ 64 := by simp only [py, PyData.depth]; omega
  show (PyData.canLay0 _ && decide _) = true
  rw [Bool.and_eq_true]
  exact ⟨by simp only [py, PyData.canLay0]; exact lay_strs l h, decide_eq_true h2⟩
theorem fits_cases {w : Str} {rest : List Str} (h : fitsB w rest = true) : (w = "times" ∧ tmB rest = true) ∨ (w = "let" ∧ leB rest = true) ∨ (one4 w ∧ ∃ a, rest = [a] ∧ atB a = true) ∨ ((w = "let" ∨ w = "set") ∧ ∃ x a, rest = [x, a] ∧ nameB x = true ∧ atB a = true) ∨ (w = "call" ∧ ∃ x f r, rest = x :: f :: r ∧ nameB x = true ∧ nameB f = true ∧ r.all atB = true) ∨ (w = "fn" ∧ ∃ x r, rest = x :: r ∧ (x :: r).all nameB = true) := by
  have l2 : ∀ {l : List Str}, l.length = 2 → ∃ x a, l = [x, a] := fun {l} h => by
    match l, h with
    | [x, a], _ => exact ⟨x, a, rfl⟩
  by_cases h1 : w = "times"
  · subst h1
    rw [fits_sh (shp_times _)] at h
    simp only [Bool.and_eq_true, decide_eq_true_eq] at h
    match rest, h.1 with
    | [m, x, a], _ =>
      have := h.2
      simp only [List.zipWith_cons_cons, List.zipWith_nil_left, List.all_cons, isOf_m, isOf_x, isOf_a, id, Bool.and_eq_true] at this
      exact .inl ⟨rfl, by simp only [tmB, Bool.and_eq_true]; exact ⟨this.1, this.2.1⟩⟩
  by_cases h2 : w = "let"
  · subst h2
    by_cases h4 : rest.length = 4
    · rw [fits_sh (l := [120, 97, 115, 97]) (by rw [shp_let, if_pos h4])] at h
      simp only [Bool.and_eq_true, decide_eq_true_eq] at h
      match rest, h4 with
      | [x, a, s, b], _ =>
        have := h.2
        simp only [List.zipWith_cons_cons, List.zipWith_nil_left, List.all_cons, isOf_s, isOf_x, isOf_a, id, Bool.and_eq_true] at this
        exact .inr (.inl ⟨rfl, this.2.2.1⟩)
    · rw [fits_sh (l := [120, 97]) (by rw [shp_let, if_neg h4])] at h
      simp only [Bool.and_eq_true, decide_eq_true_eq] at h
      obtain ⟨x, a, rfl⟩ := l2 h.1.symm
      have := h.2
      simp only [List.zipWith_cons_cons, List.zipWith_nil_left, List.all_cons, isOf_x, isOf_a, id, Bool.and_eq_true] at this
      exact .inr (.inr (.inr (.inl ⟨.inl rfl, x, a, rfl, this.1, this.2.1⟩)))
  by_cases h3 : w = "set"
  · subst h3
    rw [fits_sh (shp_set _)] at h
    simp only [Bool.and_eq_true, decide_eq_true_eq] at h
    obtain ⟨x, a, rfl⟩ := l2 h.1.symm
    have := h.2
    simp only [List.zipWith_cons_cons, List.zipWith_nil_left, List.all_cons, isOf_x, isOf_a, id, Bool.and_eq_true] at this
    exact .inr (.inr (.inr (.inl ⟨.inr rfl, x, a, rfl, this.1, this.2.1⟩)))
  by_cases h4 : w = "fn"
  · subst h4
    have hl := (fits_len h).1 rfl
    match rest, hl with
    | x :: r, _ =>
      rw [fits_fn] at h
      exact .inr (.inr (.inr (.inr (.inr ⟨rfl, x, r, rfl, h⟩))))
  by_cases h5 : w = "call"
  · subst h5
    have hl := (fits_len h).2 rfl
    match rest, hl with
    | x :: f :: r, _ =>
      rw [fits_call] at h
      simp only [Bool.and_eq_true] at h
      exact .inr (.inr (.inr (.inr (.inl ⟨rfl, x, f, r, rfl, h.1.1, h.1.2, h.2⟩))))
  by_cases h6 : one4 w
  · rw [fits_sh (shp_one h6 _)] at h
    simp only [Bool.and_eq_true, decide_eq_true_eq] at h
    match rest, h.1 with
    | [a], _ =>
      have := h.2
      simp only [List.zipWith_cons_cons, List.zipWith_nil_left, List.all_cons, isOf_a, id, Bool.and_eq_true] at this
      exact .inr (.inr (.inl ⟨h6, a, rfl, this.1⟩))
  · unfold fitsB at h
    rw [shp_no h1 h2 h3 h4 h5 h6] at h
    cases h
theorem name_at {z : Str} (h : nameB z = true) : atB z = true := by simp [atB, h]
theorem fits_no {w : Str} {rest : List Str} (hb : (decide (w = "times") && tmB rest) = false) (hb2 : (decide (w = "let") && leB rest) = false) (h : ¬ ((one4 w ∧ ∃ a, rest = [a] ∧ atB a = true) ∨ ((w = "let" ∨ w = "set") ∧ ∃ x a, rest = [x, a] ∧ nameB x = true ∧ atB a = true) ∨ (w = "call" ∧ ∃ x f r, rest = x :: f :: r ∧ nameB x = true ∧ nameB f = true ∧ r.all atB = true) ∨ (w = "fn" ∧ ∃ x r, rest = x :: r ∧ (x :: r).all nameB = true))) : fitsB w rest = false := by
  cases hf : fitsB w rest with
  | false => rfl
  | true =>
    rcases fits_cases hf with ⟨h1, h2⟩ | ⟨h1, h2⟩ | h1
    · rw [h1, h2] at hb; simp at hb
    · rw [h1, h2] at hb2; simp at hb2
    · exact absurd h1 h
theorem dl1 (r : List Str) : decide ((((r.map D.str).length + 1 : Nat) : Int) = 1) = decide (r = []) := by
  cases r <;> simp
  omega
theorem dl2 (r : List Str) : decide ((((r.map D.str).length + 1 : Nat) : Int) = 2) = decide (r.length = 1) := by
  rw [List.length_map]
  congr 1
  simp only [eq_iff_iff]
  omega
def hdB : List Str → Bool
  | f :: _ => nameB f
  | [] => false
theorem one4_in {w : Str} : (w ∈ (["tell", "give", "if", "while"] : List Str)) ↔ one4 w := by simp [one4]
theorem map_part {l : List Str} (h : l.all atB = true) : l.map partD = l.map atomD := List.map_congr_left fun z hz => part_at (List.all_eq_true.mp h z hz)
theorem map_name {l : List Str} (h : l.all nameB = true) : l.map partD = l.map D.str := List.map_congr_left fun z hz => part_name (List.all_eq_true.mp h z hz)
theorem isN_1 {X : D} {b : Bool} : atI [X, D.non] (if b = true then 1 else 0) = some (if b = true then .non else X) := by
  cases b <;> simp
theorem sc__law_in_row : FnScope ["_law_row", "_law_words_here", "_law_word", "_law_rest", "_law_atoms", "_law_one"] ["_law_row"] (defScope s__law_in_row) := ⟨rfl, rfl, rfl, by decide +kernel, rfl, by decide +kernel, by decide +kernel⟩
theorem ok__law_in_row (T : Top K w mg a_Reading a_BindError a_NoText a_SIGNS a_MODES a_WORDS a_SHAPES a_WITH_BLOCKS) : C8.Cal P w K mg base 3 "_law_in_row" (spOf K [.s] .s (vpInRow)) [] := by
  have C_law_atom_in := ok__law_atom_in (P := P) (w := w) (base := base) T
  have C_law_is_name := ok__law_is_name (P := P) (w := w) (base := base) T
  obtain ⟨f, fd, F, gm⟩ := T.h__law_in_row
  refine ⟨f, fd, ["_law_row"], [], ?_, gm, F.kp, F.binds (fun _ _ _ _ _ _ us hl => match us, hl with | [_], _ => rfl), .nil⟩
  refine F.ok sc__law_in_row (fun vs H Q E h => h.len) (fun cdv A outer s H vs Q E hr h => ?_)
  have hu := hu_of hr
  have hu64 : (A.deeper (envOfC "_law_in_row" (defScope s__law_in_row) s.heap.objs.size f cdv)).units + 64 < cLine := by have := hr.un; omega
  have hu65 : (A.deeper (envOfC "_law_in_row" (defScope s__law_in_row) s.heap.objs.size f cdv)).units + 65 < cLine := by have := hr.un; omega
  refine ⟨_, (pss_cons (ps_set (i := 1) sc__law_in_row.nd rfl (Or.inl rfl) (pe_split (pv 0) pe_str))
  (pss_cons (ps_par (by rfl) sc__law_in_row.nd (i := 2) (j := 3) rfl rfl (by decide) rfl rfl (pa_cons (pe_ix (VL.ixL K rfl) (pv 1) pe_int (fun _ _ => rfl)) (pa_cons (pe_slice (VL.slL K rfl) (pv 1) (po_some pe_int) po_none) pa_nil)) (by rfl))
  (pss_cons (ps_setLc (i := 4) (own := [("_law_one", 5)]) rfl sc__law_in_row.nd rfl rfl (sw_true rfl rfl rfl (by decide +kernel)) (VL.piLK K rfl (pv 3)) (blkOk_by (own := [("_law_one", 5)]) (N := ["_law_row", "_law_words_here", "_law_word", "_law_rest", "_law_atoms", "_law_one"]) (sc := defScope s__law_in_row) (by decide +kernel)) (fun _ _ _ _ _ => (pg_name (i := 5) sc__law_in_row.nd rfl (Or.inl rfl))) (fun _ _ _ _ _ => pts_nil) (fun _ _ _ _ _ => (C8.pe_c C_law_atom_in hr (by omega) rfl (pa_cons (pv 5) pa_nil))))
  (pss_cons (ps_if (PW.pt (pw_and (pt_cmpR op_eq (pv 2) pe_str (nomark _)) (pw_and (pt_cmpR op_eq (pe_callB (VL.lenK K rfl) (by rfl) T.n_len (by decide +kernel) (pa_cons (pv 3) pa_nil)) pe_int (nomark _)) (pw_and (pt_cmpR (VL.inK K rfl) (pe_ix (VL.ixL K rfl) (pv 3) pe_int (fun _ _ => rfl)) (pe_tup (pa_cons pe_str (pa_cons pe_str pa_nil))) (by rfl)) (pw_and1 (pt_val (C8.pe_c C_law_is_name hr (by omega) rfl (pa_cons (pe_ix (VL.ixL K rfl) (pv 3) pe_int (fun _ _ => rfl)) pa_nil))))))))
    (pss_one (ps_ret (pe_ix (VL.ixL K rfl) (pe_lst (pa_cons (pe_tup (pa_cons (pv 2) (pa_cons (pe_ix (VL.ixL K rfl) (pv 3) pe_int (fun _ _ => rfl)) (pa_cons (pe_ix (VL.ixL K rfl) (pv 3) pe_int (fun _ _ => rfl)) (pa_cons (pe_ix (VL.ixL K rfl) (pv 4) pe_int (fun _ _ => rfl)) pa_nil))))) (pa_cons pe_non pa_nil))) (pe_callTy call_int1 (by rfl) T.n_int (by decide +kernel) (pa_cons (pe_cmpR op_isN (pe_ix (VL.ixL K rfl) (pv 4) pe_int (fun _ _ => rfl)) pe_non (nomark _)) pa_nil)) (fun _ _ => rfl))))
    pss_nil)
  (pss_cons (ps_if (PW.pt (pw_and (pt_cmpR op_eq (pv 2) pe_str (nomark _)) (pw_and (pt_cmpR op_eq (pe_callB (VL.lenK K rfl) (by rfl) T.n_len (by decide +kernel) (pa_cons (pv 3) pa_nil)) pe_int (nomark _)) (pw_and1 (pt_cmpR (VL.inK K rfl) (pe_ix (VL.ixL K rfl) (pv 3) pe_int (fun _ _ => rfl)) (pe_tup (pa_cons pe_str (pa_cons pe_str (pa_cons pe_str (pa_cons pe_str (pa_cons pe_str pa_nil)))))) (by rfl))))))
    (pss_cons (ps_if (PW.pt (pw_or (pt_not (pt_val (C8.pe_c C_law_is_name hr (by omega) rfl (pa_cons (pe_ix (VL.ixL K rfl) (pv 3) pe_int (fun _ _ => rfl)) pa_nil)))) (pw_or (pt_cmpR op_isN (pe_ix (VL.ixL K rfl) (pv 4) pe_int (fun _ _ => rfl)) pe_non (nomark _)) (pw_or1 (pt_cmpR op_isN (pe_ix (VL.ixL K rfl) (pv 4) pe_int (fun _ _ => rfl)) pe_non (nomark _))))))
    (pss_one (ps_ret pe_non))
    pss_nil)
  (pss_one (ps_ret (pe_tup (pa_cons pe_str (pa_cons (pe_ix (VL.ixL K rfl) (pv 3) pe_int (fun _ _ => rfl)) (pa_cons (pe_ix (VL.ixL K rfl) (pv 3) pe_int (fun _ _ => rfl)) (pa_cons (pe_ix (VL.ixL K rfl) (pv 4) pe_int (fun _ _ => rfl)) (pa_cons (pe_ix (VL.ixL K rfl) (pv 4) pe_int (fun _ _ => rfl)) pa_nil)))))))))
    pss_nil)
  (pss_cons (ps_if (PW.pt (pw_or (pt_cmpR (VL.eqDK K rfl hu64) (pv 3) (pe_lst pa_nil) (nomark _)) (pw_or1 (pt_cmpR (VL.inK K rfl) pe_non (pv 4) (by rfl)))))
    (pss_one (ps_ret pe_non))
    pss_nil)
  (pss_cons (ps_if (PW.pt (pw_and (pt_cmpR (VL.inK K rfl) (pv 2) (pe_tup (pa_cons pe_str (pa_cons pe_str (pa_cons pe_str (pa_cons pe_str pa_nil))))) (by rfl)) (pw_and1 (pt_cmpR op_eq (pe_callB (VL.lenK K rfl) (by rfl) T.n_len (by decide +kernel) (pa_cons (pv 3) pa_nil)) pe_int (nomark _)))))
    (pss_one (ps_ret (pe_tup (pa_cons (pv 2) (pa_cons (pe_ix (VL.ixL K rfl) (pv 4) pe_int (fun _ _ => rfl)) pa_nil)))))
    pss_nil)
  (pss_cons (ps_if (pt_not (pt_val (C8.pe_c C_law_is_name hr (by omega) rfl (pa_cons (pe_ix (VL.ixL K rfl) (pv 3) pe_int (fun _ _ => rfl)) pa_nil))))
    (pss_one (ps_ret pe_non))
    pss_nil)
  (pss_cons (ps_if (PW.pt (pw_and (pt_cmpR (VL.inK K rfl) (pv 2) (pe_tup (pa_cons pe_str (pa_cons pe_str pa_nil))) (by rfl)) (pw_and1 (pt_cmpR op_eq (pe_callB (VL.lenK K rfl) (by rfl) T.n_len (by decide +kernel) (pa_cons (pv 3) pa_nil)) pe_int (nomark _)))))
    (pss_one (ps_ret (pe_tup (pa_cons (pv 2) (pa_cons (pe_ix (VL.ixL K rfl) (pv 3) pe_int (fun _ _ => rfl)) (pa_cons (pe_ix (VL.ixL K rfl) (pv 4) pe_int (fun _ _ => rfl)) pa_nil))))))
    pss_nil)
  (pss_cons (ps_if (PW.pt (pw_and (pt_cmpR op_eq (pv 2) pe_str (nomark _)) (pw_and (pt_cmpR op_gt (pe_callB (VL.lenK K rfl) (by rfl) T.n_len (by decide +kernel) (pa_cons (pv 3) pa_nil)) pe_int (nomark _)) (pw_and1 (pt_val (C8.pe_c C_law_is_name hr (by omega) rfl (pa_cons (pe_ix (VL.ixL K rfl) (pv 3) pe_int (fun _ _ => rfl)) pa_nil)))))))
    (pss_one (ps_ret (pe_tup (pa_cons (pv 2) (pa_cons (pe_ix (VL.ixL K rfl) (pv 3) pe_int (fun _ _ => rfl)) (pa_cons (pe_ix (VL.ixL K rfl) (pv 3) pe_int (fun _ _ => rfl)) (pa_cons (pe_callTy (VL.tupleK K rfl) (by rfl) T.n_tuple (by decide +kernel) (pa_cons (pe_slice (VL.slL K rfl) (pv 4) (po_some pe_int) po_none) pa_nil)) pa_nil)))))))
    pss_nil)
  (pss_cons (ps_if (PW.pt (pw_and (pt_cmpR op_eq (pv 2) pe_str (nomark _)) (pw_and1 (pt_val (pe_callB (VL.allK K rfl rfl) (by rfl) T.n_all (by decide +kernel) (pa_cons (pe_lc (own := [("_law_one", 5)]) rfl sc__law_in_row.nd (VL.piLK K rfl (pv 3)) (blkOk_by (own := [("_law_one", 5)]) (N := ["_law_row", "_law_words_here", "_law_word", "_law_rest", "_law_atoms", "_law_one"]) (sc := defScope s__law_in_row) (by decide +kernel)) (fun _ _ _ _ _ => (pg_name (i := 5) sc__law_in_row.nd rfl (Or.inl rfl))) (fun _ _ _ _ _ => pts_nil) (fun _ _ _ _ _ => (C8.pe_c C_law_is_name hr (by omega) rfl (pa_cons (pv 5) pa_nil)))) pa_nil))))))
    (pss_one (ps_ret (pe_tup (pa_cons (pv 2) (pa_cons (pe_ix (VL.ixL K rfl) (pv 3) pe_int (fun _ _ => rfl)) (pa_cons (pe_callTy (VL.tupleK K rfl) (by rfl) T.n_tuple (by decide +kernel) (pa_cons (pe_slice (VL.slL K rfl) (pv 3) (po_some pe_int) po_none) pa_nil)) pa_nil))))))
    pss_nil)
  (pss_one (ps_ret pe_non))))))))))))), fn_run0 (pM := [.s]) (M2 := [.s, .s, .s, .s, .s]) rfl (fun H0 io av rt hrt => (vs_seq (vs_set (i := 1) (VE.s (v_split (VQ.e (q_var (i := 0) rfl)) (VQ.e q_str))) rfl (hrt 1 (by decide)))
  (vs_seq (vs_par (i := 2) (j := 3) (va_cons (VQ.e (q_op (VQ.b (q_var (i := 1) rfl)) (VQ.b q_int) od_ixL)) (va_cons (VE.s (v_slL (VQ.e (q_var (i := 1) rfl)) (vo_some (VQ.e q_int)) vo_none ol_sl)) va_nil)) rfl rfl (hrt 2 (by decide)) (hrt 3 (by decide)))
  (vs_seq (vs_set (i := 4) (VE.s (v_lc (vs := [5]) (vi_list (VQ.e (q_var (i := 3) rfl))) (vg_name (i := 5) rfl (hrt 5 (by decide))) vt_yes (v_call (va_cons (VQ.e (q_var (i := 5) rfl)) va_nil) (by simp)) (by decide) (fun i hi => hrt i (by revert i; decide)))) rfl (hrt 4 (by decide)))
  (vs_seq (vs_if (vt_and (vt_test (VQ.e (q_op (VQ.b (q_var (i := 2) rfl)) (VQ.b q_str) od_eq))) (vt_and (vt_test (VQ.e (q_op (VQ.b (q_ca (vba_cons (VQ.b (q_var (i := 3) rfl)) vba_nil) cd_len)) (VQ.b q_int) od_eq))) (vt_and (vt_test (v_op (VQ.e (q_op (VQ.b (q_var (i := 3) rfl)) (VQ.b q_int) od_ixL)) (v_tup (va_cons (VQ.e q_str) (va_cons (VQ.e q_str) va_nil))) od_in)) (vt_b (v_call (va_cons (VQ.e (q_op (VQ.b (q_var (i := 3) rfl)) (VQ.b q_int) od_ixL)) va_nil) (by simp))))))
    (vs_ret (v_op (VE.s (v_lst (va_cons (v_tup (va_cons (VQ.e (q_var (i := 2) rfl)) (va_cons (VQ.e (q_op (VQ.b (q_var (i := 3) rfl)) (VQ.b q_int) od_ixL)) (va_cons (VQ.e (q_op (VQ.b (q_var (i := 3) rfl)) (VQ.b q_int) od_ixL)) (va_cons (VQ.e (q_op (VQ.b (q_var (i := 4) rfl)) (VQ.b q_int) od_ixL)) va_nil))))) (va_cons (VQ.e q_non) va_nil)))) (VQ.e (q_ca (vba_cons (VQ.b (q_op (VQ.b (q_op (VQ.b (q_var (i := 4) rfl)) (VQ.b q_int) od_ixL)) (VQ.b q_non) od_isN)) vba_nil) cd_int1)) od_ixL))
    vs_next)
  (vs_seq (vs_if (vt_and (vt_test (VQ.e (q_op (VQ.b (q_var (i := 2) rfl)) (VQ.b q_str) od_eq))) (vt_and (vt_test (VQ.e (q_op (VQ.b (q_ca (vba_cons (VQ.b (q_var (i := 3) rfl)) vba_nil) cd_len)) (VQ.b q_int) od_eq))) (vt_test (v_op (VQ.e (q_op (VQ.b (q_var (i := 3) rfl)) (VQ.b q_int) od_ixL)) (v_tup (va_cons (VQ.e q_str) (va_cons (VQ.e q_str) (va_cons (VQ.e q_str) (va_cons (VQ.e q_str) (va_cons (VQ.e q_str) va_nil)))))) od_in))))
    (vs_seq (vs_if (vt_or (vt_not (vt_b (v_call (va_cons (VQ.e (q_op (VQ.b (q_var (i := 3) rfl)) (VQ.b q_int) od_ixL)) va_nil) (by simp)))) (vt_or (vt_test (VQ.e (q_op (VQ.b (q_op (VQ.b (q_var (i := 4) rfl)) (VQ.b q_int) od_ixL)) (VQ.b q_non) od_isN))) (vt_test (VQ.e (q_op (VQ.b (q_op (VQ.b (q_var (i := 4) rfl)) (VQ.b q_int) od_ixL)) (VQ.b q_non) od_isN)))))
    (vs_ret (VQ.e q_non))
    vs_next)
  (vs_ret (v_tup (va_cons (VQ.e q_str) (va_cons (VQ.e (q_op (VQ.b (q_var (i := 3) rfl)) (VQ.b q_int) od_ixL)) (va_cons (VQ.e (q_op (VQ.b (q_var (i := 3) rfl)) (VQ.b q_int) od_ixL)) (va_cons (VQ.e (q_op (VQ.b (q_var (i := 4) rfl)) (VQ.b q_int) od_ixL)) (va_cons (VQ.e (q_op (VQ.b (q_var (i := 4) rfl)) (VQ.b q_int) od_ixL)) va_nil))))))))
    vs_next)
  (vs_seq (vs_if (vt_or (vt_test (v_op (VQ.e (q_var (i := 3) rfl)) (VE.s (v_lst va_nil)) od_eqD)) (vt_test (VQ.e (q_op (VQ.b q_non) (VQ.b (q_var (i := 4) rfl)) od_in))))
    (vs_ret (VQ.e q_non))
    vs_next)
  (vs_seq (vs_if (vt_and (vt_test (v_op (VQ.e (q_var (i := 2) rfl)) (v_tup (va_cons (VQ.e q_str) (va_cons (VQ.e q_str) (va_cons (VQ.e q_str) (va_cons (VQ.e q_str) va_nil))))) od_in)) (vt_test (VQ.e (q_op (VQ.b (q_ca (vba_cons (VQ.b (q_var (i := 3) rfl)) vba_nil) cd_len)) (VQ.b q_int) od_eq))))
    (vs_ret (v_tup (va_cons (VQ.e (q_var (i := 2) rfl)) (va_cons (VQ.e (q_op (VQ.b (q_var (i := 4) rfl)) (VQ.b q_int) od_ixL)) va_nil))))
    vs_next)
  (vs_seq (vs_if (vt_not (vt_b (v_call (va_cons (VQ.e (q_op (VQ.b (q_var (i := 3) rfl)) (VQ.b q_int) od_ixL)) va_nil) (by simp))))
    (vs_ret (VQ.e q_non))
    vs_next)
  (vs_seq (vs_if (vt_and (vt_test (v_op (VQ.e (q_var (i := 2) rfl)) (v_tup (va_cons (VQ.e q_str) (va_cons (VQ.e q_str) va_nil))) od_in)) (vt_test (VQ.e (q_op (VQ.b (q_ca (vba_cons (VQ.b (q_var (i := 3) rfl)) vba_nil) cd_len)) (VQ.b q_int) od_eq))))
    (vs_ret (v_tup (va_cons (VQ.e (q_var (i := 2) rfl)) (va_cons (VQ.e (q_op (VQ.b (q_var (i := 3) rfl)) (VQ.b q_int) od_ixL)) (va_cons (VQ.e (q_op (VQ.b (q_var (i := 4) rfl)) (VQ.b q_int) od_ixL)) va_nil)))))
    vs_next)
  (vs_seq (vs_if (vt_and (vt_test (VQ.e (q_op (VQ.b (q_var (i := 2) rfl)) (VQ.b q_str) od_eq))) (vt_and (vt_test (VQ.e (q_op (VQ.b (q_ca (vba_cons (VQ.b (q_var (i := 3) rfl)) vba_nil) cd_len)) (VQ.b q_int) od_b0))) (vt_b (v_call (va_cons (VQ.e (q_op (VQ.b (q_var (i := 3) rfl)) (VQ.b q_int) od_ixL)) va_nil) (by simp)))))
    (vs_ret (v_tup (va_cons (VQ.e (q_var (i := 2) rfl)) (va_cons (VQ.e (q_op (VQ.b (q_var (i := 3) rfl)) (VQ.b q_int) od_ixL)) (va_cons (VQ.e (q_op (VQ.b (q_var (i := 3) rfl)) (VQ.b q_int) od_ixL)) (va_cons (v_caT (va_cons (VE.s (v_slL (VQ.e (q_var (i := 4) rfl)) (vo_some (VQ.e q_int)) vo_none ol_sl)) va_nil) ct_tuple) va_nil))))))
    vs_next)
  (vs_seq (vs_if (vt_and (vt_test (VQ.e (q_op (VQ.b (q_var (i := 2) rfl)) (VQ.b q_str) od_eq))) (vt_b (v_ca (va_cons (VE.s (v_lc (vs := [5]) (vi_list (VQ.e (q_var (i := 3) rfl))) (vg_name (i := 5) rfl (hrt 5 (by decide))) vt_yes (v_call (va_cons (VQ.e (q_var (i := 5) rfl)) va_nil) (by simp)) (by decide) (fun i hi => hrt i (by revert i; decide)))) va_nil) cd_all)))
    (vs_ret (v_tup (va_cons (VQ.e (q_var (i := 2) rfl)) (va_cons (VQ.e (q_op (VQ.b (q_var (i := 3) rfl)) (VQ.b q_int) od_ixL)) (va_cons (v_caT (va_cons (VE.s (v_slL (VQ.e (q_var (i := 3) rfl)) (vo_some (VQ.e q_int)) vo_none ol_sl)) va_nil) ct_tuple) va_nil)))))
    vs_next)
  (vs_ret (VQ.e q_non)))))))))))))) (fun ds Qv Qx hl hs => ?_) h⟩
  obtain ⟨z, w, rest, rfl, hz, hsp, hok, q⟩ := hs
  walk_at "v1"
  rw [hsp]
  refine ⟨by decide +kernel, small (by omega), ?_⟩
  walk_at "v1"
  have h5 := hok.1
  have hz5 : ∀ z ∈ rest, z.length ≤ 100000 := fun z hz => (hok.2 z (List.mem_cons_of_mem _ hz)).1
  have no : fitsB w rest = false → Qv .non [none] := fun h => by
    unfold rowD at q
    rw [h] at q
    simpa using q
  have yes : ∀ X, fitsB w rest = true → startD w rest = X → Qv X [none] := fun X h e => by
    unfold rowD at q
    rw [h, if_pos rfl, e] at q
    exact q
  refine lc_mapF D.str atomD rest [] (small (by simp; omega)) (fun z hz A B hA => ?_) ?_
  · walk_at "vs"
    exact ⟨z, rfl, hz5 z hz, hA _ rfl⟩
  walk_at "v1"
  refine guard (decide (w = "times") && tmB rest) (fun QB hQ => ?_) (fun hb => ?_) (fun hb => ?_)
  · walk_at "vs"
    refine ite2 (fun e => ?_) (fun e => by
      have e : decide (w = Str.ofString "times") = false := by simpa using e
      rw [e] at hQ; exact hQ)
    rw [e] at hQ
    rw [List.length_map]
    refine ite2 (fun e2 => ?_) (fun e2 => ?_)
    · have e2 : rest.length = 3 := by have := of_decide_eq_true e2; omega
      match rest, e2 with
      | [m, x, a], _ =>
        walk_at "vs"
        refine ⟨small (by decide), ?_⟩
        simp only [tmB, Bool.true_and] at hQ
        refine ite2 (fun e3 => ?_) (fun e3 => ?_)
        · rw [e3] at hQ
          exact ⟨x, rfl, hz5 x (by simp), nameB x, rfl, by simpa using hQ⟩
        · have e3 : decide (m ∈ (["own", "one"] : List Str)) = false := by simpa using e3
          rw [e3] at hQ
          simpa using hQ
    · have e2 : ¬ rest.length = 3 := fun z => e2 (decide_eq_true (by omega))
      have : tmB rest = false := by
        match rest, e2 with
        | [], _ => rfl
        | [_], _ => rfl
        | [_, _], _ => rfl
        | [_, _, _], h => exact absurd rfl h
        | _ :: _ :: _ :: _ :: _, _ => rfl
      rw [this] at hQ
      simpa using hQ
  · simp only [Bool.and_eq_true, decide_eq_true_eq] at hb
    obtain ⟨rfl, hb⟩ := hb
    match rest, hb with
    | [m, x, a], hb =>
      simp only [tmB, Bool.and_eq_true] at hb
      have hf : fitsB "times" [m, x, a] = atB a := by
        rw [fits_sh (shp_times _)]
        simp only [List.zipWith_cons_cons, List.zipWith_nil_left, List.all_cons, isOf_m, isOf_x, isOf_a, hb.1, hb.2]
        simp
      walk_at "vs"
      refine ⟨small (by decide), small (by decide), ?_⟩
      rw [atom_non]
      refine ⟨_, isN_1, ?_⟩
      cases ha : atB a with
      | false => exact no (by rw [hf, ha])
      | true =>
        refine yes _ (by rw [hf, ha]) ?_
        obtain ⟨h1, h2, h3, _⟩ := kw1
        have hm : numB m = false := by
          have := of_decide_eq_true hb.1
          simp only [List.mem_cons, List.not_mem_nil, or_false] at this
          rcases this with rfl | rfl <;> decide +kernel
        have pm : partD m = .str m := by simp [partD, hm]
        simp [startD, h1, h2, h3, part_name hb.2, part_at ha, pm]
  walk_at "v1"
  refine guard (decide (w = "let") && leB rest) (fun QB hQ => ?_) (fun hb2 => ?_) (fun hb2 => ?_)
  · walk_at "vs"
    refine ite2 (fun e => ?_) (fun e => by
      have e : decide (w = Str.ofString "let") = false := by simpa using e
      rw [e] at hQ; exact hQ)
    rw [e] at hQ
    rw [List.length_map]
    refine ite2 (fun e2 => ?_) (fun e2 => ?_)
    · have e2 : rest.length = 4 := by have := of_decide_eq_true e2; omega
      match rest, e2 with
      | [x, a, s, b], _ =>
        walk_at "vs"
        refine ⟨small (by decide), ?_⟩
        simpa only [leB, Bool.true_and, List.map_cons, List.map_nil] using hQ
    · have e2 : ¬ rest.length = 4 := fun z => e2 (decide_eq_true (by omega))
      have : leB rest = false := by
        match rest, e2 with
        | [], _ => rfl
        | [_], _ => rfl
        | [_, _], _ => rfl
        | [_, _, _], _ => rfl
        | [_, _, _, _], h => exact absurd rfl h
        | _ :: _ :: _ :: _ :: _ :: _, _ => rfl
      rw [this] at hQ
      simpa using hQ
  · simp only [Bool.and_eq_true, decide_eq_true_eq] at hb2
    obtain ⟨rfl, hb2⟩ := hb2
    match rest, hb2 with
    | [x, a, s, b], hb2 =>
      simp only [leB] at hb2
      have hf : fitsB "let" [x, a, s, b] = (nameB x && (atB a && atB b)) := by
        rw [fits_sh (l := [120, 97, 115, 97]) (by rw [shp_let]; rfl)]
        simp only [List.zipWith_cons_cons, List.zipWith_nil_left, List.all_cons, isOf_s, isOf_x, isOf_a, hb2]
        simp
      walk_at "v1"
      refine guard (!(nameB x && (atB a && atB b))) (fun QB hQ => ?_) (fun hb3 => ?_) (fun hb3 => ?_)
      · walk_at "vs"
        refine ⟨x, rfl, hz5 x (by simp), nameB x, rfl, ?_⟩
        cases hx : nameB x with
        | false => simpa [hx] using hQ
        | true =>
          simp only [Bool.not_true, Bool.false_eq_true, if_false]
          rw [atom_non, atom_non]
          cases ha : atB a with
          | false => simpa [hx, ha] using hQ
          | true => simpa [hx, ha] using hQ
      · walk_at "vs"
        exact no (by rw [hf]; exact nt hb3)
      · walk_at "vs"
        refine ⟨small (by decide), ?_⟩
        have h3 : (nameB x && (atB a && atB b)) = true := by simpa using hb3
        refine yes _ (by rw [hf, h3]) ?_
        simp only [Bool.and_eq_true] at h3
        have hs : numB s = false := by
          have := of_decide_eq_true hb2
          simp only [List.mem_cons, List.not_mem_nil, or_false] at this
          rcases this with rfl | rfl | rfl | rfl | rfl <;> decide +kernel
        unfold startD
        rw [if_pos ⟨rfl, rfl⟩]
        have pm : partD s = .str s := by simp [partD, hs]
        simp [part_name h3.1, part_at h3.2.1, part_at h3.2.2, pm]
  walk_at "v1"
  refine guard (rest.isEmpty || rest.any (fun z => !atB z)) (fun QB hQ => ?_) (fun hb3 => ?_) (fun hb3 => ?_)
  · walk_at "vs"
    refine ⟨by simp [VL.plain, plain_strs], by simp [VL.plain, plains], shaped_strs rest (fun z hz => (hok.2 z (List.mem_cons_of_mem _ hz)).2), by simp [SeqAt.shaped, py, pys, PyData.canLay0, PyData.canLayAll0, PyData.depth, PyData.depthAll], ?_⟩
    rw [eqv_nil]
    refine ⟨_, rfl, ?_⟩
    cases he : rest.isEmpty with
    | true => simpa [he] using hQ
    | false =>
      simp only [Bool.false_eq_true, if_false]
      rw [s_gInL, in_non, atom_sc]
      refine ⟨rfl, rfl, _, rfl, ?_⟩
      simpa [he] using hQ
  · walk_at "vs"
    refine no ?_
    refine fits_no hb hb2 fun hc => ?_
    have bad : rest = [] ∨ ∃ z ∈ rest, atB z = false := by
      rw [Bool.or_eq_true] at hb3
      rcases hb3 with e | e
      · exact .inl (List.isEmpty_iff.mp e)
      · obtain ⟨z, hz, e⟩ := List.any_eq_true.mp e
        exact .inr ⟨z, hz, nt e⟩
    have good : rest ≠ [] ∧ ∀ z ∈ rest, atB z = true := by
      rcases hc with ⟨_, a, rfl, ha⟩ | ⟨_, x, a, rfl, hx, ha⟩ | ⟨_, x, f, r, rfl, hx, hf, hr⟩ | ⟨_, x, r, rfl, hr⟩
      · exact ⟨by simp, by simpa using ha⟩
      · exact ⟨by simp, by simp [name_at hx, ha]⟩
      · exact ⟨by simp, by simpa [name_at hx, name_at hf] using hr⟩
      · exact ⟨by simp, fun z hz => name_at (List.all_eq_true.mp hr z hz)⟩
    rcases bad with e | ⟨z, hz, e⟩
    · exact good.1 e
    · rw [good.2 z hz] at e
      cases e
  have hb3 : rest ≠ [] ∧ rest.all atB = true := by
    rw [Bool.or_eq_false_iff] at hb3
    refine ⟨fun e => by rw [e] at hb3; simp at hb3, ?_⟩
    rw [List.all_eq_true]
    intro z hz
    have := List.any_eq_false.mp hb3.2 z hz
    simpa using this
  obtain ⟨hne, hall⟩ := hb3
  obtain ⟨x, r, rfl⟩ : ∃ x r, rest = x :: r := by
    cases rest with
    | nil => exact absurd rfl hne
    | cons x r => exact ⟨x, r, rfl⟩
  walk_at "v1"
  refine guard (decide (w ∈ (["tell", "give", "if", "while"] : List Str)) && decide (r = [])) (fun QB hQ => ?_) (fun hb4 => ?_) (fun hb4 => ?_)
  · walk_at "vs"
    refine ⟨small (by decide), ?_⟩
    refine ite2 (fun e => ?_) (fun e => by
      have e : decide (w ∈ (["tell", "give", "if", "while"] : List Str)) = false := by simpa using e
      rw [e] at hQ; exact hQ)
    rw [e] at hQ
    rw [dl1]
    simpa using hQ
  · simp only [Bool.and_eq_true, decide_eq_true_eq] at hb4
    obtain ⟨h4, rfl⟩ := hb4
    have h4 := one4_in.mp h4
    have ha : atB x = true := by simpa using hall
    walk_at "vs"
    refine ⟨small (by decide), yes _ ?_ ?_⟩
    · rw [fits_sh (shp_one h4 _)]
      simp [isOf_a, ha]
    · obtain ⟨k1, k2, k3, k4⟩ := kw5 h4
      simp [startD, k1, k2, k3, part_at ha]
  walk_at "v1"
  refine guard (!nameB x) (fun QB hQ => ?_) (fun hb5 => ?_) (fun hb5 => ?_)
  · walk_at "vs"
    exact ⟨x, rfl, hz5 x (by simp), nameB x, rfl, hQ⟩
  · walk_at "vs"
    have hx := nt hb5
    refine no (fits_no hb hb2 fun hc => ?_)
    rcases hc with ⟨h4, a, e, ha⟩ | ⟨_, y, a, e, hy, ha⟩ | ⟨_, y, f, r, e, hy, hf, hr⟩ | ⟨_, y, r, e, hr⟩
    · cases e
      rw [decide_eq_true (one4_in.mpr h4)] at hb4
      simp at hb4
    · cases e; rw [hy] at hx; cases hx
    · cases e; rw [hy] at hx; cases hx
    · cases e
      simp only [List.all_cons, Bool.and_eq_true] at hr
      rw [hr.1] at hx; cases hx
  have hx : nameB x = true := by cases w : nameB x with | true => rfl | false => rw [w] at hb5; cases hb5
  walk_at "v1"
  refine guard (decide (w ∈ (["let", "set"] : List Str)) && decide (r.length = 1)) (fun QB hQ => ?_) (fun hb6 => ?_) (fun hb6 => ?_)
  · walk_at "vs"
    refine ⟨small (by decide), ?_⟩
    refine ite2 (fun e => ?_) (fun e => by
      have e : decide (w ∈ (["let", "set"] : List Str)) = false := by simpa using e
      rw [e] at hQ; exact hQ)
    rw [e] at hQ
    rw [dl2]
    simpa using hQ
  · simp only [Bool.and_eq_true, decide_eq_true_eq] at hb6
    match r, hb6.2 with
    | [a], _ =>
      have ha : atB a = true := by
        simp only [List.all_cons, Bool.and_eq_true] at hall
        exact hall.2.1
      walk_at "vs"
      have hw : w = "let" ∨ w = "set" := by simpa using hb6.1
      refine ⟨small (by decide), yes _ ?_ ?_⟩
      · rcases hw with rfl | rfl
        · rw [fits_sh (l := [120, 97]) (by rw [shp_let]; rfl)]
          simp [isOf_a, isOf_x, ha, hx]
        · rw [fits_sh (shp_set _)]
          simp [isOf_a, isOf_x, ha, hx]
      · rcases hw with rfl | rfl
        · obtain ⟨k1, k2, k3⟩ := kw2
          simp [startD, k1, k2, part_at ha, part_name hx]
        · obtain ⟨k1, k2, k3⟩ := kw3
          simp [startD, k1, k2, k3, part_at ha, part_name hx]
  walk_at "v1"
  refine guard (decide (w = "call") && hdB r) (fun QB hQ => ?_) (fun hb7 => ?_) (fun hb7 => ?_)
  · walk_at "vs"
    refine ite2 (fun e => ?_) (fun e => by
      have e : decide (w = Str.ofString "call") = false := by simpa using e
      rw [e] at hQ; exact hQ)
    rw [e] at hQ
    cases r with
    | nil => simpa [hdB] using hQ
    | cons f r =>
      rw [if_pos (decide_eq_true (by simp; omega))]
      walk_at "vs"
      exact ⟨f, rfl, hz5 f (by simp), nameB f, rfl, by simpa [hdB] using hQ⟩
  · simp only [Bool.and_eq_true, decide_eq_true_eq] at hb7
    obtain ⟨rfl, hb7⟩ := hb7
    cases r with
    | nil => simp [hdB] at hb7
    | cons f r =>
      have hf : nameB f = true := hb7
      have hr : r.all atB = true := by
        simp only [List.all_cons, Bool.and_eq_true] at hall
        exact hall.2.2
      walk_at "vs"
      refine ⟨small (by decide), ?_⟩
      rw [cuD_2 (by simp)]
      refine yes _ (by rw [fits_call, hx, hf, hr]; rfl) ?_
      obtain ⟨k1, k2, k3⟩ := kw4
      simp [startD, k1, k2, part_name hx, part_name hf, map_part hr]
  walk_at "v1"
  refine guard (decide (w = "fn") && (x :: r).all nameB) (fun QB hQ => ?_) (fun hb8 => ?_) (fun hb8 => ?_)
  · walk_at "vs"
    refine ite2 (fun e => ?_) (fun e => by
      have e : decide (w = Str.ofString "fn") = false := by simpa using e
      rw [e] at hQ; exact hQ)
    rw [e] at hQ
    refine lc_mapF D.str (fun z => D.bl (nameB z)) (x :: r) [] (small (by simp; simp at h5; omega)) (fun z hz A B hA => ?_) ⟨(x :: r).map nameB, by simp, ?_⟩
    · walk_at "vs"
      exact ⟨z, rfl, hz5 z hz, hA _ rfl⟩
    · have : ((x :: r).map nameB).all id = (x :: r).all nameB := by rw [List.all_map]; rfl
      rw [this]
      simpa using hQ
  · simp only [Bool.and_eq_true, decide_eq_true_eq] at hb8
    obtain ⟨rfl, hb8⟩ := hb8
    walk_at "vs"
    refine ⟨small (by decide), yes _ (by rw [fits_fn]; exact hb8) ?_⟩
    obtain ⟨k1, k2, k3⟩ := kw4
    have hr : r.all nameB = true := by
      simp only [List.all_cons, Bool.and_eq_true] at hb8
      exact hb8.2
    simp [startD, k3, part_name hx, map_name hr]
  walk_at "vs"
  refine no (fits_no hb hb2 fun hc => ?_)
  rcases hc with ⟨h4, a, e, ha⟩ | ⟨hw, y, a, e, hy, ha⟩ | ⟨hw, y, f, r', e, hy, hf, hr⟩ | ⟨hw, y, r', e, hr⟩
  · cases e
    rw [decide_eq_true (one4_in.mpr h4)] at hb4
    simp at hb4
  · cases e
    have : decide (w ∈ (["let", "set"] : List Str)) = true := by simpa using hw
    rw [this] at hb6
    simp at hb6
  · cases e
    rw [decide_eq_true hw] at hb7
    simp [hdB, hf] at hb7
  · cases e
    rw [decide_eq_true hw, hr] at hb8
    simp at hb8
end
end K10
set_option Elab.async false
set_option linter.all false
set_option maxRecDepth 100000
set_option maxHeartbeats 4000000
namespace K10
open PySem PySem.Spec PyProof.Rows L2 L2H HotX Fb VL
local macro_rules | `(tactic| walk_at "vs") => `(tactic| simp only [vCell, vDr, vFld, vAppC, vPopC, vSetF, vCallA, vCallAX, vCallX, vMakeA, vMethA, vRaise, vTry, vXf, vChain, vTru, s_truN, s_truB, s_truI, s_truS, s_truL, s_truT, vIsi, vIsiT, vStar, vListZip, vEnum, vZipSL, vPop, vExt, vSetIx, vSetIxC, vRep, s_vgLst, vKGet, s_gMulS, s_gBoolL, s_gStrS, s_gIntS, s_gStrA1, s_gStrA2, s_seqL, s_seqT, cuD_1, ioA, setC, newC, noC, putA, ex_cell, Option.join_some, List.drop_succ_cons, List.drop_zero, s_gInK, s_gInS, s_gIn2, s_gIn3, s_gIn4, s_gIn5, ex_par, vNeg, s_gAny, vCaTd, vOp2Lv, s_callIO, s_io, s_fill0, s_fillN, s_fillS, s_putIO, s_wio0, s_wioN, s_wioS, s_give0, s_giveN, s_giveS, s_giveM, Option.map_some, s_seq, s_next, s_break, s_cont, s_set, s_ret, s_retN, s_drop, s_ifS, s_for, s_asg, s_par, s_var, s_c, s_op2, s_op2L, s_op2T, s_ca, s_caL, s_caT, s_nil, s_cons, s_tup, s_lst, s_test, s_and, s_or, s_not, s_if, s_andV, s_orV, s_notV, s_no, s_part, s_sl, s_slL, s_slT, s_ls, s_ts, s_sgs, s_rng1, s_rng2, s_gName, s_gNil, s_gCons, s_gTup, s_lc, s_yes, s_append, s_call, s_dget, s_get2, s_pNil, s_pCons, s_disp, s_m1, s_split, s_indexD, s_w1, s_w2, s_isStr, s_gI, s_gI0, s_gAddS, s_gS, s_gSg, s_gEqI, s_gEqS, s_gEqB, s_gEqNI, s_gEqIS, s_gEqSI, s_gNeI, s_gNeS, s_gIsN, s_gNotN, s_isNon0, s_isNonI, s_isNonS, s_isNonT, s_isNonL, s_gIxL, s_gIxT, s_gIxS, s_gCat, s_gCatT, s_gSlL, s_gSlT, s_gSlS, s_gLenL, s_gLenT, s_gLenS, s_gSum, s_gI2, s_gInt1, s_gInt1b, s_gStrI, s_gAll, s_gSeqL, s_gSeqT, s_gDGet, s_gGet2, s_kDs, s_kDi, s_ioN, s_ioS, s_ioL, s_ioD, s_ioO, s_nones0, s_nones1, List.map_cons, List.map_nil, List.cons_append, List.nil_append, List.append_nil, List.append_assoc, List.getElem?_cons_zero, List.getElem?_cons_succ, List.set_cons_zero, List.set_cons_succ, Option.some.injEq, exists_eq_left', exists_eq_left, D.int.injEq, D.str.injEq, D.tup.injEq, D.lst.injEq, D.bl.injEq, D.dct.injEq, and_true, true_and, List.length_cons, List.length_nil, exists_and_left, exists_eq, Bool.not_true, Bool.not_false, exists_eq', Nat.zero_le, atI_0, atI_1, atI_2, atI_3, atI_4, atI_5, s_gInD, if_true, if_false, Bool.false_eq_true, Nat.reduceAdd])
local macro_rules | `(tactic| walk_at "v1") => `(tactic| simp only [vCell, vDr, vFld, vAppC, vPopC, vSetF, vCallA, vCallAX, vCallX, vMakeA, vMethA, vRaise, vTry, vXf, vChain, vTru, s_truN, s_truB, s_truI, s_truS, s_truL, s_truT, vIsi, vIsiT, vStar, vListZip, vEnum, vZipSL, vPop, vExt, vSetIx, vSetIxC, vRep, s_vgLst, vKGet, s_gMulS, s_gBoolL, s_gStrS, s_gIntS, s_gStrA1, s_gStrA2, s_seqL, s_seqT, cuD_1, ioA, setC, newC, noC, putA, ex_cell, Option.join_some, List.drop_succ_cons, List.drop_zero, s_gInK, s_gInS, s_gIn2, s_gIn3, s_gIn4, s_gIn5, ex_par, vNeg, s_gAny, vCaTd, vOp2Lv, s_callIO, s_io, s_fill0, s_fillN, s_fillS, s_putIO, s_wio0, s_wioN, s_wioS, s_give0, s_giveN, s_giveS, s_giveM, Option.map_some, s_seq, s_next, s_break, s_cont, s_set, s_ret, s_retN, s_drop, s_for, s_asg, s_par, s_var, s_c, s_op2, s_op2L, s_op2T, s_ca, s_caL, s_caT, s_nil, s_cons, s_tup, s_lst, s_test, s_and, s_or, s_not, s_if, s_andV, s_orV, s_notV, s_no, s_part, s_sl, s_slL, s_slT, s_ls, s_ts, s_sgs, s_rng1, s_rng2, s_gName, s_gNil, s_gCons, s_gTup, s_lc, s_yes, s_append, s_call, s_dget, s_get2, s_pNil, s_pCons, s_disp, s_m1, s_split, s_indexD, s_w1, s_w2, s_isStr, s_gI, s_gI0, s_gAddS, s_gS, s_gSg, s_gEqI, s_gEqS, s_gEqB, s_gEqNI, s_gEqIS, s_gEqSI, s_gNeI, s_gNeS, s_gIsN, s_gNotN, s_isNon0, s_isNonI, s_isNonS, s_isNonT, s_isNonL, s_gIxL, s_gIxT, s_gIxS, s_gCat, s_gCatT, s_gSlL, s_gSlT, s_gSlS, s_gLenL, s_gLenT, s_gLenS, s_gSum, s_gI2, s_gInt1, s_gInt1b, s_gStrI, s_gAll, s_gSeqL, s_gSeqT, s_gDGet, s_gGet2, s_kDs, s_kDi, s_ioN, s_ioS, s_ioL, s_ioD, s_ioO, s_nones0, s_nones1, List.map_cons, List.map_nil, List.cons_append, List.nil_append, List.append_nil, List.append_assoc, List.getElem?_cons_zero, List.getElem?_cons_succ, List.set_cons_zero, List.set_cons_succ, Option.some.injEq, exists_eq_left', exists_eq_left, D.int.injEq, D.str.injEq, D.tup.injEq, D.lst.injEq, D.bl.injEq, D.dct.injEq, and_true, true_and, List.length_cons, List.length_nil, exists_and_left, exists_eq, Bool.not_true, Bool.not_false, exists_eq', Nat.zero_le, atI_0, atI_1, atI_2, atI_3, atI_4, atI_5, s_gInD, if_true, if_false, Bool.false_eq_true, Nat.reduceAdd])
section
variable {P : Program} {w : World} {K : PySem.W.Frag} {mg : Str → Option Value} {base : Heap} {a_Reading a_BindError a_NoText a_SIGNS a_MODES a_WORDS a_SHAPES a_WITH_BLOCKS : Addr}
/-! ### a Reading -/
section
variable {al : List Addr} {l : List D} {a : Addr} {d : D}
theorem ex_mem {P : List Addr → List D → Prop} : (∃ al' l', D.mem al l = D.mem al' l' ∧ P al' l') = P al l := propext ⟨fun ⟨_, _, e, h⟩ => by cases e; exact h, fun h => ⟨_, _, rfl, h⟩⟩
theorem ex_mem0 : (∃ al' l', D.mem al l = D.mem al' l') = True := propext ⟨fun _ => trivial, fun _ => ⟨_, _, rfl⟩⟩
theorem ex_ref {P : Addr → Prop} : (∃ a', D.ref a = D.ref a' ∧ P a') = P a := propext ⟨fun ⟨_, e, h⟩ => by cases e; exact h, fun h => ⟨_, rfl, h⟩⟩
theorem ex_obj {C : Addr} {fs : List Str} {vs : List D} {P : List Str → List D → Prop} (h : cellAt al l a = some (.obj C fs vs)) : (∃ x y, cellAt al l a = some (.obj C x y) ∧ P x y) = P fs vs := propext ⟨fun ⟨_, _, e, q⟩ => by rw [h] at e; cases e; exact q, fun q => ⟨_, _, h, q⟩⟩
theorem ex_lst {v : List D} {P : List D → Prop} (h : cellAt al l a = some (.lst v)) : (∃ x, cellAt al l a = some (.lst x) ∧ P x) = P v := propext ⟨fun ⟨_, e, q⟩ => by rw [h] at e; cases e; exact q, fun q => ⟨_, h, q⟩⟩
end
abbrev fN : List Str := [Str.ofString "blocks", Str.ofString "starts"]
def Blk (al : List Addr) (l : List D) (cs : List Addr) (B : List (List D)) : Prop := cs.map (cellAt al l) = B.map fun L => some (.lst L)
section
variable {al : List Addr} {l : List D} {cs : List Addr} {B : List (List D)} {a c : Addr} {d d0 : D} {L : List D}
theorem Blk.mem (h : Blk al l cs B) (hc : c ∈ cs) : ∃ L, L ∈ B ∧ cellAt al l c = some (.lst L) := by
  have : cellAt al l c ∈ cs.map (cellAt al l) := List.mem_map_of_mem hc
  rw [show cs.map (cellAt al l) = _ from h] at this
  obtain ⟨L, h1, h2⟩ := List.mem_map.mp this
  exact ⟨L, h1, h2.symm⟩
theorem Blk.keep {al' : List Addr} {l' : List D} (h : Blk al l cs B) (hk : ∀ c ∈ cs, cellAt al' l' c = cellAt al l c) : Blk al' l' cs B := by
  rw [Blk, List.map_congr_left hk]
  exact h
theorem Blk.new (h : Blk al l cs B) (ha : a ∉ al) : Blk (a :: al) (d :: l) cs B := h.keep fun c hc => by
  obtain ⟨L, _, e⟩ := h.mem hc
  rw [cellAt_new, if_neg (fun z : a = c => ha (z ▸ cell_no e))]
theorem Blk.set (h : Blk al l cs B) (ha : cellAt al l a = some d0) (hn : a ∉ cs) : Blk al (cellSet al l a d) cs B := h.keep fun c hc => by
  rw [cellAt_set ha, if_neg (fun z : a = c => hn (z ▸ hc))]
theorem Blk.snoc (h : Blk al l cs B) (hc : cellAt al l c = some (.lst L)) : Blk al l (cs ++ [c]) (B ++ [L]) := by
  rw [Blk, List.map_append, List.map_append, show cs.map (cellAt al l) = _ from h, List.map_cons, List.map_nil, List.map_cons, List.map_nil, hc]
theorem Blk.last (h : Blk al l cs (B ++ [L])) : ∃ cs0 c, cs = cs0 ++ [c] ∧ Blk al l cs0 B ∧ cellAt al l c = some (.lst L) := by
  rcases List.eq_nil_or_concat cs with rfl | ⟨cs0, c, rfl⟩
  · have := congrArg List.length h
    simp at this
  · rw [List.concat_eq_append] at h ⊢
    rw [Blk, List.map_append, List.map_append] at h
    obtain ⟨e1, e2⟩ := List.append_inj' h rfl
    exact ⟨cs0, c, rfl, e1, by simpa using e2⟩
theorem Blk.len (h : Blk al l cs B) : cs.length = B.length := by
  have := congrArg List.length h
  simpa using this
theorem Blk.set_last (h : Blk al l cs B) (hc : cellAt al l c = some d0) (hn : c ∉ cs) : Blk al (cellSet al l c (.lst L)) (cs ++ [c]) (B ++ [L]) := (h.set hc hn).snoc (by rw [cellAt_set hc, if_pos rfl])
end
structure RdAt (C : Addr) (al : List Addr) (l : List D) (a b s : Addr) (cs : List Addr) (S : List D) (B : List (List D)) : Prop where
  o : cellAt al l a = some (.obj C fN [.ref b, .ref s])
  bl : cellAt al l b = some (.lst (cs.map D.ref))
  st : cellAt al l s = some (.lst S)
  blk : Blk al l cs B
  ab : a ≠ b
  as_ : a ≠ s
  bs : b ≠ s
  ac : a ∉ cs
  bc : b ∉ cs
  sc : s ∉ cs
  nd : cs.Nodup
def RdB (C : Addr) (al : List Addr) (l : List D) (a b s : Addr) (S : List D) (B : List (List D)) : Prop := ∃ cs, RdAt C al l a b s cs S B
def inArm (S : List D) : Bool := match S.getLast? with
  | some (.tup [.str w, _]) => decide (w = Str.ofString "if")
  | _ => false
def okS (S : List D) : Prop := S.length ≤ 100000 ∧ ∀ d ∈ S, ∃ w t, d = .tup (.str w :: t) ∧ t.length ≤ 4
def okB (B : List (List D)) : Prop := B.length ≤ 100000 ∧ ∀ L ∈ B, L.length ≤ 100000
def vpRInit (C : Addr) : VSp := fun ds Q _ => ∃ a al l, ds = [.ref a, .mem al l] ∧ cellAt al l a = some (.obj C [] []) ∧ ∀ al' l' b s, RdB C al' l' a b s [] [[]] → Q .non [none, some (.mem al' l')]
def vpRArm (C : Addr) : VSp := fun ds Q _ => ∃ a b s al l S B, ds = [.ref a, .mem al l] ∧ RdB C al l a b s S B ∧ okS S ∧ okB B ∧ Q (.bl (inArm S)) [none, some (.mem al l)]
def vpREnd (C : Addr) : VSp := fun ds Q _ => ∃ a b s al l S t B L, ds = [.ref a, .mem al l] ∧ RdB C al l a b s (S ++ [.tup t]) (B ++ [L]) ∧ okS (S ++ [.tup t]) ∧ okB (B ++ [L]) ∧ ∀ al' l', RdB C al' l' a b s S B → Q (.tup (t ++ [.tup L])) [none, some (.mem al' l')]
def endS (S : List D) (B : List (List D)) : D := .tup ((match S.getLast? with | some (.tup t) => t | _ => []) ++ [.tup (B.getLast?.getD [])])
def otherD (S : List D) (B : List (List D)) : Option (List D × List (List D)) := if inArm S then some (S.dropLast ++ [endS S B], B.dropLast ++ [[]]) else none
def closeD (S : List D) (B : List (List D)) : Option (List D × List (List D)) := if S.isEmpty || inArm S then none else some (S.dropLast, B.dropLast.dropLast ++ [B.dropLast.getLast?.getD [] ++ [endS S B]])
def vpROther (C : Addr) : VSp := fun ds Q _ => ∃ a b s al l S B, ds = [.ref a, .mem al l] ∧ RdB C al l a b s S B ∧ okS S ∧ okB B ∧ B.length = S.length + 1 ∧ match otherD S B with
  | some (S', B') => ∀ al' l', RdB C al' l' a b s S' B' → Q (.bl true) [none, some (.mem al' l')]
  | none => Q (.bl false) [none, some (.mem al l)]
def vpRClose (C : Addr) : VSp := fun ds Q _ => ∃ a b s al l S B, ds = [.ref a, .mem al l] ∧ RdB C al l a b s S B ∧ okS S ∧ okB B ∧ B.length = S.length + 1 ∧ match closeD S B with
  | some (S', B') => ∀ al' l', RdB C al' l' a b s S' B' → Q (.bl true) [none, some (.mem al' l')]
  | none => Q (.bl false) [none, some (.mem al l)]
theorem gf_b {x y : D} : getF fN [x, y] (Str.ofString "blocks") = some x := rfl
theorem gf_s {x y : D} : getF fN [x, y] (Str.ofString "starts") = some y := rfl
theorem pN_b : putN [] (Str.ofString "blocks") = [Str.ofString "blocks"] := rfl
theorem pN_s : putN [Str.ofString "blocks"] (Str.ofString "starts") = fN := rfl
theorem pV_b {y : D} : putV [] [] (Str.ofString "blocks") y = [y] := rfl
theorem pV_s {x y : D} : putV [Str.ofString "blocks"] [x] (Str.ofString "starts") y = [x, y] := rfl
theorem sc_Reading___init__ : FnScope ["self"] ["self"] (defScope s_Reading___init__) := ⟨rfl, rfl, rfl, by decide +kernel, rfl, by decide +kernel, by decide +kernel⟩
theorem ok_Reading___init__ (T : Top K w mg a_Reading a_BindError a_NoText a_SIGNS a_MODES a_WORDS a_SHAPES a_WITH_BLOCKS) : C8.Mak P w K mg base 1 "Reading" a_Reading (spA K [.s] .s (vpRInit a_Reading)) [] := by
  obtain ⟨f, fd, F, M⟩ := T.h_Reading___init__
  refine ⟨f, fd, ["self"], [], M, ?_, T.m_Reading, F.binds (fun _ _ _ _ _ _ us hl => match us, hl with | [_], _ => rfl), .nil⟩
  refine F.ok sc_Reading___init__ (fun vs H Q E h => h.len) (fun cdv A outer s H vs Q E hr h => ?_)
  have hu := hu_of hr
  have hu64 : (A.deeper (envOfC "Reading.__init__" (defScope s_Reading___init__) s.heap.objs.size f cdv)).units + 64 < cLine := by have := hr.un; omega
  have hu65 : (A.deeper (envOfC "Reading.__init__" (defScope s_Reading___init__) s.heap.objs.size f cdv)).units + 65 < cLine := by have := hr.un; omega
  refine ⟨_, (pss_cons (VL.sfldK K rfl (pv 0) (pe_lst (pa_cons (pe_lst pa_nil) pa_nil)) rfl)
  (pss_one (VL.sfldK K rfl (pv 0) (pe_lst pa_nil) rfl))), fn_runA0 (pM := [.s]) (M2 := []) rfl (fun H0 io av rt hrt => (vs_seq (n_setF 1 rfl T.cl_Reading T.n_Reading_blocks (q_var (i := 0) rfl) (n_cellL 1 rfl (v_lst (va_cons (n_cellL 1 rfl (v_lst va_nil)) va_nil))))
  (n_setF 1 rfl T.cl_Reading T.n_Reading_starts (q_var (i := 0) rfl) (n_cellL 1 rfl (v_lst va_nil))))) (fun ds al ml Qv Qx hl hs => ?_) h⟩
  obtain ⟨a, al, l, hd, ha, q⟩ := hs
  obtain ⟨rfl, rfl, rfl⟩ := ap1 hd
  walk_at "vs"
  simp only [ex_mem, ex_mem0, ex_ref, true_and]
  intro a1 h1
  refine ⟨by decide, fun a3 h3 => ?_⟩
  have na1 : a1 ≠ a := fun z => h1 (z ▸ cell_no ha)
  have na3 : a3 ≠ a := fun z => h3 (z ▸ List.mem_cons_of_mem _ (cell_no ha))
  have n31 : a3 ≠ a1 := fun z => h3 (z ▸ List.mem_cons_self)
  have c1 : cellAt (a3 :: a1 :: al) (D.lst [D.ref a1] :: D.lst [] :: ml) a = some (.obj a_Reading [] []) := by
    rw [cellAt_new, if_neg na3, cellAt_new, if_neg na1, ha]
  refine ⟨[], [], c1, by decide, fun a6 h6 => ?_⟩
  have na6 : a6 ≠ a := fun z => h6 (z ▸ List.mem_cons_of_mem _ (List.mem_cons_of_mem _ (cell_no ha)))
  have n63 : a6 ≠ a3 := fun z => h6 (z ▸ List.mem_cons_self)
  have n61 : a6 ≠ a1 := fun z => h6 (z ▸ List.mem_cons_of_mem _ List.mem_cons_self)
  rw [pN_b, pV_b]
  refine ⟨_, _, by rw [cellAt_new, if_neg na6, cellAt_set c1, if_pos rfl], by decide, ?_⟩
  rw [pN_s, pV_s]
  have c2 : cellAt (a6 :: a3 :: a1 :: al) (D.lst [] :: VL.cellSet (a3 :: a1 :: al) (D.lst [D.ref a1] :: D.lst [] :: ml) a (D.obj a_Reading [Str.ofString "blocks"] [D.ref a3])) a = some (D.obj a_Reading [Str.ofString "blocks"] [D.ref a3]) := by
    rw [cellAt_new, if_neg na6, cellAt_set c1, if_pos rfl]
  refine q _ _ a3 a6 ⟨[a1], ?_⟩
  have g : ∀ {c : Addr}, a ≠ c → a6 ≠ c → cellAt (a6 :: a3 :: a1 :: al) (VL.cellSet (a6 :: a3 :: a1 :: al) (D.lst [] :: VL.cellSet (a3 :: a1 :: al) (D.lst [D.ref a1] :: D.lst [] :: ml) a (D.obj a_Reading [Str.ofString "blocks"] [D.ref a3])) a (D.obj a_Reading fN [D.ref a3, D.ref a6])) c = cellAt (a3 :: a1 :: al) (D.lst [D.ref a1] :: D.lst [] :: ml) c := fun {c} h1 h2 => by
    rw [cellAt_set c2, if_neg h1, cellAt_new, if_neg h2, cellAt_set c1, if_neg h1]
  constructor
  · rw [cellAt_set c2, if_pos rfl]
  · rw [g na3.symm n63, cellAt_new, if_pos rfl]
    rfl
  · rw [cellAt_set c2, if_neg na6.symm, cellAt_new, if_pos rfl]
  · rw [Blk, List.map_cons, g na1.symm n61, cellAt_new, if_neg n31, cellAt_new, if_pos rfl]
    rfl
  · exact na3.symm
  · exact na6.symm
  · exact n63.symm
  · simpa using na1.symm
  · simpa using n31
  · simpa using n61
  · simp
theorem inArm_nil : inArm [] = false := rfl
theorem inArm_snoc {S : List D} {w : Str} {t : List D} : inArm (S ++ [.tup (.str w :: t)]) = (decide (w = Str.ofString "if") && decide (t.length = 1)) := by
  simp only [inArm, List.getLast?_append, List.getLast?_singleton, Option.some_or]
  match t with
  | [] => simp
  | [x] => simp
  | x :: y :: t => simp
theorem atI_last {α : Type} {l : List α} {x : α} : atI (l ++ [x]) (-1) = some x := by
  unfold atI ixN
  simp only [List.length_append, List.length_cons, List.length_nil]
  rw [if_neg (by omega), if_pos (by omega)]
  have e : (-1 + ((l.length + (0 + 1) : Nat) : Int)).toNat = l.length := by omega
  rw [e]
  simp
theorem sc_Reading_in_first_arm : FnScope ["self"] ["self"] (defScope s_Reading_in_first_arm) := ⟨rfl, rfl, rfl, by decide +kernel, rfl, by decide +kernel, by decide +kernel⟩
theorem ok_Reading_in_first_arm (T : Top K w mg a_Reading a_BindError a_NoText a_SIGNS a_MODES a_WORDS a_SHAPES a_WITH_BLOCKS) : C8.Met P w K mg base 1 a_Reading "in_first_arm" (spA K [.s] .s (vpRArm a_Reading)) [] := by
  obtain ⟨f, fd, F, M⟩ := T.h_Reading_in_first_arm
  refine ⟨f, fd, ["self"], [], T.cl_Reading, M, ?_, F.binds (fun _ _ _ _ _ _ us hl => match us, hl with | [_], _ => rfl), .nil⟩
  refine F.ok sc_Reading_in_first_arm (fun vs H Q E h => h.len) (fun cdv A outer s H vs Q E hr h => ?_)
  have hu := hu_of hr
  have hu64 : (A.deeper (envOfC "Reading.in_first_arm" (defScope s_Reading_in_first_arm) s.heap.objs.size f cdv)).units + 64 < cLine := by have := hr.un; omega
  have hu65 : (A.deeper (envOfC "Reading.in_first_arm" (defScope s_Reading_in_first_arm) s.heap.objs.size f cdv)).units + 65 < cLine := by have := hr.un; omega
  refine ⟨_, (pss_one (ps_ret (pe_and (pe_callTy (VL.boolLK K rfl) (by rfl) T.n_bool (by decide +kernel) (pa_cons (VL.fldK K rfl (pv 0) rfl) pa_nil)) (pe_and (pe_cmpR op_eq (pe_ix (VL.ixT K rfl) (pe_ix (VL.ixL K rfl) (VL.fldK K rfl (pv 0) rfl) (pe_un un_neg pe_int) (fun _ _ => rfl)) pe_int (fun _ _ => rfl)) pe_str (nomark _)) (pe_one (pe_cmpR op_eq (pe_callB (VL.lenK K rfl) (by rfl) T.n_len (by decide +kernel) (pa_cons (pe_ix (VL.ixL K rfl) (VL.fldK K rfl (pv 0) rfl) (pe_un un_neg pe_int) (fun _ _ => rfl)) pa_nil)) pe_int (nomark _))))))), fn_runA0 (pM := [.s]) (M2 := []) rfl (fun H0 io av rt hrt => (vs_ret (v_and (VQ.e (q_ca (vba_cons (n_cell 1 rfl (q_fld T.cl_Reading T.n_Reading_starts (n_cell 1 rfl (q_var (i := 0) rfl)))) vba_nil) cd_boolL)) (v_and (VQ.e (q_op (VQ.b (q_op (VQ.b (q_op (n_cell 1 rfl (q_fld T.cl_Reading T.n_Reading_starts (n_cell 1 rfl (q_var (i := 0) rfl)))) (VQ.b (q_neg (VQ.b q_int))) od_ixL)) (VQ.b q_int) od_ixT)) (VQ.b q_str) od_eq)) (VQ.e (q_op (VQ.b (q_ca (vba_cons (VQ.b (q_op (n_cell 1 rfl (q_fld T.cl_Reading T.n_Reading_starts (n_cell 1 rfl (q_var (i := 0) rfl)))) (VQ.b (q_neg (VQ.b q_int))) od_ixL)) vba_nil) cd_len)) (VQ.b q_int) od_eq)))))) (fun ds al ml Qv Qx hl hs => ?_) h⟩
  obtain ⟨a, b, s0, al, l, S, B, hd, ⟨cs, rd⟩, hS, hB, q⟩ := hs
  obtain ⟨rfl, rfl, rfl⟩ := ap1 hd
  walk_at "vs"
  simp only [ex_mem, ex_mem0, ex_ref, true_and, rd.o, rd.bl, rd.st, gf_b, gf_s, Option.some.injEq, exists_eq_left', D.obj.injEq, and_assoc, exists_and_left, D.ref.injEq, s_gBoolL]
  rcases List.eq_nil_or_concat S with rfl | ⟨S, d, rfl⟩
  · rw [inArm_nil] at q
    simpa using q
  · rw [List.concat_eq_append] at q hS rd ⊢
    obtain ⟨w, t, rfl, ht⟩ := hS.2 d (by simp)
    rw [inArm_snoc] at q
    refine ⟨_, rfl, ?_⟩
    rw [if_pos (by simp)]
    simp only [s_gIxL, s_gIxT, atI_last, atI_0, Option.some.injEq, exists_eq_left', s_gEqS, s_gLenT, s_gEqI, D.bl.injEq, List.length_cons]
    by_cases hw : w = Str.ofString "if"
    · rw [decide_eq_true hw] at q ⊢
      rw [if_pos rfl]
      have e : decide (((t.length + 1 : Nat) : Int) = 2) = decide (t.length = 1) := by
        apply decide_eq_decide.mpr
        omega
      rw [e]
      simpa using q
    · rw [decide_eq_false hw] at q ⊢
      simpa using q
theorem okS.init {S : List D} {d : D} (h : okS (S ++ [d])) : okS S := ⟨by have := h.1; simp at this; omega, fun x hx => h.2 x (by simp [hx])⟩
theorem okB.init {B : List (List D)} {L : List D} (h : okB (B ++ [L])) : okB B := ⟨by have := h.1; simp at this; omega, fun x hx => h.2 x (by simp [hx])⟩
theorem sc_Reading_end_block : FnScope ["self", "start", "block"] ["self"] (defScope s_Reading_end_block) := ⟨rfl, rfl, rfl, by decide +kernel, rfl, by decide +kernel, by decide +kernel⟩
theorem ok_Reading_end_block (T : Top K w mg a_Reading a_BindError a_NoText a_SIGNS a_MODES a_WORDS a_SHAPES a_WITH_BLOCKS) : C8.Met P w K mg base 1 a_Reading "end_block" (spA K [.s] .s (vpREnd a_Reading)) [] := by
  obtain ⟨f, fd, F, M⟩ := T.h_Reading_end_block
  refine ⟨f, fd, ["self"], [], T.cl_Reading, M, ?_, F.binds (fun _ _ _ _ _ _ us hl => match us, hl with | [_], _ => rfl), .nil⟩
  refine F.ok sc_Reading_end_block (fun vs H Q E h => h.len) (fun cdv A outer s H vs Q E hr h => ?_)
  have hu := hu_of hr
  have hu64 : (A.deeper (envOfC "Reading.end_block" (defScope s_Reading_end_block) s.heap.objs.size f cdv)).units + 64 < cLine := by have := hr.un; omega
  have hu65 : (A.deeper (envOfC "Reading.end_block" (defScope s_Reading_end_block) s.heap.objs.size f cdv)).units + 65 < cLine := by have := hr.un; omega
  refine ⟨_, (pss_cons (ps_set (i := 1) sc_Reading_end_block.nd rfl (Or.inl rfl) (pe_bm0 PySem.F.plainAttrs_list PySem.F.slot_list_pop PySem.F.type_list_pop mt_pop (VL.fldK K rfl (pv 0) rfl)))
  (pss_cons (ps_set (i := 2) sc_Reading_end_block.nd rfl (Or.inl rfl) (pe_bm0 PySem.F.plainAttrs_list PySem.F.slot_list_pop PySem.F.type_list_pop mt_pop (VL.fldK K rfl (pv 0) rfl)))
  (pss_one (ps_ret (pe_tup (VL.starK K rfl (pv 1) (pa_cons (pe_callTy (VL.tupleK K rfl) (by rfl) T.n_tuple (by decide +kernel) (pa_cons (pv 2) pa_nil)) pa_nil))))))), fn_runA0 (pM := [.s]) (M2 := [.s, .s]) rfl (fun H0 io av rt hrt => (vs_seq (vs_set (i := 1) (n_popC 3 rfl (q_fld T.cl_Reading T.n_Reading_starts (n_cell 3 rfl (q_var (i := 0) rfl)))) rfl (hrt 1 (by decide)))
  (vs_seq (vs_set (i := 2) (n_popC 3 rfl (q_fld T.cl_Reading T.n_Reading_blocks (n_cell 3 rfl (q_var (i := 0) rfl)))) rfl (hrt 2 (by decide)))
  (vs_ret (v_tup (va_star (VQ.e (q_var (i := 1) rfl)) (va_cons (v_caTq (vba_cons (n_cell 3 rfl (q_var (i := 2) rfl)) vba_nil) ct_tuple) va_nil))))))) (fun ds al ml Qv Qx hl hs => ?_) h⟩
  obtain ⟨a, b, s0, al, l, S, t, B, L, hd, ⟨cs, rd⟩, hS, hB, q⟩ := hs
  obtain ⟨rfl, rfl, rfl⟩ := ap1 hd
  obtain ⟨cs0, c, rfl, hk, hc⟩ := rd.blk.last
  have hac := rd.ac
  have hbc := rd.bc
  have hsc := rd.sc
  have hnd := rd.nd
  simp only [List.mem_append, List.mem_singleton, not_or] at hac hbc hsc
  rw [List.nodup_append] at hnd
  walk_at "vs"
  simp only [ex_mem, ex_mem0, ex_ref, true_and, rd.o, rd.bl, rd.st, gf_b, gf_s, Option.some.injEq, exists_eq_left', D.obj.injEq, and_assoc, exists_and_left, D.ref.injEq]
  refine ⟨S, .tup t, rfl, ?_⟩
  simp only [cellAt_set rd.st, if_neg rd.as_.symm, if_neg rd.bs.symm, ex_mem, ex_mem0, ex_ref, true_and, rd.o, rd.bl, rd.st, gf_b, gf_s, Option.some.injEq, exists_eq_left', D.obj.injEq, and_assoc, exists_and_left, D.ref.injEq]
  have cb : cellAt al (VL.cellSet al ml s0 (D.lst S)) b = some (.lst ((cs0 ++ [c]).map D.ref)) := by rw [cellAt_set rd.st, if_neg rd.bs.symm, rd.bl]
  refine ⟨cs0.map D.ref, .ref c, by rw [List.map_append]; rfl, t, .inl rfl, c, rfl, .lst L, ?_, ?_⟩
  · rw [cellAt_set cb, if_neg hbc.2, cellAt_set rd.st, if_neg hsc.2, hc]
  · rw [s_gSeqL]
    refine ⟨small ?_, q _ _ ⟨cs0, ?_⟩⟩
    · obtain ⟨w, t', e, ht⟩ := hS.2 (.tup t) (by simp)
      cases e
      simp
      omega
    constructor
    · rw [cellAt_set cb, if_neg rd.ab.symm, cellAt_set rd.st, if_neg rd.as_.symm, rd.o]
    · rw [cellAt_set cb, if_pos rfl]
    · rw [cellAt_set cb, if_neg rd.bs, cellAt_set rd.st, if_pos rfl]
    · exact (hk.set rd.st hsc.1).set cb hbc.1
    · exact rd.ab
    · exact rd.as_
    · exact rd.bs
    · exact hac.1
    · exact hbc.1
    · exact hsc.1
    · exact hnd.1
section
variable {C : Addr} {al : List Addr} {l : List D} {a b s c : Addr} {cs : List Addr} {S S' : List D} {B : List (List D)} {L L' : List D}
theorem RdAt.setS (h : RdAt C al l a b s cs S B) : RdAt C al (cellSet al l s (.lst S')) a b s cs S' B := by
  constructor
  · rw [cellAt_set h.st, if_neg h.as_.symm, h.o]
  · rw [cellAt_set h.st, if_neg h.bs.symm, h.bl]
  · rw [cellAt_set h.st, if_pos rfl]
  · exact h.blk.set h.st h.sc
  · exact h.ab
  · exact h.as_
  · exact h.bs
  · exact h.ac
  · exact h.bc
  · exact h.sc
  · exact h.nd
theorem RdAt.newB (h : RdAt C al l a b s cs S B) (hc : c ∉ al) : RdAt C (c :: al) (cellSet (c :: al) (.lst [] :: l) b (.lst (cs.map D.ref ++ [.ref c]))) a b s (cs ++ [c]) S (B ++ [[]]) := by
  have na : c ≠ a := fun z => hc (z ▸ cell_no h.o)
  have nb : c ≠ b := fun z => hc (z ▸ cell_no h.bl)
  have ns : c ≠ s := fun z => hc (z ▸ cell_no h.st)
  have nc : c ∉ cs := fun z => by
    obtain ⟨L, _, e⟩ := h.blk.mem z
    exact hc (cell_no e)
  have cb : cellAt (c :: al) (.lst [] :: l) b = some (.lst (cs.map D.ref)) := by rw [cellAt_new, if_neg nb, h.bl]
  constructor
  · rw [cellAt_set cb, if_neg h.ab.symm, cellAt_new, if_neg na, h.o]
  · rw [cellAt_set cb, if_pos rfl, List.map_append]
    rfl
  · rw [cellAt_set cb, if_neg h.bs, cellAt_new, if_neg ns, h.st]
  · exact ((h.blk.new hc).set cb h.bc).snoc (by rw [cellAt_set cb, if_neg nb.symm, cellAt_new, if_pos rfl])
  · exact h.ab
  · exact h.as_
  · exact h.bs
  · simp only [List.mem_append, List.mem_singleton, not_or]
    exact ⟨h.ac, na.symm⟩
  · simp only [List.mem_append, List.mem_singleton, not_or]
    exact ⟨h.bc, nb.symm⟩
  · simp only [List.mem_append, List.mem_singleton, not_or]
    exact ⟨h.sc, ns.symm⟩
  · rw [List.nodup_append]
    exact ⟨h.nd, by simp, fun x hx y hy => by
      have : y = c := by simpa using hy
      subst this
      exact fun z => nc (z ▸ hx)⟩
theorem RdAt.setB (h : RdAt C al l a b s (cs ++ [c]) S (B ++ [L])) : RdAt C al (cellSet al l c (.lst L')) a b s (cs ++ [c]) S (B ++ [L']) := by
  obtain ⟨cs0, c', e, hk, hc⟩ := h.blk.last
  obtain ⟨rfl, e2⟩ := List.append_inj' e rfl
  cases e2
  have hac := h.ac
  have hbc := h.bc
  have hsc := h.sc
  have hnd := h.nd
  simp only [List.mem_append, List.mem_singleton, not_or] at hac hbc hsc
  rw [List.nodup_append] at hnd
  constructor
  · rw [cellAt_set hc, if_neg (fun z => hac.2 z.symm), h.o]
  · rw [cellAt_set hc, if_neg (fun z => hbc.2 z.symm), h.bl]
  · rw [cellAt_set hc, if_neg (fun z => hsc.2 z.symm), h.st]
  · exact hk.set_last hc fun z => hnd.2.2 c z c (by simp) rfl
  · exact h.ab
  · exact h.as_
  · exact h.bs
  · exact h.ac
  · exact h.bc
  · exact h.sc
  · exact h.nd
theorem RdAt.last (h : RdAt C al l a b s cs S (B ++ [L])) : ∃ cs0 c, cs = cs0 ++ [c] ∧ cellAt al l c = some (.lst L) := by
  obtain ⟨cs0, c', e, hk, hc⟩ := h.blk.last
  exact ⟨cs0, c', e, hc⟩
theorem endS_eq {t : List D} : endS (S ++ [.tup t]) (B ++ [L]) = .tup (t ++ [.tup L]) := by simp [endS]
theorem otherD_eq {t : List D} : otherD (S ++ [.tup t]) (B ++ [L]) = if inArm (S ++ [.tup t]) then some (S ++ [.tup (t ++ [.tup L])], B ++ [[]]) else none := by simp [otherD, endS_eq]
theorem closeD_eq {t : List D} : closeD (S ++ [.tup t]) (B ++ [L'] ++ [L]) = if inArm (S ++ [.tup t]) then none else some (S, B ++ [L' ++ [.tup (t ++ [.tup L])]]) := by
  simp only [closeD, endS_eq, List.dropLast_concat, List.getLast?_concat, Option.getD_some]
  simp
end
theorem fNm : Str.ofString "in_first_arm" ∉ fN ∧ Str.ofString "end_block" ∉ fN ∧ Str.ofString "begin_other" ∉ fN ∧ Str.ofString "close" ∉ fN ∧ Str.ofString "take" ∉ fN := by decide
theorem two_last {α : Type} {B : List α} {n : Nat} (h : B.length = n + 1 + 1) : ∃ B0 x y, B = B0 ++ [x] ++ [y] := by
  rcases List.eq_nil_or_concat B with rfl | ⟨B, y, rfl⟩
  · simp at h
  rcases List.eq_nil_or_concat B with rfl | ⟨B, x, rfl⟩
  · simp at h
  · exact ⟨B, x, y, by simp⟩
theorem sc_Reading_begin_other : FnScope ["self"] ["self"] (defScope s_Reading_begin_other) := ⟨rfl, rfl, rfl, by decide +kernel, rfl, by decide +kernel, by decide +kernel⟩
theorem ok_Reading_begin_other (T : Top K w mg a_Reading a_BindError a_NoText a_SIGNS a_MODES a_WORDS a_SHAPES a_WITH_BLOCKS) : C8.Met P w K mg base 2 a_Reading "begin_other" (spA K [.s] .s (vpROther a_Reading)) [] := by
  have X_Reading_in_first_arm := ok_Reading_in_first_arm (P := P) (w := w) (base := base) T
  have X_Reading_end_block := ok_Reading_end_block (P := P) (w := w) (base := base) T
  obtain ⟨f, fd, F, M⟩ := T.h_Reading_begin_other
  refine ⟨f, fd, ["self"], [], T.cl_Reading, M, ?_, F.binds (fun _ _ _ _ _ _ us hl => match us, hl with | [_], _ => rfl), .nil⟩
  refine F.ok sc_Reading_begin_other (fun vs H Q E h => h.len) (fun cdv A outer s H vs Q E hr h => ?_)
  have hu := hu_of hr
  have hu64 : (A.deeper (envOfC "Reading.begin_other" (defScope s_Reading_begin_other) s.heap.objs.size f cdv)).units + 64 < cLine := by have := hr.un; omega
  have hu65 : (A.deeper (envOfC "Reading.begin_other" (defScope s_Reading_begin_other) s.heap.objs.size f cdv)).units + 65 < cLine := by have := hr.un; omega
  refine ⟨_, (pss_cons (ps_if (pt_not (pt_val (C8.pe_mt0 X_Reading_in_first_arm hr (by omega) (pv 0))))
    (pss_one (ps_ret pe_bl))
    pss_nil)
  (pss_cons (ps_expr (pe_bm PySem.F.plainAttrs_list PySem.F.slot_list_append PySem.F.type_list_append mt_append (VL.fldK K rfl (pv 0) rfl) (pa_cons (C8.pe_mt0 X_Reading_end_block hr (by omega) (pv 0)) pa_nil)))
  (pss_cons (ps_expr (pe_bm PySem.F.plainAttrs_list PySem.F.slot_list_append PySem.F.type_list_append mt_append (VL.fldK K rfl (pv 0) rfl) (pa_cons (pe_lst pa_nil) pa_nil)))
  (pss_one (ps_ret pe_bl))))), fn_runA0 (pM := [.s]) (M2 := []) rfl (fun H0 io av rt hrt => (vs_seq (vs_if (vt_not (vt_b (n_methA 1 rfl (q_var (i := 0) rfl) vax_nil trivial)))
    (vs_ret (VQ.e q_bl))
    vs_next)
  (vs_seq (vs_drop (n_appC 1 rfl (q_fld T.cl_Reading T.n_Reading_starts (n_cell 1 rfl (q_var (i := 0) rfl))) (n_methA 1 rfl (q_var (i := 0) rfl) vax_nil trivial)))
  (vs_seq (vs_drop (n_appC 1 rfl (q_fld T.cl_Reading T.n_Reading_blocks (n_cell 1 rfl (q_var (i := 0) rfl))) (n_cellL 1 rfl (v_lst va_nil))))
  (vs_ret (VQ.e q_bl)))))) (fun ds al ml Qv Qx hl hs => ?_) h⟩
  obtain ⟨a, b, s0, al, l, S, B, hd, rd, hS, hB, hl, q⟩ := hs
  obtain ⟨rfl, rfl, rfl⟩ := ap1 hd
  walk_at "vs"
  simp only [ex_mem, ex_mem0, ex_ref, true_and]
  have ⟨cs, rd0⟩ := rd
  refine ⟨_, _, rd0.o, fNm.1, a, b, s0, al, ml, S, B, rfl, rd, hS, hB, ?_⟩
  walk_at "vs"
  cases hi : inArm S with
  | false =>
    simp only [otherD, hi] at q
    walk_at "vs"
    exact q
  | true =>
    rcases List.eq_nil_or_concat S with rfl | ⟨S, d, rfl⟩
    · cases hi
    rw [List.concat_eq_append] at hi q hS rd hl rd0
    obtain ⟨w, t, rfl, ht⟩ := hS.2 d (by simp)
    rw [List.length_append] at hl
    obtain ⟨B, L', L, rfl⟩ := two_last hl
    rw [otherD_eq, hi, if_pos rfl] at q
    dsimp only at q
    walk_at "vs"
    simp only [ex_mem, ex_mem0, ex_ref, true_and, rd0.o, rd0.bl, rd0.st, gf_b, gf_s, Option.some.injEq, exists_eq_left', D.obj.injEq, and_assoc, exists_and_left, D.ref.injEq, D.lst.injEq, exists_eq']
    refine ⟨fNm.2.1, a, b, s0, al, ml, S, _, _, L, rfl, rd, hS, hB, fun al' l' rd' => ?_⟩
    obtain ⟨cs', rd1⟩ := rd'
    walk_at "vs"
    simp only [ex_mem, ex_mem0, ex_ref, true_and, rd1.o, rd1.bl, rd1.st, gf_b, gf_s, Option.some.injEq, exists_eq_left', D.obj.injEq, and_assoc, exists_and_left, D.ref.injEq, D.lst.injEq, exists_eq']
    have rd2 := rd1.setS (S' := S ++ [D.tup (D.str w :: (t ++ [D.tup L]))])
    refine ⟨Nat.lt_of_le_of_lt hS.init.1 (by decide), ?_⟩
    simp only [ex_mem, ex_mem0, ex_ref, true_and, rd2.o, rd2.bl, rd2.st, gf_b, gf_s, Option.some.injEq, exists_eq_left', D.obj.injEq, and_assoc, exists_and_left, D.ref.injEq, D.lst.injEq, exists_eq']
    intro a1 h1
    have nb : a1 ≠ b := fun z => h1 (z ▸ cell_no rd1.bl)
    refine ⟨_, by rw [cellAt_new, if_neg nb, rd2.bl], ?_, q _ _ ⟨_, rd2.newB h1⟩⟩
    have := hB.1
    have e := rd1.blk.len
    simp at this e ⊢
    rw [e]
    exact smallL (by omega)
theorem sc_Reading_close : FnScope ["self", "statement"] ["self"] (defScope s_Reading_close) := ⟨rfl, rfl, rfl, by decide +kernel, rfl, by decide +kernel, by decide +kernel⟩
theorem ok_Reading_close (T : Top K w mg a_Reading a_BindError a_NoText a_SIGNS a_MODES a_WORDS a_SHAPES a_WITH_BLOCKS) : C8.Met P w K mg base 2 a_Reading "close" (spA K [.s] .s (vpRClose a_Reading)) [] := by
  have X_Reading_end_block := ok_Reading_end_block (P := P) (w := w) (base := base) T
  have X_Reading_in_first_arm := ok_Reading_in_first_arm (P := P) (w := w) (base := base) T
  obtain ⟨f, fd, F, M⟩ := T.h_Reading_close
  refine ⟨f, fd, ["self"], [], T.cl_Reading, M, ?_, F.binds (fun _ _ _ _ _ _ us hl => match us, hl with | [_], _ => rfl), .nil⟩
  refine F.ok sc_Reading_close (fun vs H Q E h => h.len) (fun cdv A outer s H vs Q E hr h => ?_)
  have hu := hu_of hr
  have hu64 : (A.deeper (envOfC "Reading.close" (defScope s_Reading_close) s.heap.objs.size f cdv)).units + 64 < cLine := by have := hr.un; omega
  have hu65 : (A.deeper (envOfC "Reading.close" (defScope s_Reading_close) s.heap.objs.size f cdv)).units + 65 < cLine := by have := hr.un; omega
  refine ⟨_, (pss_cons (ps_if (PW.pt (pw_or (pt_not (VL.truK K rfl (VL.fldK K rfl (pv 0) rfl) (by intro _; rfl))) (pw_or1 (pt_val (C8.pe_mt0 X_Reading_in_first_arm hr (by omega) (pv 0))))))
    (pss_one (ps_ret pe_bl))
    pss_nil)
  (pss_cons (ps_set (i := 1) sc_Reading_close.nd rfl (Or.inl rfl) (C8.pe_mt0 X_Reading_end_block hr (by omega) (pv 0)))
  (pss_cons (ps_expr (pe_bm PySem.F.plainAttrs_list PySem.F.slot_list_append PySem.F.type_list_append mt_append (pe_ix (VL.ixL K rfl) (VL.fldK K rfl (pv 0) rfl) (pe_un un_neg pe_int) (fun _ _ => rfl)) (pa_cons (pv 1) pa_nil)))
  (pss_one (ps_ret pe_bl))))), fn_runA0 (pM := [.s]) (M2 := [.s]) rfl (fun H0 io av rt hrt => (vs_seq (vs_if (vt_or (vt_not (vt_truB (n_cell 2 rfl (q_fld T.cl_Reading T.n_Reading_starts (n_cell 2 rfl (q_var (i := 0) rfl)))))) (vt_b (n_methA 2 rfl (q_var (i := 0) rfl) vax_nil trivial)))
    (vs_ret (VQ.e q_bl))
    vs_next)
  (vs_seq (vs_set (i := 1) (n_methA 2 rfl (q_var (i := 0) rfl) vax_nil trivial) rfl (hrt 1 (by decide)))
  (vs_seq (vs_drop (n_appC 2 rfl (q_op (n_cell 2 rfl (q_fld T.cl_Reading T.n_Reading_blocks (n_cell 2 rfl (q_var (i := 0) rfl)))) (VQ.b (q_neg (VQ.b q_int))) od_ixL) (VQ.e (q_var (i := 1) rfl))))
  (vs_ret (VQ.e q_bl)))))) (fun ds al ml Qv Qx hl hs => ?_) h⟩
  obtain ⟨a, b, s0, al, l, S, B, hd, rd, hS, hB, hl, q⟩ := hs
  obtain ⟨rfl, rfl, rfl⟩ := ap1 hd
  walk_at "vs"
  have ⟨cs, rd0⟩ := rd
  simp only [ex_mem, ex_mem0, ex_ref, true_and, rd0.o, rd0.bl, rd0.st, gf_b, gf_s, Option.some.injEq, exists_eq_left', D.obj.injEq, and_assoc, exists_and_left, D.ref.injEq, D.lst.injEq, exists_eq', s_truL]
  rcases List.eq_nil_or_concat S with rfl | ⟨S, d, rfl⟩
  · simpa [closeD] using q
  rw [List.concat_eq_append] at q hS rd hl rd0 ⊢
  obtain ⟨w, t, rfl, ht⟩ := hS.2 d (by simp)
  rw [List.length_append] at hl
  obtain ⟨B, L', L, rfl⟩ := two_last hl
  rw [closeD_eq] at q
  rw [if_neg (by simp)]
  refine ⟨fNm.1, a, b, s0, al, ml, _, _, rfl, rd, hS, hB, ?_⟩
  walk_at "vs"
  cases hi : inArm (S ++ [D.tup (D.str w :: t)]) with
  | true =>
    rw [hi] at q
    walk_at "vs"
    exact q
  | false =>
    rw [hi] at q
    simp only [Bool.false_eq_true, if_false] at q
    walk_at "vs"
    simp only [ex_mem, ex_mem0, ex_ref, true_and, rd0.o, rd0.bl, rd0.st, gf_b, gf_s, Option.some.injEq, exists_eq_left', D.obj.injEq, and_assoc, exists_and_left, D.ref.injEq, D.lst.injEq, exists_eq']
    refine ⟨fNm.2.1, a, b, s0, al, ml, S, _, _, L, rfl, rd, hS, hB, fun al' l' rd' => ?_⟩
    obtain ⟨cs', rd1⟩ := rd'
    obtain ⟨cs1, c, rfl, hc⟩ := rd1.last
    walk_at "vs"
    simp only [ex_mem, ex_mem0, ex_ref, true_and, rd1.o, rd1.bl, rd1.st, gf_b, gf_s, Option.some.injEq, exists_eq_left', D.obj.injEq, and_assoc, exists_and_left, D.ref.injEq, D.lst.injEq, exists_eq', s_gIxL, List.map_append, List.map_cons, List.map_nil, atI_last, hc]
    exact ⟨Nat.lt_of_le_of_lt (hB.2 L' (by simp)) (by decide), q _ _ ⟨_, rd1.setB⟩⟩
/-- what a row does to a Reading: starts and blocks; none: it can't come here -/
def stepD (S : List D) (B : List (List D)) (w : Str) (rest : List Str) : Option (List D × List (List D)) :=
  if w = Str.ofString "else" ∧ rest = [] then otherD S B
  else if w = Str.ofString "end" ∧ rest = [] then closeD S B
  else if fitsB w rest then
    if w ∈ [Str.ofString "fn", Str.ofString "if", Str.ofString "while", Str.ofString "times"] then some (S ++ [startD w rest], B ++ [[]])
    else some (S, B.dropLast ++ [B.getLast?.getD [] ++ [startD w rest]])
  else none
def vpRTake (C : Addr) : VSp := fun ds Q _ => ∃ a b s al l S B w rest, ds = [.ref a, .lst ((w :: rest).map D.str), .mem al l] ∧ okWs w rest ∧ RdB C al l a b s S B ∧ okS S ∧ okB B ∧ B.length = S.length + 1 ∧ match stepD S B w rest with
  | some (S', B') => ∀ al' l', RdB C al' l' a b s S' B' → Q (.bl true) [none, none, some (.mem al' l')]
  | none => Q (.bl false) [none, none, some (.mem al l)]
theorem eqv_one (w : Str) (rest : List Str) (k : Str) : PyData.eqv (py (.lst (D.str w :: rest.map D.str))) (py (.lst [.str k])) = (decide (w = k) && rest.isEmpty) := by
  cases rest with
  | nil =>
    simp only [py, pys, PyData.eqv, PyData.eqvAll, List.map_nil, List.isEmpty_nil, Bool.and_true]
    first | rfl | (rw [Bool.eq_iff_iff, beq_iff_eq, decide_eq_true_iff]) | (by_cases h : w = k <;> simp [h])
  | cons z r => simp [py, pys, PyData.eqv, PyData.eqvAll]
theorem eqD_one {w : Str} {rest : List Str} {k : Str} {Q : D → Prop} (hw : okWs w rest) (hk : PyData.strOk k = true) (h : Q (.bl (decide (w = k) && rest.isEmpty))) : gEqD (.lst (D.str w :: rest.map D.str)) (.lst [.str k]) Q := by
  refine ⟨plain_strs (w :: rest), plain_strs [k], shaped_strs (w :: rest) (fun z hz => (hw.2 z hz).2), shaped_strs [k] (fun z hz => by rw [List.mem_singleton] at hz; rw [hz]; exact hk), ?_⟩
  rw [eqv_one]
  exact h
abbrev wB : List Str := [Str.ofString "fn", Str.ofString "if", Str.ofString "while", Str.ofString "times"]
theorem start_hd {w : Str} {rest : List Str} (h : fitsB w rest = true) : ∃ u t, startD w rest = .tup (.str u :: t) ∧ (u ∈ wB ↔ w ∈ wB) ∧ (w ∈ wB → u = w ∧ t.length ≤ 3) := by
  have n1 : Str.ofString "sum" ∉ wB := by decide +kernel
  have n2 : Str.ofString "let" ∉ wB := by decide +kernel
  have n3 : Str.ofString "call" ∉ wB := by decide +kernel
  unfold startD
  by_cases h1 : w = "let" ∧ rest.length = 4
  · rw [if_pos h1]
    obtain ⟨rfl, _⟩ := h1
    exact ⟨_, _, rfl, ⟨fun z => absurd z n1, fun z => absurd z n2⟩, fun z => absurd z n2⟩
  rw [if_neg h1]
  by_cases h2 : w = "fn"
  · rw [if_pos h2]
    exact ⟨_, _, rfl, Iff.rfl, fun _ => ⟨rfl, by simp⟩⟩
  rw [if_neg h2]
  by_cases h3 : w = "call"
  · rw [if_pos h3]
    exact ⟨_, _, rfl, Iff.rfl, fun _ => ⟨rfl, by simp⟩⟩
  rw [if_neg h3]
  refine ⟨_, _, rfl, Iff.rfl, fun hw => ⟨rfl, ?_⟩⟩
  have hl : shp w rest.length = some [97] ∨ shp w rest.length = some [109, 120, 97] := by
    simp only [wB, List.mem_cons, List.not_mem_nil, or_false] at hw
    rcases hw with e | e | e | e
    · exact absurd e h2
    · exact .inl (shp_one (.inr (.inr (.inl e))) _)
    · exact .inl (shp_one (.inr (.inr (.inr e))) _)
    · rw [e]
      exact .inr (shp_times _)
  unfold fitsB at h
  rcases hl with e | e <;> · rw [e] at h; simp only [Bool.and_eq_true, decide_eq_true_eq] at h; simp only [List.length_map, ← h.1]; decide
theorem sc_Reading_take : FnScope ["self", "words", "statement"] ["self", "words"] (defScope s_Reading_take) := ⟨rfl, rfl, rfl, by decide +kernel, rfl, by decide +kernel, by decide +kernel⟩
theorem ok_Reading_take (T : Top K w mg a_Reading a_BindError a_NoText a_SIGNS a_MODES a_WORDS a_SHAPES a_WITH_BLOCKS) : C8.Met P w K mg base 4 a_Reading "take" (spA K [.s, .s] .s (vpRTake a_Reading)) [] := by
  have C_started := ok_started (P := P) (w := w) (base := base) T
  have X_Reading_begin_other := ok_Reading_begin_other (P := P) (w := w) (base := base) T
  have X_Reading_close := ok_Reading_close (P := P) (w := w) (base := base) T
  have C_fits := ok_fits (P := P) (w := w) (base := base) T
  obtain ⟨f, fd, F, M⟩ := T.h_Reading_take
  refine ⟨f, fd, ["self", "words"], [], T.cl_Reading, M, ?_, F.binds (fun _ _ _ _ _ _ us hl => match us, hl with | [_, _], _ => rfl), .nil⟩
  refine F.ok sc_Reading_take (fun vs H Q E h => h.len) (fun cdv A outer s H vs Q E hr h => ?_)
  have hu := hu_of hr
  have hu64 : (A.deeper (envOfC "Reading.take" (defScope s_Reading_take) s.heap.objs.size f cdv)).units + 64 < cLine := by have := hr.un; omega
  have hu65 : (A.deeper (envOfC "Reading.take" (defScope s_Reading_take) s.heap.objs.size f cdv)).units + 65 < cLine := by have := hr.un; omega
  refine ⟨_, (pss_cons (ps_if (pt_cmpR (VL.eqDK K rfl hu64) (pv 1) (pe_lst (pa_cons pe_str pa_nil)) (nomark _))
    (pss_one (ps_ret (C8.pe_mt0 X_Reading_begin_other hr (by omega) (pv 0))))
    pss_nil)
  (pss_cons (ps_if (pt_cmpR (VL.eqDK K rfl hu64) (pv 1) (pe_lst (pa_cons pe_str pa_nil)) (nomark _))
    (pss_one (ps_ret (C8.pe_mt0 X_Reading_close hr (by omega) (pv 0))))
    pss_nil)
  (pss_cons (ps_if (pt_not (pt_val (C8.pe_c C_fits hr (by omega) rfl (pa_cons (pv 1) pa_nil))))
    (pss_one (ps_ret pe_bl))
    pss_nil)
  (pss_cons (ps_set (i := 2) sc_Reading_take.nd rfl (Or.inl rfl) (C8.pe_c C_started hr (by omega) rfl (pa_cons (pv 1) pa_nil)))
  (pss_cons (ps_if (pt_cmpR (VL.inK K rfl) (pe_ix (VL.ixT K rfl) (pv 2) pe_int (fun _ _ => rfl)) (C8.pe_gc rfl T.c_WITH_BLOCKS) (by rfl))
    (pss_cons (ps_expr (pe_bm PySem.F.plainAttrs_list PySem.F.slot_list_append PySem.F.type_list_append mt_append (VL.fldK K rfl (pv 0) rfl) (pa_cons (pv 2) pa_nil)))
  (pss_one (ps_expr (pe_bm PySem.F.plainAttrs_list PySem.F.slot_list_append PySem.F.type_list_append mt_append (VL.fldK K rfl (pv 0) rfl) (pa_cons (pe_lst pa_nil) pa_nil)))))
    (pss_one (ps_expr (pe_bm PySem.F.plainAttrs_list PySem.F.slot_list_append PySem.F.type_list_append mt_append (pe_ix (VL.ixL K rfl) (VL.fldK K rfl (pv 0) rfl) (pe_un un_neg pe_int) (fun _ _ => rfl)) (pa_cons (pv 2) pa_nil)))))
  (pss_one (ps_ret pe_bl))))))), fn_runA0 (pM := [.s, .s]) (M2 := [.s]) rfl (fun H0 io av rt hrt => (vs_seq (vs_if (vt_test (v_op (VQ.e (q_var (i := 1) rfl)) (VE.s (v_lst (va_cons (VQ.e q_str) va_nil))) od_eqD))
    (vs_ret (n_methA 3 rfl (q_var (i := 0) rfl) vax_nil trivial))
    vs_next)
  (vs_seq (vs_if (vt_test (v_op (VQ.e (q_var (i := 1) rfl)) (VE.s (v_lst (va_cons (VQ.e q_str) va_nil))) od_eqD))
    (vs_ret (n_methA 3 rfl (q_var (i := 0) rfl) vax_nil trivial))
    vs_next)
  (vs_seq (vs_if (vt_not (vt_b (v_call (va_cons (VQ.e (q_var (i := 1) rfl)) va_nil) (by simp))))
    (vs_ret (VQ.e q_bl))
    vs_next)
  (vs_seq (vs_set (i := 2) (v_call (va_cons (VQ.e (q_var (i := 1) rfl)) va_nil) (by simp)) rfl (hrt 2 (by decide)))
  (vs_seq (vs_if (vt_test (VQ.e (q_op (VQ.b (q_op (VQ.b (q_var (i := 2) rfl)) (VQ.b q_int) od_ixT)) (VQ.b (q_ktup T.w_WITH_BLOCKS)) od_in)))
    (vs_seq (vs_drop (n_appC 3 rfl (q_fld T.cl_Reading T.n_Reading_starts (n_cell 3 rfl (q_var (i := 0) rfl))) (VQ.e (q_var (i := 2) rfl))))
  (vs_drop (n_appC 3 rfl (q_fld T.cl_Reading T.n_Reading_blocks (n_cell 3 rfl (q_var (i := 0) rfl))) (n_cellL 3 rfl (v_lst va_nil)))))
    (vs_drop (n_appC 3 rfl (q_op (n_cell 3 rfl (q_fld T.cl_Reading T.n_Reading_blocks (n_cell 3 rfl (q_var (i := 0) rfl)))) (VQ.b (q_neg (VQ.b q_int))) od_ixL) (VQ.e (q_var (i := 2) rfl)))))
  (vs_ret (VQ.e q_bl)))))))) (fun ds al ml Qv Qx hl hs => ?_) h⟩
  obtain ⟨a, b, s0, al, l, S, B, w, rest, hd, hw, rd, hS, hB, hbs, q⟩ := hs
  obtain ⟨rfl, rfl, rfl⟩ := ap2 hd
  walk_at "vs"
  have ⟨cs, rd0⟩ := rd
  simp only [ex_mem, ex_mem0, ex_ref, true_and, rd0.o, rd0.bl, rd0.st, gf_b, gf_s, Option.some.injEq, exists_eq_left', D.obj.injEq, and_assoc, exists_and_left, D.ref.injEq, D.lst.injEq, exists_eq', s_truL]
  refine ⟨by decide, eqD_one hw (by decide +kernel) ?_⟩
  refine ⟨_, rfl, ?_⟩
  unfold stepD at q
  by_cases h1 : w = Str.ofString "else" ∧ rest = []
  · rw [if_pos h1] at q
    rw [if_pos (by simp [h1])]
    refine ⟨fNm.2.2.1, a, b, s0, al, ml, S, B, rfl, rd, hS, hB, hbs, ?_⟩
    cases hx : otherD S B with
    | none =>
      rw [hx] at q
      walk_at "vs"
      exact q
    | some p =>
      rw [hx] at q
      dsimp only at q ⊢
      intro al' l' rd'
      walk_at "vs"
      exact q _ _ rd'
  rw [if_neg h1] at q
  rw [if_neg (by simpa using h1)]
  refine ⟨by decide, eqD_one hw (by decide +kernel) ?_⟩
  refine ⟨_, rfl, ?_⟩
  by_cases h2 : w = Str.ofString "end" ∧ rest = []
  · rw [if_pos h2] at q
    rw [if_pos (by simp [h2])]
    refine ⟨fNm.2.2.2.1, a, b, s0, al, ml, S, B, rfl, rd, hS, hB, hbs, ?_⟩
    cases hx : closeD S B with
    | none =>
      rw [hx] at q
      walk_at "vs"
      exact q
    | some p =>
      rw [hx] at q
      dsimp only at q ⊢
      intro al' l' rd'
      walk_at "vs"
      exact q _ _ rd'
  rw [if_neg h2] at q
  rw [if_neg (by simpa using h2)]
  refine ⟨w, rest, rfl, hw, _, rfl, ?_⟩
  cases hf : fitsB w rest with
  | false =>
    rw [hf] at q
    exact q
  | true =>
    rw [hf] at q
    simp only [Bool.not_true, Bool.false_eq_true, if_false, if_true] at q ⊢
    refine ⟨w, rest, rfl, hw, hf, ?_⟩
    obtain ⟨u, t, e, hu, ht⟩ := start_hd hf
    rw [e] at q ⊢
    walk_at "vs"
    by_cases hb : w ∈ wB
    · rw [if_pos hb] at q
      rw [if_pos (decide_eq_true (hu.mpr hb))]
      refine ⟨Nat.lt_of_le_of_lt hS.1 (by decide), ?_⟩
      have rd2 := rd0.setS (S' := S ++ [D.tup (D.str u :: t)])
      simp only [ex_mem, ex_mem0, ex_ref, true_and, rd2.o, rd2.bl, rd2.st, gf_b, gf_s, Option.some.injEq, exists_eq_left', D.obj.injEq, and_assoc, exists_and_left, D.ref.injEq, D.lst.injEq, exists_eq']
      intro a1 h1
      have nb : a1 ≠ b := fun z => h1 (z ▸ cell_no rd0.bl)
      refine ⟨_, by rw [cellAt_new, if_neg nb, rd2.bl], ?_, q _ _ ⟨_, rd2.newB h1⟩⟩
      rw [List.length_map, rd0.blk.len]
      exact Nat.lt_of_le_of_lt hB.1 (by decide)
    · rw [if_neg hb] at q
      rw [if_neg (fun z => hb (hu.mp (of_decide_eq_true z)))]
      rcases List.eq_nil_or_concat B with rfl | ⟨B, L, rfl⟩
      · cases hbs
      rw [List.concat_eq_append] at q hB rd rd0
      obtain ⟨cs1, c, rfl, hc⟩ := rd0.last
      simp only [ex_mem, ex_mem0, ex_ref, true_and, Option.some.injEq, exists_eq_left', D.obj.injEq, and_assoc, exists_and_left, D.ref.injEq, D.lst.injEq, exists_eq', s_gIxL, List.map_append, List.map_cons, List.map_nil, atI_last, hc]
      rw [List.dropLast_concat, List.getLast?_concat] at q
      exact ⟨Nat.lt_of_le_of_lt (hB.2 L (by simp)) (by decide), q _ _ ⟨_, rd0.setB⟩⟩
end
end K10
set_option Elab.async false
set_option linter.all false
set_option maxRecDepth 100000
set_option maxHeartbeats 4000000
namespace K10
open PySem PySem.Spec PyProof.Rows L2 L2H HotX Fb VL
local macro_rules | `(tactic| walk_at "vs") => `(tactic| simp only [vCell, vDr, vFld, vAppC, vPopC, vSetF, vCallA, vCallAX, vCallX, vMakeA, vMethA, vRaise, vTry, vXf, vChain, vTru, s_truN, s_truB, s_truI, s_truS, s_truL, s_truT, vIsi, vIsiT, vStar, vListZip, vEnum, vZipSL, vPop, vExt, vSetIx, vSetIxC, vRep, s_vgLst, vKGet, s_gMulS, s_gBoolL, s_gStrS, s_gIntS, s_gStrA1, s_gStrA2, s_seqL, s_seqT, cuD_1, ioA, setC, newC, noC, putA, ex_cell, Option.join_some, List.drop_succ_cons, List.drop_zero, s_gInK, s_gInS, s_gIn2, s_gIn3, s_gIn4, s_gIn5, ex_par, vNeg, s_gAny, vCaTd, vOp2Lv, s_callIO, s_io, s_fill0, s_fillN, s_fillS, s_putIO, s_wio0, s_wioN, s_wioS, s_give0, s_giveN, s_giveS, s_giveM, Option.map_some, s_seq, s_next, s_break, s_cont, s_set, s_ret, s_retN, s_drop, s_ifS, s_for, s_asg, s_par, s_var, s_c, s_op2, s_op2L, s_op2T, s_ca, s_caL, s_caT, s_nil, s_cons, s_tup, s_lst, s_test, s_and, s_or, s_not, s_if, s_andV, s_orV, s_notV, s_no, s_part, s_sl, s_slL, s_slT, s_ls, s_ts, s_sgs, s_rng1, s_rng2, s_gName, s_gNil, s_gCons, s_gTup, s_lc, s_yes, s_append, s_call, s_dget, s_get2, s_pNil, s_pCons, s_disp, s_m1, s_split, s_indexD, s_w1, s_w2, s_isStr, s_gI, s_gI0, s_gAddS, s_gS, s_gSg, s_gEqI, s_gEqS, s_gEqB, s_gEqNI, s_gEqIS, s_gEqSI, s_gNeI, s_gNeS, s_gIsN, s_gNotN, s_isNon0, s_isNonI, s_isNonS, s_isNonT, s_isNonL, s_gIxL, s_gIxT, s_gIxS, s_gCat, s_gCatT, s_gSlL, s_gSlT, s_gSlS, s_gLenL, s_gLenT, s_gLenS, s_gSum, s_gI2, s_gInt1, s_gInt1b, s_gStrI, s_gAll, s_gSeqL, s_gSeqT, s_gDGet, s_gGet2, s_kDs, s_kDi, s_ioN, s_ioS, s_ioL, s_ioD, s_ioO, s_nones0, s_nones1, List.map_cons, List.map_nil, List.cons_append, List.nil_append, List.append_nil, List.append_assoc, List.getElem?_cons_zero, List.getElem?_cons_succ, List.set_cons_zero, List.set_cons_succ, Option.some.injEq, exists_eq_left', exists_eq_left, D.int.injEq, D.str.injEq, D.tup.injEq, D.lst.injEq, D.bl.injEq, D.dct.injEq, and_true, true_and, List.length_cons, List.length_nil, exists_and_left, exists_eq, Bool.not_true, Bool.not_false, exists_eq', Nat.zero_le, atI_0, atI_1, atI_2, atI_3, atI_4, atI_5, s_gInD, if_true, if_false, Bool.false_eq_true, Nat.reduceAdd])
local macro_rules | `(tactic| walk_at "v1") => `(tactic| simp only [vCell, vDr, vFld, vAppC, vPopC, vSetF, vCallA, vCallAX, vCallX, vMakeA, vMethA, vRaise, vTry, vXf, vChain, vTru, s_truN, s_truB, s_truI, s_truS, s_truL, s_truT, vIsi, vIsiT, vStar, vListZip, vEnum, vZipSL, vPop, vExt, vSetIx, vSetIxC, vRep, s_vgLst, vKGet, s_gMulS, s_gBoolL, s_gStrS, s_gIntS, s_gStrA1, s_gStrA2, s_seqL, s_seqT, cuD_1, ioA, setC, newC, noC, putA, ex_cell, Option.join_some, List.drop_succ_cons, List.drop_zero, s_gInK, s_gInS, s_gIn2, s_gIn3, s_gIn4, s_gIn5, ex_par, vNeg, s_gAny, vCaTd, vOp2Lv, s_callIO, s_io, s_fill0, s_fillN, s_fillS, s_putIO, s_wio0, s_wioN, s_wioS, s_give0, s_giveN, s_giveS, s_giveM, Option.map_some, s_seq, s_next, s_break, s_cont, s_set, s_ret, s_retN, s_drop, s_for, s_asg, s_par, s_var, s_c, s_op2, s_op2L, s_op2T, s_ca, s_caL, s_caT, s_nil, s_cons, s_tup, s_lst, s_test, s_and, s_or, s_not, s_if, s_andV, s_orV, s_notV, s_no, s_part, s_sl, s_slL, s_slT, s_ls, s_ts, s_sgs, s_rng1, s_rng2, s_gName, s_gNil, s_gCons, s_gTup, s_lc, s_yes, s_append, s_call, s_dget, s_get2, s_pNil, s_pCons, s_disp, s_m1, s_split, s_indexD, s_w1, s_w2, s_isStr, s_gI, s_gI0, s_gAddS, s_gS, s_gSg, s_gEqI, s_gEqS, s_gEqB, s_gEqNI, s_gEqIS, s_gEqSI, s_gNeI, s_gNeS, s_gIsN, s_gNotN, s_isNon0, s_isNonI, s_isNonS, s_isNonT, s_isNonL, s_gIxL, s_gIxT, s_gIxS, s_gCat, s_gCatT, s_gSlL, s_gSlT, s_gSlS, s_gLenL, s_gLenT, s_gLenS, s_gSum, s_gI2, s_gInt1, s_gInt1b, s_gStrI, s_gAll, s_gSeqL, s_gSeqT, s_gDGet, s_gGet2, s_kDs, s_kDi, s_ioN, s_ioS, s_ioL, s_ioD, s_ioO, s_nones0, s_nones1, List.map_cons, List.map_nil, List.cons_append, List.nil_append, List.append_nil, List.append_assoc, List.getElem?_cons_zero, List.getElem?_cons_succ, List.set_cons_zero, List.set_cons_succ, Option.some.injEq, exists_eq_left', exists_eq_left, D.int.injEq, D.str.injEq, D.tup.injEq, D.lst.injEq, D.bl.injEq, D.dct.injEq, and_true, true_and, List.length_cons, List.length_nil, exists_and_left, exists_eq, Bool.not_true, Bool.not_false, exists_eq', Nat.zero_le, atI_0, atI_1, atI_2, atI_3, atI_4, atI_5, s_gInD, if_true, if_false, Bool.false_eq_true, Nat.reduceAdd])
section
variable {P : Program} {w : World} {K : PySem.W.Frag} {mg : Str → Option Value} {base : Heap} {a_Reading a_BindError a_NoText a_SIGNS a_MODES a_WORDS a_SHAPES a_WITH_BLOCKS : Addr}
/-! ### a text read -/
def rowsOf (z : Str) : List Str := if z.length = 0 then [] else Txt.split z (Str.ofString "\n")
def runD : Nat → List D → List (List D) → List Str → Except Nat (List D × List (List D))
  | _, S, B, [] => .ok (S, B)
  | i, S, B, r :: rs => match Txt.split r (Str.ofString " ") with
    | [] => .error i
    | w :: rest => match stepD S B w rest with
      | none => .error i
      | some (S', B') => runD (i + 1) S' B' rs
def readD (rows : List Str) : Except Nat D := match runD 0 [] [[]] rows with
  | .error i => .error i
  | .ok (S, B) => if S = [] then .ok (.tup (B.headD [])) else .error rows.length
def okRow (r : Str) : Prop := ∃ w rest, Txt.split r (Str.ofString " ") = w :: rest ∧ okWs w rest ∧ r.length ≤ 90000
def okRows (rows : List Str) : Prop := rows.length ≤ 5000 ∧ ∀ r ∈ rows, okRow r
structure Inv (n : Nat) (S : List D) (B : List (List D)) : Prop where
  s : S.length ≤ n
  b : B.length = S.length + 1
  t : ∀ d ∈ S, ∃ w t, d = .tup (.str w :: t) ∧ t.length ≤ 4
  l : ∀ L ∈ B, L.length ≤ n
theorem Inv.okS {n : Nat} {S : List D} {B : List (List D)} (h : Inv n S B) (hn : n ≤ 90000) : okS S := ⟨by have := h.s; omega, h.t⟩
theorem Inv.okB {n : Nat} {S : List D} {B : List (List D)} (h : Inv n S B) (hn : n ≤ 90000) : okB B := ⟨by have := h.s; have := h.b; omega, fun L hL => by have := h.l L hL; omega⟩
theorem Inv.nil : Inv 0 [] [[]] := ⟨by simp, by simp, by simp, by simp⟩
theorem Inv.cut {n : Nat} {S : List D} {B : List (List D)} (h : Inv n S B) : B = [] → False := fun z => by have := h.b; rw [z] at this; simp at this
theorem Inv.step {n : Nat} {S S' : List D} {B B' : List (List D)} {w : Str} {rest : List Str} (h : Inv n S B) (e : stepD S B w rest = some (S', B')) : Inv (n + 1) S' B' := by
  unfold stepD at e
  by_cases h1 : w = Str.ofString "else" ∧ rest = []
  · rw [if_pos h1] at e
    rcases List.eq_nil_or_concat S with rfl | ⟨S, d, rfl⟩
    · simp [otherD, inArm] at e
    rw [List.concat_eq_append] at h e
    obtain ⟨u, t, rfl, ht⟩ := h.t d (by simp)
    have hb := h.b
    rw [List.length_append] at hb
    obtain ⟨B, L', L, rfl⟩ := two_last hb
    rw [otherD_eq] at e
    split at e
    · rename_i hi
      rw [inArm_snoc] at hi
      simp only [Bool.and_eq_true, decide_eq_true_eq] at hi
      cases e
      have hs := h.s
      refine ⟨by simp at hs ⊢; omega, by simp at hb ⊢; omega, fun d hd => ?_, fun L hL => ?_⟩
      · rcases List.mem_append.mp hd with z | z
        · exact h.t d (by simp [z])
        · rw [List.mem_singleton] at z
          exact ⟨u, t ++ [.tup _], by rw [z]; rfl, by simp [hi.2]⟩
      · rcases List.mem_append.mp hL with z | z
        · have := h.l L (List.mem_append.mpr (.inl z))
          omega
        · rw [List.mem_singleton] at z
          rw [z]
          simp
    · cases e
  rw [if_neg h1] at e
  by_cases h2 : w = Str.ofString "end" ∧ rest = []
  · rw [if_pos h2] at e
    rcases List.eq_nil_or_concat S with rfl | ⟨S, d, rfl⟩
    · simp [closeD] at e
    rw [List.concat_eq_append] at h e
    obtain ⟨u, t, rfl, ht⟩ := h.t d (by simp)
    have hb := h.b
    rw [List.length_append] at hb
    obtain ⟨B, L', L, rfl⟩ := two_last hb
    rw [closeD_eq] at e
    split at e
    · cases e
    · cases e
      have hs := h.s
      refine ⟨by simp at hs ⊢; omega, by simp at hb ⊢; omega, fun d hd => h.t d (by simp [hd]), fun L hL => ?_⟩
      rcases List.mem_append.mp hL with z | z
      · have := h.l L (by simp [z])
        omega
      · rw [List.mem_singleton] at z
        have := h.l L' (by simp)
        rw [z]
        simp
        omega
  rw [if_neg h2] at e
  split at e
  · rename_i hf
    obtain ⟨u, t, e3, hu, ht⟩ := start_hd hf
    split at e
    · rename_i hw
      cases e
      have hs := h.s
      have hb := h.b
      refine ⟨by simp; omega, by simp; omega, fun d hd => ?_, fun L hL => ?_⟩
      · rcases List.mem_append.mp hd with z | z
        · exact h.t d z
        · rw [List.mem_singleton] at z
          have := (ht hw).2
          exact ⟨u, t, by rw [z, e3], by omega⟩
      · rcases List.mem_append.mp hL with z | z
        · have := h.l L z
          omega
        · rw [List.mem_singleton] at z
          rw [z]
          simp
    · cases e
      rcases List.eq_nil_or_concat B with rfl | ⟨B, L0, rfl⟩
      · exact (h.cut rfl).elim
      rw [List.concat_eq_append] at h ⊢
      have hs := h.s
      have hb := h.b
      rw [List.dropLast_concat, List.getLast?_concat]
      refine ⟨by omega, by simp at hb ⊢; omega, h.t, fun L hL => ?_⟩
      rcases List.mem_append.mp hL with z | z
      · have := h.l L (by simp [z])
        omega
      · rw [List.mem_singleton] at z
        have := h.l L0 (by simp)
        rw [z]
        simp
        omega
  · cases e
def idxD : Nat → List Str → List D
  | _, [] => []
  | i, r :: rs => .tup [.int i, .str r] :: idxD (i + 1) rs
theorem mapIdx_idx : ∀ (rs : List Str) (i : Nat), (rs.map D.str).mapIdx (fun k d => .tup [.int ((k + i : Nat) : Int), d]) = idxD i rs
  | [], _ => rfl
  | r :: rs, i => by
    rw [List.map_cons, List.mapIdx_cons, idxD, ← mapIdx_idx rs (i + 1)]
    congr 1
    · simp
    · congr 1
      funext k d
      rw [show k + 1 + i = k + (i + 1) by omega]
theorem mapIdx_0 (rs : List Str) : (rs.map D.str).mapIdx (fun k d => D.tup [.int (k : Int), d]) = idxD 0 rs := mapIdx_idx rs 0
def vpRead (C : Addr) : VSp := fun ds Q E => ∃ z, ds = [.str z] ∧ z.length ≤ 90000 ∧ okRows (rowsOf z) ∧ match readD (rowsOf z) with
  | .ok d => Q d [none]
  | .error n => E ⟨C, [Str.ofString "row"], [.int n]⟩ [none]
theorem nl1 : ((Str.ofString "\n").length == 0) = false := by decide +kernel
theorem sp1 : ((Str.ofString " ").length == 0) = false := by decide +kernel
theorem sc_read : FnScope ["text", "rows", "reading", "at", "row"] ["text"] (defScope s_read) := ⟨rfl, rfl, rfl, by decide +kernel, rfl, by decide +kernel, by decide +kernel⟩
theorem ok_read (T : Top K w mg a_Reading a_BindError a_NoText a_SIGNS a_MODES a_WORDS a_SHAPES a_WITH_BLOCKS) : CalX P w K mg base 6 "read" (spOf K [.s] .s (vpRead a_NoText)) := by
  have M_Reading := ok_Reading___init__ (P := P) (w := w) (base := base) T
  have N_NoText := mk_NoText (P := P) (w := w) (base := base) T
  have X_Reading_take := ok_Reading_take (P := P) (w := w) (base := base) T
  obtain ⟨f, fd, F, gm⟩ := T.h_read
  refine ⟨f, fd, ["text"], ?_, gm, F.kp, F.binds (fun _ _ _ _ _ _ us hl => match us, hl with | [_], _ => rfl)⟩
  refine okN F sc_read (fun vs H Q E h => h.len) (fun cdv A outer s H vs Q E hr h => ?_)
  have hu := hu_of hr
  have hu64 : (A.deeper (envOfC "read" (defScope s_read) s.heap.objs.size f cdv)).units + 64 < cLine := by have := hr.un; omega
  have hu65 : (A.deeper (envOfC "read" (defScope s_read) s.heap.objs.size f cdv)).units + 65 < cLine := by have := hr.un; omega
  refine ⟨_, (pss_cons (ps_set (i := 1) sc_read.nd rfl (Or.inl rfl) (pe_ifExp (VL.truK K rfl (pv 0) (by intro _; rfl)) (pe_split (pv 0) pe_str) (pe_lst pa_nil)))
  (pss_cons (ps_set (i := 2) sc_read.nd rfl (Or.inl rfl) (VL.pe_mk0 M_Reading hr (by omega) rfl))
  (pss_cons (ps_for (passes_of rfl) rfl (VL.enumK K rfl rfl T.n_enumerate (pa_cons (pv 1) pa_nil)) (VL.tupTK K rfl (n := 2) rfl (pgs_cons (pg_name (i := 3) sc_read.nd rfl (Or.inl rfl)) (pgs_cons (pg_name (i := 4) sc_read.nd rfl (Or.inl rfl)) pgs_nil)))
    (pss_one (ps_if (pt_not (pt_val (C8.pe_mt X_Reading_take hr (by omega) (pv 2) (pa_cons (pe_split (pv 4) pe_str) pa_nil))))
    (pss_one (L2N.ps_raise rfl (L2N.takes_of rfl rfl rfl rfl) (Fb.pmk_N N_NoText hr (by omega) rfl (pa_cons (pv 3) pa_nil))))
    pss_nil)))
  (pss_cons (ps_if (VL.truK K rfl (VL.fldK K rfl (pv 2) rfl) (by intro _; rfl))
    (pss_one (L2N.ps_raise rfl (L2N.takes_of rfl rfl rfl rfl) (Fb.pmk_N N_NoText hr (by omega) rfl (pa_cons (pe_callB (VL.lenK K rfl) (by rfl) T.n_len (by decide +kernel) (pa_cons (pv 1) pa_nil)) pa_nil))))
    pss_nil)
  (pss_one (ps_ret (pe_callTy (VL.tupleK K rfl) (by rfl) T.n_tuple (by decide +kernel) (pa_cons (pe_ix (VL.ixL K rfl) (VL.fldK K rfl (pv 2) rfl) pe_int (fun _ _ => rfl)) pa_nil)))))))), fn_runM (W := fun cls d _ H => E cls d H) (exV := fun Qx x e => Qx x (ioP [.s] e)) (pM := [.s]) (M2 := [.s, .s, .s, .s]) rfl (fun H0 io av rt hrt => (vs_seq (vs_set (i := 1) (VE.s (v_if (vt_truB (VQ.b (q_var (i := 0) rfl))) (v_split (VQ.e (q_var (i := 0) rfl)) (VQ.e q_str)) (v_lst va_nil))) rfl (hrt 1 (by decide)))
  (vs_seq (vs_set (i := 2) (n_makeA 5 rfl vax_nil trivial) rfl (hrt 2 (by decide)))
  (vs_seq (vs_for (vi_enum (va_cons (VQ.e (q_var (i := 1) rfl)) va_nil)) (vg_tup (vg_cons (vg_name (i := 3) rfl (hrt 3 (by decide))) (vg_cons (vg_name (i := 4) rfl (hrt 4 (by decide))) vg_nil)))
    (vs_if (vt_not (vt_b (n_methA 5 rfl (q_var (i := 2) rfl) (vax_cons (VE.s (v_split (VQ.e (q_var (i := 4) rfl)) (VQ.e q_str))) vax_nil) ⟨rfl, trivial⟩)))
    (vs_raise T.ox_NoText T.xf_NoText (by decide) (va_cons (VQ.e (q_var (i := 3) rfl)) va_nil))
    vs_next))
  (vs_seq (vs_if (vt_truB (n_cell 5 rfl (q_fld T.cl_Reading T.n_Reading_starts (n_cell 5 rfl (q_var (i := 2) rfl)))))
    (vs_raise T.ox_NoText T.xf_NoText (by decide) (va_cons (VQ.e (q_ca (vba_cons (VQ.b (q_var (i := 1) rfl)) vba_nil) cd_len)) va_nil))
    vs_next)
  (vs_ret (v_caTq (vba_cons (n_cell 5 rfl (q_op (n_cell 5 rfl (q_fld T.cl_Reading T.n_Reading_blocks (n_cell 5 rfl (q_var (i := 2) rfl)))) (VQ.b q_int) od_ixL)) vba_nil) ct_tuple))))))) (fun Qx c T x d σ e H1 hM r y q k => k _ rfl q) (fun ds Qv Qx hl hs => ?_) h⟩
  obtain ⟨z, rfl, hz, hrows, q⟩ := hs
  walk_at "vs"
  refine ⟨small (by omega), ?_⟩
  by_cases hz0 : z.length = 0
  · have er : rowsOf z = [] := by rw [rowsOf, if_pos hz0]
    rw [er] at q
    rw [if_neg (by simp [hz0])]
    refine ⟨_, _, rfl, fun a _ => ?_⟩
    refine ⟨a, _, _, rfl, by rw [cellAt_new, if_pos rfl], fun al' l' b s0 ⟨cs, rd⟩ => ⟨rfl, ?_⟩⟩
    walk_at "vs"
    refine ⟨_, rfl, ?_⟩
    rw [show List.mapIdx (fun i d => D.tup [D.int (i : Int), d]) ([] : List D) = [] from rfl, s_forNil]
    walk_at "vs"
    obtain ⟨cs1, c, rfl, hc⟩ := RdAt.last (B := []) rd
    have e1 := rd.blk.len
    simp at e1
    subst e1
    simp only [ex_mem, ex_mem0, ex_ref, true_and, rd.o, rd.bl, rd.st, gf_b, gf_s, Option.some.injEq, exists_eq_left', D.obj.injEq, and_assoc, exists_and_left, D.ref.injEq, D.lst.injEq, exists_eq', s_truL]
    rw [if_neg (by simp)]
    simp only [List.nil_append, List.map_cons, List.map_nil, s_gIxL, atI_0, Option.some.injEq, exists_eq_left', D.ref.injEq, hc, s_gSeqL]
    exact q
  · have er : rowsOf z = Txt.split z (Str.ofString "\n") := by rw [rowsOf, if_neg hz0]
    rw [if_pos (by simp [hz0]), ← er]
    refine ⟨nl1, small (by omega), _, _, rfl, fun a _ => ?_⟩
    refine ⟨a, _, _, rfl, by rw [cellAt_new, if_pos rfl], fun al' l' b s0 rd => ⟨rfl, ?_⟩⟩
    walk_at "vs"
    refine ⟨_, rfl, ?_⟩
    rw [mapIdx_0]
    refine for_inv (α := Nat) (fun ds e => ∃ i rs S B al l e3 e4, ds = idxD i rs ∧ e = [some (.str z), some (.lst (List.map D.str (rowsOf z))), some (.ref a), e3, e4, some (.mem al l)] ∧ RdB a_Reading al l a b s0 S B ∧ Inv i S B ∧ i + rs.length = (rowsOf z).length ∧ (∀ r ∈ rs, r ∈ rowsOf z) ∧ runD i S B rs = runD 0 [] [[]] (rowsOf z)) ?_ ?_ _ _ ?_
    · rintro d ds e ⟨i, rs, S, B, al, l, e3, e4, e1, rfl, rd, inv, hi, hm, hr⟩ K hK
      match rs, e1 with
      | r :: rs, e1 =>
      rw [idxD] at e1
      obtain ⟨rfl, rfl⟩ := List.cons.inj e1
      walk_at "vs"
      have ⟨cs, rd0⟩ := rd
      simp only [ex_mem, ex_mem0, ex_ref, true_and, rd0.o, rd0.bl, rd0.st, gf_b, gf_s, Option.some.injEq, exists_eq_left', D.obj.injEq, and_assoc, exists_and_left, D.ref.injEq, D.lst.injEq, exists_eq', s_truL]
      obtain ⟨w, rest, ew, hw, hrl⟩ := hrows.2 r (hm r (by simp))
      have hi5 : i ≤ 90000 := by have := hrows.1; simp at hi; omega
      refine ⟨fNm.2.2.2.2, sp1, small (by omega), a, b, s0, al, l, S, B, w, rest, by rw [ew], hw, rd, inv.okS hi5, inv.okB hi5, inv.b, ?_⟩
      rw [runD, ew] at hr
      dsimp only at hr
      cases hst : stepD S B w rest with
      | none =>
        rw [hst] at hr
        dsimp only at hr ⊢
        walk_at "vs"
        rw [readD, ← hr] at q
        exact ⟨rfl, q⟩
      | some p =>
        obtain ⟨S', B'⟩ := p
        rw [hst] at hr
        dsimp only at hr ⊢
        intro al' l' rd'
        walk_at "vs"
        exact hK _ ⟨i + 1, rs, S', B', al', l', _, _, rfl, rfl, rd', inv.step hst, by simp at hi; omega, fun r hr => hm r (by simp [hr]), hr⟩
    · rintro e ⟨i, rs, S, B, al, l, e3, e4, e1, rfl, rd, inv, hi, hm, hr⟩
      walk_at "vs"
      match rs, e1 with
      | [], e1 =>
      have ⟨cs, rd0⟩ := rd
      simp only [ex_mem, ex_mem0, ex_ref, true_and, rd0.o, rd0.bl, rd0.st, gf_b, gf_s, Option.some.injEq, exists_eq_left', D.obj.injEq, and_assoc, exists_and_left, D.ref.injEq, D.lst.injEq, exists_eq', s_truL]
      rw [runD] at hr
      rw [readD, ← hr] at q
      dsimp only at q
      by_cases hS : S = []
      · subst hS
        rw [if_pos rfl] at q
        rw [if_neg (by simp)]
        have hb := inv.b
        match B, hb with
        | [L], _ =>
        obtain ⟨cs1, c, rfl, hc⟩ := RdAt.last (B := []) rd0
        have e1 := rd0.blk.len
        simp at e1
        subst e1
        simp only [List.nil_append, List.map_cons, List.map_nil, s_gIxL, atI_0, Option.some.injEq, exists_eq_left', D.ref.injEq, hc, s_gSeqL]
        exact q
      · rw [if_neg hS] at q
        rw [if_pos (by simpa using hS)]
        refine ⟨rfl, ?_⟩
        rw [List.length_map]
        exact q
    · exact ⟨0, rowsOf z, [], [[]], _, _, _, _, rfl, rfl, rd, Inv.nil, by simp, fun _ h => h, rfl⟩
end
end K10
set_option Elab.async false
set_option linter.all false
set_option maxRecDepth 100000
set_option maxHeartbeats 4000000
namespace K10
open PySem PySem.Spec PyProof.Rows L2 L2H HotX Fb VL
local macro_rules | `(tactic| walk_at "vs") => `(tactic| simp only [vCell, vDr, vFld, vAppC, vPopC, vSetF, vCallA, vCallAX, vCallX, vMakeA, vMethA, vRaise, vTry, vXf, vChain, vTru, s_truN, s_truB, s_truI, s_truS, s_truL, s_truT, vIsi, vIsiT, vStar, vListZip, vEnum, vZipSL, vPop, vExt, vSetIx, vSetIxC, vRep, s_vgLst, vKGet, s_gMulS, s_gBoolL, s_gStrS, s_gIntS, s_gStrA1, s_gStrA2, s_seqL, s_seqT, cuD_1, ioA, setC, newC, noC, putA, ex_cell, Option.join_some, List.drop_succ_cons, List.drop_zero, s_gInK, s_gInS, s_gIn2, s_gIn3, s_gIn4, s_gIn5, ex_par, vNeg, s_gAny, vCaTd, vOp2Lv, s_callIO, s_io, s_fill0, s_fillN, s_fillS, s_putIO, s_wio0, s_wioN, s_wioS, s_give0, s_giveN, s_giveS, s_giveM, Option.map_some, s_seq, s_next, s_break, s_cont, s_set, s_ret, s_retN, s_drop, s_ifS, s_for, s_asg, s_par, s_var, s_c, s_op2, s_op2L, s_op2T, s_ca, s_caL, s_caT, s_nil, s_cons, s_tup, s_lst, s_test, s_and, s_or, s_not, s_if, s_andV, s_orV, s_notV, s_no, s_part, s_sl, s_slL, s_slT, s_ls, s_ts, s_sgs, s_rng1, s_rng2, s_gName, s_gNil, s_gCons, s_gTup, s_lc, s_yes, s_append, s_call, s_dget, s_get2, s_pNil, s_pCons, s_disp, s_m1, s_split, s_indexD, s_w1, s_w2, s_isStr, s_gI, s_gI0, s_gAddS, s_gS, s_gSg, s_gEqI, s_gEqS, s_gEqB, s_gEqNI, s_gEqIS, s_gEqSI, s_gNeI, s_gNeS, s_gIsN, s_gNotN, s_isNon0, s_isNonI, s_isNonS, s_isNonT, s_isNonL, s_gIxL, s_gIxT, s_gIxS, s_gCat, s_gCatT, s_gSlL, s_gSlT, s_gSlS, s_gLenL, s_gLenT, s_gLenS, s_gSum, s_gI2, s_gInt1, s_gInt1b, s_gStrI, s_gAll, s_gSeqL, s_gSeqT, s_gDGet, s_gGet2, s_kDs, s_kDi, s_ioN, s_ioS, s_ioL, s_ioD, s_ioO, s_nones0, s_nones1, List.map_cons, List.map_nil, List.cons_append, List.nil_append, List.append_nil, List.append_assoc, List.getElem?_cons_zero, List.getElem?_cons_succ, List.set_cons_zero, List.set_cons_succ, Option.some.injEq, exists_eq_left', exists_eq_left, D.int.injEq, D.str.injEq, D.tup.injEq, D.lst.injEq, D.bl.injEq, D.dct.injEq, and_true, true_and, List.length_cons, List.length_nil, exists_and_left, exists_eq, Bool.not_true, Bool.not_false, exists_eq', Nat.zero_le, atI_0, atI_1, atI_2, atI_3, atI_4, atI_5, s_gInD, if_true, if_false, Bool.false_eq_true, Nat.reduceAdd])
local macro_rules | `(tactic| walk_at "v1") => `(tactic| simp only [vCell, vDr, vFld, vAppC, vPopC, vSetF, vCallA, vCallAX, vCallX, vMakeA, vMethA, vRaise, vTry, vXf, vChain, vTru, s_truN, s_truB, s_truI, s_truS, s_truL, s_truT, vIsi, vIsiT, vStar, vListZip, vEnum, vZipSL, vPop, vExt, vSetIx, vSetIxC, vRep, s_vgLst, vKGet, s_gMulS, s_gBoolL, s_gStrS, s_gIntS, s_gStrA1, s_gStrA2, s_seqL, s_seqT, cuD_1, ioA, setC, newC, noC, putA, ex_cell, Option.join_some, List.drop_succ_cons, List.drop_zero, s_gInK, s_gInS, s_gIn2, s_gIn3, s_gIn4, s_gIn5, ex_par, vNeg, s_gAny, vCaTd, vOp2Lv, s_callIO, s_io, s_fill0, s_fillN, s_fillS, s_putIO, s_wio0, s_wioN, s_wioS, s_give0, s_giveN, s_giveS, s_giveM, Option.map_some, s_seq, s_next, s_break, s_cont, s_set, s_ret, s_retN, s_drop, s_for, s_asg, s_par, s_var, s_c, s_op2, s_op2L, s_op2T, s_ca, s_caL, s_caT, s_nil, s_cons, s_tup, s_lst, s_test, s_and, s_or, s_not, s_if, s_andV, s_orV, s_notV, s_no, s_part, s_sl, s_slL, s_slT, s_ls, s_ts, s_sgs, s_rng1, s_rng2, s_gName, s_gNil, s_gCons, s_gTup, s_lc, s_yes, s_append, s_call, s_dget, s_get2, s_pNil, s_pCons, s_disp, s_m1, s_split, s_indexD, s_w1, s_w2, s_isStr, s_gI, s_gI0, s_gAddS, s_gS, s_gSg, s_gEqI, s_gEqS, s_gEqB, s_gEqNI, s_gEqIS, s_gEqSI, s_gNeI, s_gNeS, s_gIsN, s_gNotN, s_isNon0, s_isNonI, s_isNonS, s_isNonT, s_isNonL, s_gIxL, s_gIxT, s_gIxS, s_gCat, s_gCatT, s_gSlL, s_gSlT, s_gSlS, s_gLenL, s_gLenT, s_gLenS, s_gSum, s_gI2, s_gInt1, s_gInt1b, s_gStrI, s_gAll, s_gSeqL, s_gSeqT, s_gDGet, s_gGet2, s_kDs, s_kDi, s_ioN, s_ioS, s_ioL, s_ioD, s_ioO, s_nones0, s_nones1, List.map_cons, List.map_nil, List.cons_append, List.nil_append, List.append_nil, List.append_assoc, List.getElem?_cons_zero, List.getElem?_cons_succ, List.set_cons_zero, List.set_cons_succ, Option.some.injEq, exists_eq_left', exists_eq_left, D.int.injEq, D.str.injEq, D.tup.injEq, D.lst.injEq, D.bl.injEq, D.dct.injEq, and_true, true_and, List.length_cons, List.length_nil, exists_and_left, exists_eq, Bool.not_true, Bool.not_false, exists_eq', Nat.zero_le, atI_0, atI_1, atI_2, atI_3, atI_4, atI_5, s_gInD, if_true, if_false, Bool.false_eq_true, Nat.reduceAdd])
section
variable {P : Program} {w : World} {K : PySem.W.Frag} {mg : Str → Option Value} {base : Heap} {a_Reading a_BindError a_NoText a_SIGNS a_MODES a_WORDS a_SHAPES a_WITH_BLOCKS : Addr}
/-! ### the law's own reading -/
def toldD : Except Nat D → D
  | .ok d => .tup [.str (Str.ofString "told"), d]
  | .error n => .tup [.str (Str.ofString "refused"), .int n]
def vpLRead : VSp := fun ds Q _ => ∃ z, ds = [.str z] ∧ z.length ≤ 90000 ∧ okRows (rowsOf z) ∧ Q (toldD (readD (rowsOf z))) [none]
structure LwAt (al : List Addr) (l : List D) (h b : Addr) (cs : List Addr) (S : List D) (B : List (List D)) : Prop where
  st : cellAt al l h = some (.lst (.tup [] :: S))
  bl : cellAt al l b = some (.lst (cs.map D.ref))
  blk : Blk al l cs B
  hb : h ≠ b
  hc : h ∉ cs
  bc : b ∉ cs
  nd : cs.Nodup
section
variable {al : List Addr} {l : List D} {h b c : Addr} {cs : List Addr} {S S' : List D} {B : List (List D)} {L L' : List D}
theorem LwAt.setS (w : LwAt al l h b cs S B) : LwAt al (cellSet al l h (.lst (.tup [] :: S'))) h b cs S' B := by
  constructor
  · rw [cellAt_set w.st, if_pos rfl]
  · rw [cellAt_set w.st, if_neg w.hb, w.bl]
  · exact w.blk.set w.st w.hc
  · exact w.hb
  · exact w.hc
  · exact w.bc
  · exact w.nd
theorem LwAt.newB (w : LwAt al l h b cs S B) (hc : c ∉ al) : LwAt (c :: al) (cellSet (c :: al) (.lst [] :: l) b (.lst (cs.map D.ref ++ [.ref c]))) h b (cs ++ [c]) S (B ++ [[]]) := by
  have nb : c ≠ b := fun z => hc (z ▸ cell_no w.bl)
  have ns : c ≠ h := fun z => hc (z ▸ cell_no w.st)
  have nc : c ∉ cs := fun z => by
    obtain ⟨L, _, e⟩ := w.blk.mem z
    exact hc (cell_no e)
  have cb : cellAt (c :: al) (.lst [] :: l) b = some (.lst (cs.map D.ref)) := by rw [cellAt_new, if_neg nb, w.bl]
  constructor
  · rw [cellAt_set cb, if_neg w.hb.symm, cellAt_new, if_neg ns, w.st]
  · rw [cellAt_set cb, if_pos rfl, List.map_append]
    rfl
  · exact ((w.blk.new hc).set cb w.bc).snoc (by rw [cellAt_set cb, if_neg nb.symm, cellAt_new, if_pos rfl])
  · exact w.hb
  · simp only [List.mem_append, List.mem_singleton, not_or]
    exact ⟨w.hc, ns.symm⟩
  · simp only [List.mem_append, List.mem_singleton, not_or]
    exact ⟨w.bc, nb.symm⟩
  · rw [List.nodup_append]
    exact ⟨w.nd, by simp, fun x hx y hy => by
      have : y = c := by simpa using hy
      subst this
      exact fun z => nc (z ▸ hx)⟩
theorem LwAt.last (w : LwAt al l h b cs S (B ++ [L])) : ∃ cs0 c, cs = cs0 ++ [c] ∧ cellAt al l c = some (.lst L) := by
  obtain ⟨cs0, c', e, hk, hc⟩ := w.blk.last
  exact ⟨cs0, c', e, hc⟩
theorem LwAt.setB (w : LwAt al l h b (cs ++ [c]) S (B ++ [L])) : LwAt al (cellSet al l c (.lst L')) h b (cs ++ [c]) S (B ++ [L']) := by
  obtain ⟨cs0, c', e, hk, hc⟩ := w.blk.last
  obtain ⟨rfl, e2⟩ := List.append_inj' e rfl
  cases e2
  have hbc := w.bc
  have hsc := w.hc
  have hnd := w.nd
  simp only [List.mem_append, List.mem_singleton, not_or] at hbc hsc
  rw [List.nodup_append] at hnd
  constructor
  · rw [cellAt_set hc, if_neg (fun z => hsc.2 z.symm), w.st]
  · rw [cellAt_set hc, if_neg (fun z => hbc.2 z.symm), w.bl]
  · exact hk.set_last hc fun z => hnd.2.2 c z c (by simp) rfl
  · exact w.hb
  · exact w.hc
  · exact w.bc
  · exact w.nd
theorem LwAt.popB (w : LwAt al l h b (cs ++ [c]) S (B ++ [L])) : LwAt al (cellSet al l b (.lst (cs.map D.ref))) h b cs S B ∧ cellAt al (cellSet al l b (.lst (cs.map D.ref))) c = some (.lst L) := by
  obtain ⟨cs0, c', e, hk, hc⟩ := w.blk.last
  obtain ⟨rfl, e2⟩ := List.append_inj' e rfl
  cases e2
  have hbc := w.bc
  have hsc := w.hc
  have hnd := w.nd
  simp only [List.mem_append, List.mem_singleton, not_or] at hbc hsc
  rw [List.nodup_append] at hnd
  refine ⟨?_, by rw [cellAt_set w.bl, if_neg hbc.2, hc]⟩
  constructor
  · rw [cellAt_set w.bl, if_neg w.hb.symm, w.st]
  · rw [cellAt_set w.bl, if_pos rfl]
  · exact hk.set w.bl hbc.1
  · exact w.hb
  · exact hsc.1
  · exact hbc.1
  · exact hnd.1
end
def LwB (al : List Addr) (l : List D) (h b : Addr) (S : List D) (B : List (List D)) : Prop := ∃ cs, LwAt al l h b cs S B
/-- what isn't over begins with its word; an if has one arm or two -/
def ifS (S : List D) : Prop := ∀ d ∈ S, ∃ w t, d = D.tup (.str w :: t) ∧ w ∈ wB ∧ (w = Str.ofString "if" → t.length = 1 ∨ t.length = 2)
theorem ifS.step {n : Nat} {S S' : List D} {B B' : List (List D)} {w : Str} {rest : List Str} (h : ifS S) (hI : Inv n S B) (e : stepD S B w rest = some (S', B')) : ifS S' := by
  unfold stepD at e
  by_cases h1 : w = Str.ofString "else" ∧ rest = []
  · rw [if_pos h1] at e
    rcases List.eq_nil_or_concat S with rfl | ⟨S, d, rfl⟩
    · simp [otherD, inArm] at e
    rw [List.concat_eq_append] at h e hI
    obtain ⟨u, t, rfl, hu, ht⟩ := h d (by simp)
    have hb := hI.b
    rw [List.length_append] at hb
    obtain ⟨B, L', L, rfl⟩ := two_last hb
    rw [otherD_eq] at e
    split at e
    · rename_i hi
      rw [inArm_snoc] at hi
      simp only [Bool.and_eq_true, decide_eq_true_eq] at hi
      cases e
      intro d hd
      rcases List.mem_append.mp hd with z | z
      · exact h d (by simp [z])
      · rw [List.mem_singleton] at z
        exact ⟨u, t ++ [.tup L], by rw [z]; rfl, hu, fun _ => by simp [hi.2]⟩
    · cases e
  rw [if_neg h1] at e
  by_cases h2 : w = Str.ofString "end" ∧ rest = []
  · rw [if_pos h2] at e
    unfold closeD at e
    split at e
    · cases e
    · cases e
      exact fun t ht => h t (List.dropLast_subset _ ht)
  rw [if_neg h2] at e
  split at e
  · rename_i hf
    split at e
    · rename_i hw
      cases e
      intro d hd
      rcases List.mem_append.mp hd with z | z
      · exact h d z
      · rw [List.mem_singleton] at z
        obtain ⟨u, t', e3, hu, ht'⟩ := start_hd hf
        have eu := (ht' hw).1
        subst eu
        refine ⟨u, t', by rw [z, e3], hw, fun ew => .inl ?_⟩
        have hs := shp_one (.inr (.inr (.inl ew))) rest.length
        unfold fitsB at hf
        rw [hs] at hf
        simp only [Bool.and_eq_true, decide_eq_true_eq] at hf
        have hl := hf.1
        unfold startD at e3
        have n1 : ¬ Str.ofString "if" = Str.ofString "fn" := by decide +kernel
        have n2 : ¬ Str.ofString "if" = Str.ofString "call" := by decide +kernel
        have n3 : ¬ Str.ofString "if" = Str.ofString "let" := by decide +kernel
        rw [if_neg (fun z => n3 (ew ▸ z.1)), if_neg (fun z => n1 (ew ▸ z)), if_neg (fun z => n2 (ew ▸ z))] at e3
        injection e3 with e3
        injection e3 with _ e3
        rw [← e3, List.length_map, ← hl]
        rfl
    · cases e
      exact h
  · cases e
theorem split_else : Txt.split (Str.ofString "else") (Str.ofString " ") = [Str.ofString "else"] := by decide +kernel
theorem split_end : Txt.split (Str.ofString "end") (Str.ofString " ") = [Str.ofString "end"] := by decide +kernel
theorem split_one {r k w : Str} {rest : List Str} (hk : Txt.split k (Str.ofString " ") = [k]) (e : Txt.split r (Str.ofString " ") = w :: rest) : r = k ↔ (w = k ∧ rest = []) := by
  constructor
  · rintro rfl
    rw [hk] at e
    cases e
    exact ⟨rfl, rfl⟩
  · rintro ⟨rfl, rfl⟩
    have h1 := PySem.StrLaws.join_split r (Str.ofString " ")
    have h2 := PySem.StrLaws.join_split w (Str.ofString " ")
    rw [e] at h1
    rw [hk] at h2
    rw [← h1, h2]
theorem fits_else : fitsB (Str.ofString "else") [] = false := by decide +kernel
theorem fits_end : fitsB (Str.ofString "end") [] = false := by decide +kernel
theorem emp_iff (z : Str) : z = Str.ofString "" ↔ z.length = 0 := by
  constructor
  · rintro rfl
    decide +kernel
  · intro h
    have e : Str.ofString "" = ⟨#[]⟩ := by decide +kernel
    rw [e]
    have hl := len_cps z
    rw [h] at hl
    obtain ⟨c⟩ := z
    simp at hl
    simp [hl]
theorem rows_rep (z : Str) : (List.replicate (if (!decide (z = Str.ofString "")) = true then 1 else 0 : Int).toNat (List.map D.str (Txt.split z (Str.ofString "\n")))).flatten = (rowsOf z).map D.str := by
  unfold rowsOf
  by_cases h : z = Str.ofString ""
  · rw [if_pos ((emp_iff z).mp h)]
    simp [h]
  · rw [if_neg (fun e => h ((emp_iff z).mpr e))]
    simp [h]
def topD (S : List D) : D := S.getLast?.getD (.tup [])
theorem at_top (S : List D) : atI (.tup [] :: S) (-1) = some (topD S) := by
  rcases List.eq_nil_or_concat S with rfl | ⟨S, d, rfl⟩
  · exact atI_last (l := [])
  · rw [List.concat_eq_append, ← List.cons_append, atI_last, topD, List.getLast?_concat]
    rfl
theorem topD_nil : topD [] = .tup [] := rfl
theorem topD_snoc {S : List D} {d : D} : topD (S ++ [d]) = d := by simp [topD]
theorem cu_1 {d : D} {t : List D} : cuD (d :: t) none (some 1) = [d] := by
  have := cuD_to (l := d :: t) (p := 1) (by simp)
  simpa using this
theorem eqD_if {u : Str} {Q : D → Prop} (hu : PyData.strOk u = true) (h : Q (.bl (decide (u = Str.ofString "if")))) : gEqD (.tup [.str u]) (.tup [.str (Str.ofString "if")]) Q := by
  have e : PyData.eqv (py (.tup [.str u])) (py (.tup [.str (Str.ofString "if")])) = decide (u = Str.ofString "if") := by
    simp only [py, pys, PyData.eqv, PyData.eqvAll, Bool.and_true]
    first | rfl | (rw [Bool.eq_iff_iff, beq_iff_eq, decide_eq_true_iff])
  refine ⟨by simp [VL.plain, plains], by simp [VL.plain, plains], ?_, by decide +kernel, ?_⟩
  · simp [SeqAt.shaped, py, pys, PyData.canLay0, PyData.canLayAll0, PyData.depth, PyData.depthAll, hu]
  · rw [e]
    exact h
theorem eqD_no {Q : D → Prop} (h : Q (.bl false)) : gEqD (.tup []) (.tup [.str (Str.ofString "if")]) Q := by
  have e : PyData.eqv (py (.tup [])) (py (.tup [.str (Str.ofString "if")])) = false := by
    simp [py, pys, PyData.eqv, PyData.eqvAll]
  refine ⟨by simp [VL.plain, plains], by simp [VL.plain, plains], by decide +kernel, by decide +kernel, ?_⟩
  rw [e]
  exact h
theorem wB_ok {u : Str} (h : u ∈ wB) : PyData.strOk u = true := by
  simp only [wB, List.mem_cons, List.not_mem_nil, or_false] at h
  rcases h with rfl | rfl | rfl | rfl <;> decide +kernel
theorem ix_top {S : List D} {x : D} : ixN (D.tup [] :: (S ++ [x])).length (-1) = some (S.length + 1) := by
  unfold ixN
  simp only [List.length_append, List.length_cons, List.length_nil]
  rw [if_neg (by omega), if_pos (by omega)]
  congr 1
  omega
theorem set_top {S : List D} {x y : D} : (D.tup [] :: (S ++ [x])).set (S.length + 1) y = D.tup [] :: (S ++ [y]) := by
  rw [List.set_cons_succ, List.set_append_right _ _ (Nat.le_refl _), Nat.sub_self]
  rfl
theorem sc__law_read : FnScope ["_law_text", "_law_rows", "_law_open_heads", "_law_blocks", "_law_at", "_law_row", "_law_top", "_law_whole", "_law_found"] ["_law_text"] (defScope s__law_read) := ⟨rfl, rfl, rfl, by decide +kernel, rfl, by decide +kernel, by decide +kernel⟩
theorem ok__law_read (T : Top K w mg a_Reading a_BindError a_NoText a_SIGNS a_MODES a_WORDS a_SHAPES a_WITH_BLOCKS) : C8.Cal P w K mg base 4 "_law_read" (spOf K [.s] .s (vpLRead)) [] := by
  have C_law_in_row := ok__law_in_row (P := P) (w := w) (base := base) T
  obtain ⟨f, fd, F, gm⟩ := T.h__law_read
  refine ⟨f, fd, ["_law_text"], [], ?_, gm, F.kp, F.binds (fun _ _ _ _ _ _ us hl => match us, hl with | [_], _ => rfl), .nil⟩
  refine F.ok sc__law_read (fun vs H Q E h => h.len) (fun cdv A outer s H vs Q E hr h => ?_)
  have hu := hu_of hr
  have hu64 : (A.deeper (envOfC "_law_read" (defScope s__law_read) s.heap.objs.size f cdv)).units + 64 < cLine := by have := hr.un; omega
  have hu65 : (A.deeper (envOfC "_law_read" (defScope s__law_read) s.heap.objs.size f cdv)).units + 65 < cLine := by have := hr.un; omega
  refine ⟨_, (pss_cons (ps_set (i := 1) sc__law_read.nd rfl (Or.inl rfl) (pe_op op_rep (pe_split (pv 0) pe_str) (pe_callTy call_int1 (by rfl) T.n_int (by decide +kernel) (pa_cons (pe_cmpR op_ne (pv 0) pe_str (nomark _)) pa_nil))))
  (pss_cons (ps_par (by rfl) sc__law_read.nd (i := 2) (j := 3) rfl rfl (by decide) rfl rfl (pa_cons (pe_lst (pa_cons (pe_tup pa_nil) pa_nil)) (pa_cons (pe_lst (pa_cons (pe_lst pa_nil) pa_nil)) pa_nil)) (by rfl))
  (pss_cons (ps_for PassesOwn.never rfl (VL.enumK K rfl rfl T.n_enumerate (pa_cons (pv 1) pa_nil)) (VL.tupTK K rfl (n := 2) rfl (pgs_cons (pg_name (i := 4) sc__law_read.nd rfl (Or.inl rfl)) (pgs_cons (pg_name (i := 5) sc__law_read.nd rfl (Or.inl rfl)) pgs_nil)))
    (pss_cons (ps_set (i := 6) sc__law_read.nd rfl (Or.inl rfl) (pe_ix (VL.ixL K rfl) (pv 2) (pe_un un_neg pe_int) (fun _ _ => rfl)))
  (pss_one (ps_if (PW.pt (pw_and (pt_cmpR op_eq (pv 5) pe_str (nomark _)) (pw_and (pt_cmpR (VL.eqDK K rfl hu64) (pe_slice (VL.slU K rfl) (pv 6) po_none (po_some pe_int)) (pe_tup (pa_cons pe_str pa_nil)) (nomark _)) (pw_and1 (pt_cmpR op_eq (pe_callB (VL.lenK K rfl) (by rfl) T.n_len (by decide +kernel) (pa_cons (pv 6) pa_nil)) pe_int (nomark _))))))
    (pss_cons (ps_asg (pe_op (VL.catU K rfl) (pv 6) (pe_tup (pa_cons (pe_callTy (VL.tupleK K rfl) (by rfl) T.n_tuple (by decide +kernel) (pa_cons (pe_bm0 PySem.F.plainAttrs_list PySem.F.slot_list_pop PySem.F.type_list_pop mt_pop (pv 3)) pa_nil)) pa_nil))) (pg_sub (pv 2) (pe_un un_neg pe_int) set_list))
  (pss_one (ps_expr (pe_bm PySem.F.plainAttrs_list PySem.F.slot_list_append PySem.F.type_list_append mt_append (pv 3) (pa_cons (pe_lst pa_nil) pa_nil)))))
    (pss_one (ps_if (PW.pt (pw_and (pt_cmpR op_eq (pv 5) pe_str (nomark _)) (pw_and (pt_cmpR op_gt (pe_callB (VL.lenK K rfl) (by rfl) T.n_len (by decide +kernel) (pa_cons (pv 2) pa_nil)) pe_int (nomark _)) (pw_and1 (PW.pt (pw_or (pt_cmpR op_ne (pe_ix (VL.ixT K rfl) (pv 6) pe_int (fun _ _ => rfl)) pe_str (nomark _)) (pw_or1 (pt_cmpR op_eq (pe_callB (VL.lenK K rfl) (by rfl) T.n_len (by decide +kernel) (pa_cons (pv 6) pa_nil)) pe_int (nomark _)))))))))
    (pss_cons (ps_expr (pe_bm0 PySem.F.plainAttrs_list PySem.F.slot_list_pop PySem.F.type_list_pop mt_pop (pv 2)))
  (pss_cons (ps_set (i := 7) sc__law_read.nd rfl (Or.inl rfl) (pe_op (VL.catU K rfl) (pv 6) (pe_tup (pa_cons (pe_callTy (VL.tupleK K rfl) (by rfl) T.n_tuple (by decide +kernel) (pa_cons (pe_bm0 PySem.F.plainAttrs_list PySem.F.slot_list_pop PySem.F.type_list_pop mt_pop (pv 3)) pa_nil)) pa_nil))))
  (pss_one (ps_expr (pe_bm PySem.F.plainAttrs_list PySem.F.slot_list_append PySem.F.type_list_append mt_append (pe_ix (VL.ixL K rfl) (pv 3) (pe_un un_neg pe_int) (fun _ _ => rfl)) (pa_cons (pv 7) pa_nil))))))
    (pss_cons (ps_set (i := 8) sc__law_read.nd rfl (Or.inl rfl) (C8.pe_c C_law_in_row hr (by omega) rfl (pa_cons (pv 5) pa_nil)))
  (pss_cons (ps_if (pt_cmpR op_isN (pv 8) pe_non (nomark _))
    (pss_one (ps_ret (pe_tup (pa_cons pe_str (pa_cons (pv 4) pa_nil)))))
    pss_nil)
  (pss_one (ps_if (pt_cmpR (VL.inK K rfl) (pe_ix (VL.ixT K rfl) (pv 8) pe_int (fun _ _ => rfl)) (pe_tup (pa_cons pe_str (pa_cons pe_str (pa_cons pe_str (pa_cons pe_str pa_nil))))) (by rfl))
    (pss_cons (ps_expr (pe_bm PySem.F.plainAttrs_list PySem.F.slot_list_append PySem.F.type_list_append mt_append (pv 2) (pa_cons (pv 8) pa_nil)))
  (pss_one (ps_expr (pe_bm PySem.F.plainAttrs_list PySem.F.slot_list_append PySem.F.type_list_append mt_append (pv 3) (pa_cons (pe_lst pa_nil) pa_nil)))))
    (pss_one (ps_expr (pe_bm PySem.F.plainAttrs_list PySem.F.slot_list_append PySem.F.type_list_append mt_append (pe_ix (VL.ixL K rfl) (pv 3) (pe_un un_neg pe_int) (fun _ _ => rfl)) (pa_cons (pv 8) pa_nil))))))))))))))
  (pss_cons (ps_if (pt_cmpR op_gt (pe_callB (VL.lenK K rfl) (by rfl) T.n_len (by decide +kernel) (pa_cons (pv 2) pa_nil)) pe_int (nomark _))
    (pss_one (ps_ret (pe_tup (pa_cons pe_str (pa_cons (pe_callB (VL.lenK K rfl) (by rfl) T.n_len (by decide +kernel) (pa_cons (pv 1) pa_nil)) pa_nil)))))
    pss_nil)
  (pss_one (ps_ret (pe_tup (pa_cons pe_str (pa_cons (pe_callTy (VL.tupleK K rfl) (by rfl) T.n_tuple (by decide +kernel) (pa_cons (pe_ix (VL.ixL K rfl) (pv 3) pe_int (fun _ _ => rfl)) pa_nil)) pa_nil))))))))), fn_runM0 (pM := [.s]) (M2 := [.s, .s, .s, .s, .s, .s, .s, .s]) rfl (fun H0 io av rt hrt => (vs_seq (vs_set (i := 1) (VE.s (v_rep (v_split (VQ.e (q_var (i := 0) rfl)) (VQ.e q_str)) (VQ.e (q_ca (vba_cons (VQ.b (q_op (VQ.b (q_var (i := 0) rfl)) (VQ.b q_str) od_ne)) vba_nil) cd_int1)))) rfl (hrt 1 (by decide)))
  (vs_seq (vs_par (i := 2) (j := 3) (va_cons (n_cellL 9 rfl (v_lst (va_cons (v_tup va_nil) va_nil))) (va_cons (n_cellL 9 rfl (v_lst (va_cons (n_cellL 9 rfl (v_lst va_nil)) va_nil))) va_nil)) rfl rfl (hrt 2 (by decide)) (hrt 3 (by decide)))
  (vs_seq (vs_for (vi_enum (va_cons (VQ.e (q_var (i := 1) rfl)) va_nil)) (vg_tup (vg_cons (vg_name (i := 4) rfl (hrt 4 (by decide))) (vg_cons (vg_name (i := 5) rfl (hrt 5 (by decide))) vg_nil)))
    (vs_seq (vs_set (i := 6) (VQ.e (q_op (n_cell 9 rfl (q_var (i := 2) rfl)) (VQ.b (q_neg (VQ.b q_int))) od_ixL)) rfl (hrt 6 (by decide)))
  (vs_if (vt_and (vt_test (VQ.e (q_op (VQ.b (q_var (i := 5) rfl)) (VQ.b q_str) od_eq))) (vt_and (vt_test (v_op (v_slT (VQ.e (q_var (i := 6) rfl)) vo_none (vo_some (VQ.e q_int)) ot_sl) (v_tup (va_cons (VQ.e q_str) va_nil)) od_eqD)) (vt_test (VQ.e (q_op (VQ.b (q_ca (vba_cons (VQ.b (q_var (i := 6) rfl)) vba_nil) cd_len)) (VQ.b q_int) od_eq)))))
    (vs_seq (n_setIxC 9 rfl (q_var (i := 2) rfl) (v_opT (VQ.e (q_var (i := 6) rfl)) (v_tup (va_cons (n_caTd 9 rfl (n_popC 9 rfl (q_var (i := 3) rfl)) ct_tuple) va_nil)) ot_cat) (VQ.e (q_neg (VQ.b q_int))))
  (vs_drop (n_appC 9 rfl (q_var (i := 3) rfl) (n_cellL 9 rfl (v_lst va_nil)))))
    (vs_if (vt_and (vt_test (VQ.e (q_op (VQ.b (q_var (i := 5) rfl)) (VQ.b q_str) od_eq))) (vt_and (vt_test (VQ.e (q_op (VQ.b (q_ca (vba_cons (n_cell 9 rfl (q_var (i := 2) rfl)) vba_nil) cd_len)) (VQ.b q_int) od_b0))) (vt_or (vt_test (VQ.e (q_op (VQ.b (q_op (VQ.b (q_var (i := 6) rfl)) (VQ.b q_int) od_ixT)) (VQ.b q_str) od_ne))) (vt_test (VQ.e (q_op (VQ.b (q_ca (vba_cons (VQ.b (q_var (i := 6) rfl)) vba_nil) cd_len)) (VQ.b q_int) od_eq))))))
    (vs_seq (vs_drop (n_popC 9 rfl (q_var (i := 2) rfl)))
  (vs_seq (vs_set (i := 7) (v_opT (VQ.e (q_var (i := 6) rfl)) (v_tup (va_cons (n_caTd 9 rfl (n_popC 9 rfl (q_var (i := 3) rfl)) ct_tuple) va_nil)) ot_cat) rfl (hrt 7 (by decide)))
  (vs_drop (n_appC 9 rfl (q_op (n_cell 9 rfl (q_var (i := 3) rfl)) (VQ.b (q_neg (VQ.b q_int))) od_ixL) (VQ.e (q_var (i := 7) rfl))))))
    (vs_seq (vs_set (i := 8) (v_call (va_cons (VQ.e (q_var (i := 5) rfl)) va_nil) (by simp)) rfl (hrt 8 (by decide)))
  (vs_seq (vs_if (vt_test (VQ.e (q_op (VQ.b (q_var (i := 8) rfl)) (VQ.b q_non) od_isN)))
    (vs_ret (v_tup (va_cons (VQ.e q_str) (va_cons (VQ.e (q_var (i := 4) rfl)) va_nil))))
    vs_next)
  (vs_if (vt_test (v_op (VQ.e (q_op (VQ.b (q_var (i := 8) rfl)) (VQ.b q_int) od_ixT)) (v_tup (va_cons (VQ.e q_str) (va_cons (VQ.e q_str) (va_cons (VQ.e q_str) (va_cons (VQ.e q_str) va_nil))))) od_in))
    (vs_seq (vs_drop (n_appC 9 rfl (q_var (i := 2) rfl) (VQ.e (q_var (i := 8) rfl))))
  (vs_drop (n_appC 9 rfl (q_var (i := 3) rfl) (n_cellL 9 rfl (v_lst va_nil)))))
    (vs_drop (n_appC 9 rfl (q_op (n_cell 9 rfl (q_var (i := 3) rfl)) (VQ.b (q_neg (VQ.b q_int))) od_ixL) (VQ.e (q_var (i := 8) rfl)))))))))))
  (vs_seq (vs_if (vt_test (VQ.e (q_op (VQ.b (q_ca (vba_cons (n_cell 9 rfl (q_var (i := 2) rfl)) vba_nil) cd_len)) (VQ.b q_int) od_b0)))
    (vs_ret (v_tup (va_cons (VQ.e q_str) (va_cons (VQ.e (q_ca (vba_cons (VQ.b (q_var (i := 1) rfl)) vba_nil) cd_len)) va_nil))))
    vs_next)
  (vs_ret (v_tup (va_cons (VQ.e q_str) (va_cons (v_caTq (vba_cons (n_cell 9 rfl (q_op (n_cell 9 rfl (q_var (i := 3) rfl)) (VQ.b q_int) od_ixL)) vba_nil) ct_tuple) va_nil))))))))) (fun ds Qv Qx hl hs => ?_) h⟩
  obtain ⟨z, rfl, hz, hrows, q⟩ := hs
  walk_at "vs"
  rw [rows_rep]
  refine ⟨nl1, small (by omega), by split <;> decide, by split <;> decide, ?_, by decide, ⟨_, _, rfl⟩, fun a _ => ⟨⟨_, _, rfl⟩, fun a2 h2 => ⟨by decide, ⟨_, _, rfl⟩, fun a4 h4 => ⟨_, rfl, ?_⟩⟩⟩⟩
  · have h5 := hrows.1
    unfold rowsOf at h5
    by_cases h : z = Str.ofString ""
    · simp [h]
    · rw [if_neg (fun e => h ((emp_iff z).mpr e))] at h5
      simp [h]
      exact small (by omega)
  rw [mapIdx_0]
  have n2 : a2 ≠ a := by simpa using h2
  have n4 : a4 ≠ a2 ∧ a4 ≠ a := by simpa using h4
  have w0 : LwAt [a4, a2, a] [D.lst [D.ref a2], D.lst [], D.lst [D.tup []]] a a4 [a2] [] [[]] := by
    constructor
    · rw [cellAt_new, if_neg n4.2, cellAt_new, if_neg n2, cellAt_new, if_pos rfl]
    · rw [cellAt_new, if_pos rfl]
      rfl
    · rw [Blk, List.map_cons, cellAt_new, if_neg n4.1, cellAt_new, if_pos rfl]
      rfl
    · exact n4.2.symm
    · simpa using n2.symm
    · simpa using n4.1
    · simp
  refine for_inv (α := Nat) (fun ds e => ∃ i rs S B al l e4 e5 e6 e7 e8, ds = idxD i rs ∧ e = [some (.str z), some (.lst (List.map D.str (rowsOf z))), some (.ref a), some (.ref a4), e4, e5, e6, e7, e8, some (.mem al l)] ∧ LwB al l a a4 S B ∧ Inv i S B ∧ ifS S ∧ i + rs.length = (rowsOf z).length ∧ (∀ r ∈ rs, r ∈ rowsOf z) ∧ runD i S B rs = runD 0 [] [[]] (rowsOf z)) ?_ ?_ _ _ ?_
  · rintro d ds e ⟨i, rs, S, B, al, l, e4, e5, e6, e7, e8, e1, rfl, ⟨cs, lw⟩, inv, ifs, hi, hm, hr⟩ K hK
    match rs, e1 with
    | r :: rs, e1 =>
    rw [idxD] at e1
    obtain ⟨rfl, rfl⟩ := List.cons.inj e1
    obtain ⟨w, rest, ew, hw, hrl⟩ := hrows.2 r (hm r (by simp))
    have hi5 : i ≤ 90000 := by have := hrows.1; simp at hi; omega
    rw [runD, ew] at hr
    dsimp only at hr
    walk_at "v1"
    simp only [ex_mem, ex_mem0, ex_ref, true_and, lw.st, lw.bl, Option.some.injEq, exists_eq_left', and_assoc, exists_and_left, D.ref.injEq, D.lst.injEq, exists_eq']
    rw [s_gIxL, at_top]
    refine ⟨_, rfl, ?_⟩
    refine guard2 (decide (r = Str.ofString "else") && inArm S) (fun QB hq => ?_) (fun hb => ?_) (fun hb => ?_)
    · walk_at "vs"
      by_cases h1 : r = Str.ofString "else"
      · rw [decide_eq_true h1] at hq ⊢
        rw [if_pos rfl]
        rcases List.eq_nil_or_concat S with rfl | ⟨S, d, rfl⟩
        · rw [topD_nil]
          walk_at "vs"
          exact ⟨by decide, eqD_no ⟨_, rfl, hq⟩⟩
        · rw [List.concat_eq_append] at hq ifs ⊢
          obtain ⟨u, t, rfl, hu, ht⟩ := ifs d (by simp)
          rw [topD_snoc]
          rw [topD_snoc, inArm_snoc] at hq
          walk_at "vs"
          rw [cu_1]
          refine ⟨by decide, eqD_if (wB_ok hu) ⟨_, rfl, ?_⟩⟩
          rw [Bool.true_and] at hq
          by_cases hif : u = Str.ofString "if"
          · rw [decide_eq_true hif, Bool.true_and] at hq
            rw [decide_eq_true hif, if_pos rfl]
            have e : decide (((t.length + 1 : Nat) : Int) = 2) = decide (t.length = 1) := by
              apply decide_eq_decide.mpr
              omega
            rw [e]
            exact hq
          · rw [decide_eq_false hif, Bool.false_and] at hq
            rw [decide_eq_false hif]
            exact hq
      · rw [decide_eq_false h1] at hq ⊢
        exact hq
    · simp only [Bool.and_eq_true, decide_eq_true_eq] at hb
      obtain ⟨e1, hia⟩ := hb
      obtain ⟨rfl, rfl⟩ := (split_one split_else ew).mp e1
      rcases List.eq_nil_or_concat S with rfl | ⟨S, d, rfl⟩
      · cases hia
      rw [List.concat_eq_append] at *
      obtain ⟨u, t, rfl, hu, ht⟩ := ifs d (by simp)
      have hb := inv.b
      rw [List.length_append] at hb
      obtain ⟨B, L', L, rfl⟩ := two_last hb
      obtain ⟨cs0, c, rfl, hc⟩ := lw.last
      have hst : stepD (S ++ [.tup (.str u :: t)]) (B ++ [L'] ++ [L]) (Str.ofString "else") [] = some (S ++ [.tup (.str u :: t ++ [.tup L])], B ++ [L'] ++ [[]]) := by
        rw [stepD, if_pos ⟨rfl, rfl⟩, otherD_eq, hia, if_pos rfl]
      rw [hst] at hr
      dsimp only at hr
      rw [topD_snoc]
      walk_at "vs"
      simp only [ex_mem, ex_mem0, ex_ref, true_and, lw.st, lw.bl, Option.some.injEq, exists_eq_left', and_assoc, exists_and_left, D.ref.injEq, D.lst.injEq, exists_eq']
      obtain ⟨lw1, hc1⟩ := lw.popB
      refine ⟨cs0.map D.ref, .ref c, by rw [List.map_append]; rfl, c, rfl, .lst L, hc1, ?_⟩
      rw [s_gSeqL]
      have ht4 : t.length ≤ 4 := by
        obtain ⟨_, _, e, h⟩ := inv.t (.tup (.str u :: t)) (by simp)
        cases e
        exact h
      refine ⟨by decide, small (by omega), _, lw1.st, _, ix_top, ?_⟩
      rw [set_top]
      have lw2 := lw1.setS (S' := S ++ [.tup (.str u :: (t ++ [.tup L]))])
      refine ⟨⟨_, lw2.bl⟩, fun a2 ha2 => ⟨_, ?_, ?_, hK _ ⟨i + 1, rs, _, _, _, _, _, _, _, _, _, rfl, rfl, ⟨_, lw2.newB ha2⟩, inv.step hst, ifs.step inv hst, by simp at hi; omega, fun r hr => hm r (by simp [hr]), hr⟩⟩⟩
      · rw [cellAt_new, if_neg (fun z : a2 = a4 => ha2 (z ▸ cell_no lw.bl)), lw2.bl]
      · rw [List.length_map, lw1.blk.len]
        have := inv.s
        simp at this hb ⊢
        exact smallL (by omega)
    · refine guard2 (decide (r = Str.ofString "end") && !(S.isEmpty || inArm S)) (fun QB hq => ?_) (fun hb2 => ?_) (fun hb2 => ?_)
      · walk_at "vs"
        by_cases h1 : r = Str.ofString "end"
        · rw [decide_eq_true h1] at hq ⊢
          rw [if_pos rfl]
          rcases List.eq_nil_or_concat S with rfl | ⟨S, d, rfl⟩
          · rw [topD_nil]
            simp only [ex_mem, ex_mem0, ex_ref, true_and, lw.st, lw.bl, Option.some.injEq, exists_eq_left', and_assoc, exists_and_left, D.ref.injEq, D.lst.injEq, exists_eq']
            walk_at "vs"
            exact hq
          · rw [List.concat_eq_append] at *
            obtain ⟨u, t, rfl, hu, ht⟩ := ifs d (by simp)
            rw [topD_snoc]
            rw [topD_snoc, inArm_snoc] at hq
            simp only [ex_mem, ex_mem0, ex_ref, true_and, lw.st, lw.bl, Option.some.injEq, exists_eq_left', and_assoc, exists_and_left, D.ref.injEq, D.lst.injEq, exists_eq']
            walk_at "vs"
            rw [if_pos (by simp; omega)]
            have e0 : (S ++ [D.tup (D.str u :: t)]).isEmpty = false := by simp
            rw [e0, Bool.false_or, Bool.true_and] at hq
            by_cases hif : u = Str.ofString "if"
            · rw [decide_eq_true hif] at hq ⊢
              rw [if_neg (by simp)]
              have e : decide (((t.length + 1 : Nat) : Int) = 3) = !decide (t.length = 1) := by
                rcases ht hif with h | h <;> simp [h]
              rw [e]
              exact hq
            · rw [decide_eq_false hif] at hq ⊢
              exact hq
        · rw [decide_eq_false h1] at hq ⊢
          exact hq
      · simp only [Bool.and_eq_true, decide_eq_true_eq, Bool.not_eq_true', Bool.or_eq_false_iff] at hb2
        obtain ⟨e1, hne, hia⟩ := hb2
        obtain ⟨rfl, rfl⟩ := (split_one split_end ew).mp e1
        rcases List.eq_nil_or_concat S with rfl | ⟨S, d, rfl⟩
        · cases hne
        rw [List.concat_eq_append] at *
        obtain ⟨u, t, rfl, hu, ht⟩ := ifs d (by simp)
        have hb := inv.b
        rw [List.length_append] at hb
        obtain ⟨B, L', L, rfl⟩ := two_last hb
        obtain ⟨cs0, c, rfl, hc⟩ := lw.last
        have hst : stepD (S ++ [.tup (.str u :: t)]) (B ++ [L'] ++ [L]) (Str.ofString "end") [] = some (S, B ++ [L' ++ [.tup (.str u :: t ++ [.tup L])]]) := by
          rw [stepD, if_neg (by decide +kernel), if_pos ⟨rfl, rfl⟩, closeD_eq, hia]
          rfl
        rw [hst] at hr
        dsimp only at hr
        rw [topD_snoc]
        walk_at "vs"
        simp only [ex_mem, ex_mem0, ex_ref, true_and, lw.st, lw.bl, Option.some.injEq, exists_eq_left', and_assoc, exists_and_left, D.ref.injEq, D.lst.injEq, exists_eq']
        have lw1 := lw.setS (S' := S)
        obtain ⟨lw2, hc2⟩ := lw1.popB
        obtain ⟨cs1, c', rfl, hc'⟩ := lw2.last
        have ht4 : t.length ≤ 4 := by
          obtain ⟨_, _, e, h⟩ := inv.t (.tup (.str u :: t)) (by simp)
          cases e
          exact h
        refine ⟨.tup [] :: S, .tup (.str u :: t), rfl, List.map D.ref (cs1 ++ [c']), .ref c, by rw [lw1.bl, List.map_append (l₂ := [c])]; rfl, c, rfl, .lst L, hc2, ?_⟩
        rw [s_gSeqL]
        refine ⟨by decide, small (by omega), _, lw2.bl, ?_⟩
        rw [List.map_append, List.map_cons, List.map_nil, s_gIxL, atI_last]
        rw [List.map_append, List.map_cons, List.map_nil] at hc'
        refine ⟨_, rfl, c', rfl, ⟨_, hc'⟩, _, hc', Nat.lt_of_le_of_lt ((inv.okB hi5).2 L' (by simp)) (by decide), hK _ ⟨i + 1, rs, _, _, _, _, _, _, _, _, _, rfl, rfl, ⟨cs1 ++ [c'], ?_⟩, inv.step hst, ifs.step inv hst, by simp at hi; omega, fun r hr => hm r (by simp [hr]), hr⟩⟩
        have := lw2.setB (L' := L' ++ [.tup (.str u :: (t ++ [.tup L]))])
        rw [List.map_append, List.map_cons, List.map_nil] at this
        exact this
      · walk_at "v1"
        refine ⟨r, w, rest, rfl, hrl, ew, hw, ?_⟩
        have hst : stepD S B w rest = if fitsB w rest = true then (if w ∈ wB then some (S ++ [startD w rest], B ++ [[]]) else some (S, B.dropLast ++ [B.getLast?.getD [] ++ [startD w rest]])) else none := by
          unfold stepD
          by_cases h1 : w = Str.ofString "else" ∧ rest = []
          · have e1 := (split_one split_else ew).mpr h1
            rw [decide_eq_true e1, Bool.true_and] at hb
            rw [if_pos h1, otherD, hb]
            obtain ⟨rfl, rfl⟩ := h1
            rw [fits_else]
            rfl
          rw [if_neg h1]
          by_cases h2 : w = Str.ofString "end" ∧ rest = []
          · have e1 := (split_one split_end ew).mpr h2
            rw [decide_eq_true e1, Bool.true_and, Bool.not_eq_false'] at hb2
            rw [if_pos h2, closeD, hb2]
            obtain ⟨rfl, rfl⟩ := h2
            rw [fits_end]
            rfl
          rw [if_neg h2]
        dsimp only
        unfold rowD
        cases hf : fitsB w rest with
        | false =>
          rw [hf] at hst
          rw [hst] at hr
          simp only [Bool.false_eq_true, if_false] at hr ⊢
          refine guard true (fun QB hq => ?_) (fun _ => ?_) (fun h => by cases h)
          · walk_at "vs"
            exact hq
          · walk_at "vs"
            rw [readD, ← hr] at q
            exact ⟨by decide, q⟩
        | true =>
          rw [hf] at hst
          simp only [if_true] at hst ⊢
          obtain ⟨u, t, e, hu, ht⟩ := start_hd hf
          rw [e] at hst ⊢
          refine guard false (fun QB hq => ?_) (fun h => by cases h) (fun _ => ?_)
          · walk_at "vs"
            exact hq
          · walk_at "vs"
            by_cases hb : w ∈ wB
            · rw [if_pos hb] at hst
              rw [hst] at hr
              dsimp only at hr
              refine ⟨by decide, ?_⟩
              rw [if_pos (decide_eq_true (hu.mpr hb))]
              simp only [ex_mem, ex_mem0, ex_ref, true_and, lw.st, lw.bl, Option.some.injEq, exists_eq_left', and_assoc, exists_and_left, D.ref.injEq, D.lst.injEq, exists_eq']
              have lw2 := lw.setS (S' := S ++ [.tup (.str u :: t)])
              have hsl := inv.s
              have hbl := inv.b
              refine ⟨smallL (by simp; omega), ⟨_, lw2.bl⟩, fun a2 ha2 => ⟨_, ?_, ?_, hK _ ⟨i + 1, rs, _, _, _, _, _, _, _, _, _, rfl, rfl, ⟨_, lw2.newB ha2⟩, inv.step hst, ifs.step inv hst, by simp at hi; omega, fun r hr => hm r (by simp [hr]), hr⟩⟩⟩
              · rw [cellAt_new, if_neg (fun z : a2 = a4 => ha2 (z ▸ cell_no lw.bl))]
                exact lw2.bl
              · rw [List.length_map, lw.blk.len]
                exact smallL (by omega)
            · rw [if_neg hb] at hst
              rcases List.eq_nil_or_concat B with rfl | ⟨B, L, rfl⟩
              · exact (inv.cut rfl).elim
              rw [List.concat_eq_append] at *
              rw [List.dropLast_concat, List.getLast?_concat] at hst
              rw [hst] at hr
              dsimp only at hr
              obtain ⟨cs1, c, rfl, hc⟩ := lw.last
              refine ⟨by decide, ?_⟩
              rw [if_neg (fun z => hb (hu.mp (of_decide_eq_true z)))]
              simp only [ex_mem, ex_mem0, ex_ref, true_and, lw.st, lw.bl, Option.some.injEq, exists_eq_left', and_assoc, exists_and_left, D.ref.injEq, D.lst.injEq, exists_eq', List.map_append, List.map_cons, List.map_nil, s_gIxL, atI_last, hc]
              exact ⟨Nat.lt_of_le_of_lt ((inv.okB hi5).2 L (by simp)) (by decide), hK _ ⟨i + 1, rs, _, _, _, _, _, _, _, _, _, rfl, rfl, ⟨_, lw.setB⟩, inv.step hst, ifs.step inv hst, by simp at hi; omega, fun r hr => hm r (by simp [hr]), hr⟩⟩
  · rintro e ⟨i, rs, S, B, al, l, e4, e5, e6, e7, e8, e1, rfl, ⟨cs, lw⟩, inv, ifs, hi, hm, hr⟩
    walk_at "vs"
    match rs, e1 with
    | [], e1 =>
    simp only [ex_mem, ex_mem0, ex_ref, true_and, lw.st, lw.bl, Option.some.injEq, exists_eq_left', and_assoc, exists_and_left, D.ref.injEq, D.lst.injEq, exists_eq', s_gLenL]
    rw [runD] at hr
    rw [readD, ← hr] at q
    dsimp only at q
    rw [s_gI0]
    refine ⟨_, rfl, ?_⟩
    by_cases hS : S = []
    · subst hS
      rw [if_pos rfl] at q
      rw [if_neg (by simp)]
      have hb := inv.b
      match B, hb with
      | [L], _ =>
      obtain ⟨cs1, c, rfl, hc⟩ := LwAt.last (B := []) lw
      have e1 := lw.blk.len
      simp at e1
      subst e1
      simp only [List.nil_append, List.map_cons, List.map_nil, s_gIxL, atI_0, Option.some.injEq, exists_eq_left', D.ref.injEq, hc, s_gSeqL]
      exact ⟨by decide, q⟩
    · rw [if_neg hS] at q
      have : S.length ≠ 0 := by simpa using hS
      rw [if_pos (by simp; omega)]
      refine ⟨by decide, ?_⟩
      rw [List.length_map]
      exact q
  · exact ⟨0, rowsOf z, [], [[]], _, _, _, _, _, _, _, rfl, rfl, ⟨_, w0⟩, Inv.nil, fun t h => by simp at h, by simp, fun _ h => h, rfl⟩
end
end K10
set_option Elab.async false
set_option linter.all false
set_option maxRecDepth 100000
set_option maxHeartbeats 4000000
namespace K10
open PySem PySem.Spec PyProof.Rows L2 L2H HotX Fb VL
local macro_rules | `(tactic| walk_at "vs") => `(tactic| simp only [vCell, vDr, vFld, vAppC, vPopC, vSetF, vCallA, vCallAX, vCallX, vMakeA, vMethA, vRaise, vTry, vXf, vChain, vTru, s_truN, s_truB, s_truI, s_truS, s_truL, s_truT, vIsi, vIsiT, vStar, vListZip, vEnum, vZipSL, vPop, vExt, vSetIx, vSetIxC, vRep, s_vgLst, vKGet, s_gMulS, s_gBoolL, s_gStrS, s_gIntS, s_gStrA1, s_gStrA2, s_seqL, s_seqT, cuD_1, ioA, setC, newC, noC, putA, ex_cell, Option.join_some, List.drop_succ_cons, List.drop_zero, s_gInK, s_gInS, s_gIn2, s_gIn3, s_gIn4, s_gIn5, ex_par, vNeg, s_gAny, vCaTd, vOp2Lv, s_callIO, s_io, s_fill0, s_fillN, s_fillS, s_putIO, s_wio0, s_wioN, s_wioS, s_give0, s_giveN, s_giveS, s_giveM, Option.map_some, s_seq, s_next, s_break, s_cont, s_set, s_ret, s_retN, s_drop, s_ifS, s_for, s_asg, s_par, s_var, s_c, s_op2, s_op2L, s_op2T, s_ca, s_caL, s_caT, s_nil, s_cons, s_tup, s_lst, s_test, s_and, s_or, s_not, s_if, s_andV, s_orV, s_notV, s_no, s_part, s_sl, s_slL, s_slT, s_ls, s_ts, s_sgs, s_rng1, s_rng2, s_gName, s_gNil, s_gCons, s_gTup, s_lc, s_yes, s_append, s_call, s_dget, s_get2, s_pNil, s_pCons, s_disp, s_m1, s_split, s_indexD, s_w1, s_w2, s_isStr, s_gI, s_gI0, s_gAddS, s_gS, s_gSg, s_gEqI, s_gEqS, s_gEqB, s_gEqNI, s_gEqIS, s_gEqSI, s_gNeI, s_gNeS, s_gIsN, s_gNotN, s_isNon0, s_isNonI, s_isNonS, s_isNonT, s_isNonL, s_gIxL, s_gIxT, s_gIxS, s_gCat, s_gCatT, s_gSlL, s_gSlT, s_gSlS, s_gLenL, s_gLenT, s_gLenS, s_gSum, s_gI2, s_gInt1, s_gInt1b, s_gStrI, s_gAll, s_gSeqL, s_gSeqT, s_gDGet, s_gGet2, s_kDs, s_kDi, s_ioN, s_ioS, s_ioL, s_ioD, s_ioO, s_nones0, s_nones1, List.map_cons, List.map_nil, List.cons_append, List.nil_append, List.append_nil, List.append_assoc, List.getElem?_cons_zero, List.getElem?_cons_succ, List.set_cons_zero, List.set_cons_succ, Option.some.injEq, exists_eq_left', exists_eq_left, D.int.injEq, D.str.injEq, D.tup.injEq, D.lst.injEq, D.bl.injEq, D.dct.injEq, and_true, true_and, List.length_cons, List.length_nil, exists_and_left, exists_eq, Bool.not_true, Bool.not_false, exists_eq', Nat.zero_le, atI_0, atI_1, atI_2, atI_3, atI_4, atI_5, s_gInD, if_true, if_false, Bool.false_eq_true, Nat.reduceAdd])
local macro_rules | `(tactic| walk_at "v1") => `(tactic| simp only [vCell, vDr, vFld, vAppC, vPopC, vSetF, vCallA, vCallAX, vCallX, vMakeA, vMethA, vRaise, vTry, vXf, vChain, vTru, s_truN, s_truB, s_truI, s_truS, s_truL, s_truT, vIsi, vIsiT, vStar, vListZip, vEnum, vZipSL, vPop, vExt, vSetIx, vSetIxC, vRep, s_vgLst, vKGet, s_gMulS, s_gBoolL, s_gStrS, s_gIntS, s_gStrA1, s_gStrA2, s_seqL, s_seqT, cuD_1, ioA, setC, newC, noC, putA, ex_cell, Option.join_some, List.drop_succ_cons, List.drop_zero, s_gInK, s_gInS, s_gIn2, s_gIn3, s_gIn4, s_gIn5, ex_par, vNeg, s_gAny, vCaTd, vOp2Lv, s_callIO, s_io, s_fill0, s_fillN, s_fillS, s_putIO, s_wio0, s_wioN, s_wioS, s_give0, s_giveN, s_giveS, s_giveM, Option.map_some, s_seq, s_next, s_break, s_cont, s_set, s_ret, s_retN, s_drop, s_for, s_asg, s_par, s_var, s_c, s_op2, s_op2L, s_op2T, s_ca, s_caL, s_caT, s_nil, s_cons, s_tup, s_lst, s_test, s_and, s_or, s_not, s_if, s_andV, s_orV, s_notV, s_no, s_part, s_sl, s_slL, s_slT, s_ls, s_ts, s_sgs, s_rng1, s_rng2, s_gName, s_gNil, s_gCons, s_gTup, s_lc, s_yes, s_append, s_call, s_dget, s_get2, s_pNil, s_pCons, s_disp, s_m1, s_split, s_indexD, s_w1, s_w2, s_isStr, s_gI, s_gI0, s_gAddS, s_gS, s_gSg, s_gEqI, s_gEqS, s_gEqB, s_gEqNI, s_gEqIS, s_gEqSI, s_gNeI, s_gNeS, s_gIsN, s_gNotN, s_isNon0, s_isNonI, s_isNonS, s_isNonT, s_isNonL, s_gIxL, s_gIxT, s_gIxS, s_gCat, s_gCatT, s_gSlL, s_gSlT, s_gSlS, s_gLenL, s_gLenT, s_gLenS, s_gSum, s_gI2, s_gInt1, s_gInt1b, s_gStrI, s_gAll, s_gSeqL, s_gSeqT, s_gDGet, s_gGet2, s_kDs, s_kDi, s_ioN, s_ioS, s_ioL, s_ioD, s_ioO, s_nones0, s_nones1, List.map_cons, List.map_nil, List.cons_append, List.nil_append, List.append_nil, List.append_assoc, List.getElem?_cons_zero, List.getElem?_cons_succ, List.set_cons_zero, List.set_cons_succ, Option.some.injEq, exists_eq_left', exists_eq_left, D.int.injEq, D.str.injEq, D.tup.injEq, D.lst.injEq, D.bl.injEq, D.dct.injEq, and_true, true_and, List.length_cons, List.length_nil, exists_and_left, exists_eq, Bool.not_true, Bool.not_false, exists_eq', Nat.zero_le, atI_0, atI_1, atI_2, atI_3, atI_4, atI_5, s_gInD, if_true, if_false, Bool.false_eq_true, Nat.reduceAdd])
section
variable {P : Program} {w : World} {K : PySem.W.Frag} {mg : Str → Option Value} {base : Heap} {a_Reading a_BindError a_NoText a_SIGNS a_MODES a_WORDS a_SHAPES a_WITH_BLOCKS : Addr}
def vpTold : VSp := fun ds Q _ => ∃ z, ds = [.str z] ∧ z.length ≤ 90000 ∧ okRows (rowsOf z) ∧ Q (toldD (readD (rowsOf z))) [none]
theorem sc__law_told : FnScope ["_law_text", "_law_found", "e"] ["_law_text"] (defScope s__law_told) := ⟨rfl, rfl, rfl, by decide +kernel, rfl, by decide +kernel, by decide +kernel⟩
theorem ok__law_told (T : Top K w mg a_Reading a_BindError a_NoText a_SIGNS a_MODES a_WORDS a_SHAPES a_WITH_BLOCKS) : C8.Cal P w K mg base 7 "_law_told" (spOf K [.s] .s (vpTold)) [] := by
  have C_read := ok_read (P := P) (w := w) (base := base) T
  obtain ⟨f, fd, F, gm⟩ := T.h__law_told
  refine ⟨f, fd, ["_law_text"], [], ?_, gm, F.kp, F.binds (fun _ _ _ _ _ _ us hl => match us, hl with | [_], _ => rfl), .nil⟩
  refine F.ok sc__law_told (fun vs H Q E h => h.len) (fun cdv A outer s H vs Q E hr h => ?_)
  have hu := hu_of hr
  have hu64 : (A.deeper (envOfC "_law_told" (defScope s__law_told) s.heap.objs.size f cdv)).units + 64 < cLine := by have := hr.un; omega
  have hu65 : (A.deeper (envOfC "_law_told" (defScope s__law_told) s.heap.objs.size f cdv)).units + 65 < cLine := by have := hr.un; omega
  refine ⟨_, (pss_cons (ps_set (i := 1) sc__law_told.nd rfl (Or.inl rfl) pe_non)
  (pss_cons (Fb.ps_try_all (i := 2) rfl rfl sc__law_told.nd rfl rfl (T.nm_BindError rfl) (fun W pn xe tk => (pss_one (ps_set (i := 1) sc__law_told.nd rfl (Or.inl rfl) (pe_tup (pa_cons pe_str (pa_cons (VL.pe_cX C_read hr (by omega) rfl tk (pa_cons (pv 0) pa_nil)) pa_nil)))))) (fun a oe cls d pn held => (pss_cons (ps_set (i := 1) sc__law_told.nd rfl (Or.inl rfl) (pe_tup (pa_cons pe_str (pa_cons pe_int pa_nil))))
  (pss_one (ps_if (pt_val (pe_callB (Fb.call_isX K rfl held) (by rfl) T.n_isinstance (by decide +kernel) (pa_cons (pv 2) (pa_cons (C8.pe_gc rfl T.c_NoText) pa_nil))))
    (pss_one (ps_set (i := 1) sc__law_told.nd rfl (Or.inl rfl) (pe_tup (pa_cons pe_str (pa_cons (Fb.pe_xfX K rfl held (pv 2)) pa_nil)))))
    pss_nil)))))
  (pss_one (ps_ret (pv 1))))), fn_run0 (pM := [.s]) (M2 := [.s, .s]) rfl (fun H0 io av rt hrt => (vs_seq (vs_set (i := 1) (VQ.e q_non) rfl (hrt 1 (by decide)))
  (vs_seq (vs_try (i := 2) (by show 2 < 3; decide) (hrt 2 (by decide)) T.xm_BindError (fun W => (vs_set (i := 1) (v_tup (va_cons (VQ.e q_str) (va_cons (v_callX (va_cons (VQ.e (q_var (i := 0) rfl)) va_nil) (by simp)) va_nil))) rfl (hrt 1 (by decide)))) (fun H0 io a d x y hx => by
      have hrs : ∀ j, j ∉ 2 :: ioIx _ 0 → ∀ p ∈ (2, V.ref a) :: _, p.1 ≠ j := fun j hj p hp => (List.mem_cons.mp hp).elim (fun z => by subst z; exact fun w => hj (by rw [← w]; exact List.mem_cons_self)) (fun z => hrt j (fun w => hj (List.mem_cons_of_mem _ w)) p z)
      exact (vs_seq (vs_set (i := 1) (v_tup (va_cons (VQ.e q_str) (va_cons (VQ.e q_int) va_nil))) rfl (hrs 1 (by decide)))
  (vs_if (vt_b (VQ.e (q_isX y (T.exc hx) (T.kit_NoText hx))))
    (vs_set (i := 1) (v_tup (va_cons (VQ.e q_str) (va_cons (VQ.e (q_xf y (T.xfc hx) (T.xno hx))) va_nil))) rfl (hrs 1 (by decide)))
    vs_next))))
  (vs_ret (VQ.e (q_var (i := 1) rfl)))))) (fun ds Qv Qx hl hs => ?_) h⟩
  obtain ⟨z, rfl, hz, hrows, q⟩ := hs
  walk_at "vs"
  refine ⟨z, rfl, hz, hrows, ?_⟩
  cases hr : readD (rowsOf z) with
  | ok d =>
    rw [hr] at q
    dsimp only
    exact ⟨by decide, q⟩
  | error n =>
    rw [hr] at q
    dsimp only
    exact ⟨List.mem_singleton.mpr rfl, by decide, .int n, rfl, by decide, q⟩
end
end K10
set_option Elab.async false
set_option linter.all false
set_option maxRecDepth 100000
set_option maxHeartbeats 4000000
namespace K10
open PySem PySem.Spec PyProof.Rows L2 L2H HotX Fb VL
local macro_rules | `(tactic| walk_at "vs") => `(tactic| simp only [vCell, vDr, vFld, vAppC, vPopC, vSetF, vCallA, vCallAX, vCallX, vMakeA, vMethA, vRaise, vTry, vXf, vChain, vTru, s_truN, s_truB, s_truI, s_truS, s_truL, s_truT, vIsi, vIsiT, vStar, vListZip, vEnum, vZipSL, vPop, vExt, vSetIx, vSetIxC, vRep, s_vgLst, vKGet, s_gMulS, s_gBoolL, s_gStrS, s_gIntS, s_gStrA1, s_gStrA2, s_seqL, s_seqT, cuD_1, ioA, setC, newC, noC, putA, ex_cell, Option.join_some, List.drop_succ_cons, List.drop_zero, s_gInK, s_gInS, s_gIn2, s_gIn3, s_gIn4, s_gIn5, ex_par, vNeg, s_gAny, vCaTd, vOp2Lv, s_callIO, s_io, s_fill0, s_fillN, s_fillS, s_putIO, s_wio0, s_wioN, s_wioS, s_give0, s_giveN, s_giveS, s_giveM, Option.map_some, s_seq, s_next, s_break, s_cont, s_set, s_ret, s_retN, s_drop, s_ifS, s_for, s_asg, s_par, s_var, s_c, s_op2, s_op2L, s_op2T, s_ca, s_caL, s_caT, s_nil, s_cons, s_tup, s_lst, s_test, s_and, s_or, s_not, s_if, s_andV, s_orV, s_notV, s_no, s_part, s_sl, s_slL, s_slT, s_ls, s_ts, s_sgs, s_rng1, s_rng2, s_gName, s_gNil, s_gCons, s_gTup, s_lc, s_yes, s_append, s_call, s_dget, s_get2, s_pNil, s_pCons, s_disp, s_m1, s_split, s_indexD, s_w1, s_w2, s_isStr, s_gI, s_gI0, s_gAddS, s_gS, s_gSg, s_gEqI, s_gEqS, s_gEqB, s_gEqNI, s_gEqIS, s_gEqSI, s_gNeI, s_gNeS, s_gIsN, s_gNotN, s_isNon0, s_isNonI, s_isNonS, s_isNonT, s_isNonL, s_gIxL, s_gIxT, s_gIxS, s_gCat, s_gCatT, s_gSlL, s_gSlT, s_gSlS, s_gLenL, s_gLenT, s_gLenS, s_gSum, s_gI2, s_gInt1, s_gInt1b, s_gStrI, s_gAll, s_gSeqL, s_gSeqT, s_gDGet, s_gGet2, s_kDs, s_kDi, s_ioN, s_ioS, s_ioL, s_ioD, s_ioO, s_nones0, s_nones1, List.map_cons, List.map_nil, List.cons_append, List.nil_append, List.append_nil, List.append_assoc, List.getElem?_cons_zero, List.getElem?_cons_succ, List.set_cons_zero, List.set_cons_succ, Option.some.injEq, exists_eq_left', exists_eq_left, D.int.injEq, D.str.injEq, D.tup.injEq, D.lst.injEq, D.bl.injEq, D.dct.injEq, and_true, true_and, List.length_cons, List.length_nil, exists_and_left, exists_eq, Bool.not_true, Bool.not_false, exists_eq', Nat.zero_le, atI_0, atI_1, atI_2, atI_3, atI_4, atI_5, s_gInD, if_true, if_false, Bool.false_eq_true, Nat.reduceAdd])
local macro_rules | `(tactic| walk_at "v1") => `(tactic| simp only [vCell, vDr, vFld, vAppC, vPopC, vSetF, vCallA, vCallAX, vCallX, vMakeA, vMethA, vRaise, vTry, vXf, vChain, vTru, s_truN, s_truB, s_truI, s_truS, s_truL, s_truT, vIsi, vIsiT, vStar, vListZip, vEnum, vZipSL, vPop, vExt, vSetIx, vSetIxC, vRep, s_vgLst, vKGet, s_gMulS, s_gBoolL, s_gStrS, s_gIntS, s_gStrA1, s_gStrA2, s_seqL, s_seqT, cuD_1, ioA, setC, newC, noC, putA, ex_cell, Option.join_some, List.drop_succ_cons, List.drop_zero, s_gInK, s_gInS, s_gIn2, s_gIn3, s_gIn4, s_gIn5, ex_par, vNeg, s_gAny, vCaTd, vOp2Lv, s_callIO, s_io, s_fill0, s_fillN, s_fillS, s_putIO, s_wio0, s_wioN, s_wioS, s_give0, s_giveN, s_giveS, s_giveM, Option.map_some, s_seq, s_next, s_break, s_cont, s_set, s_ret, s_retN, s_drop, s_for, s_asg, s_par, s_var, s_c, s_op2, s_op2L, s_op2T, s_ca, s_caL, s_caT, s_nil, s_cons, s_tup, s_lst, s_test, s_and, s_or, s_not, s_if, s_andV, s_orV, s_notV, s_no, s_part, s_sl, s_slL, s_slT, s_ls, s_ts, s_sgs, s_rng1, s_rng2, s_gName, s_gNil, s_gCons, s_gTup, s_lc, s_yes, s_append, s_call, s_dget, s_get2, s_pNil, s_pCons, s_disp, s_m1, s_split, s_indexD, s_w1, s_w2, s_isStr, s_gI, s_gI0, s_gAddS, s_gS, s_gSg, s_gEqI, s_gEqS, s_gEqB, s_gEqNI, s_gEqIS, s_gEqSI, s_gNeI, s_gNeS, s_gIsN, s_gNotN, s_isNon0, s_isNonI, s_isNonS, s_isNonT, s_isNonL, s_gIxL, s_gIxT, s_gIxS, s_gCat, s_gCatT, s_gSlL, s_gSlT, s_gSlS, s_gLenL, s_gLenT, s_gLenS, s_gSum, s_gI2, s_gInt1, s_gInt1b, s_gStrI, s_gAll, s_gSeqL, s_gSeqT, s_gDGet, s_gGet2, s_kDs, s_kDi, s_ioN, s_ioS, s_ioL, s_ioD, s_ioO, s_nones0, s_nones1, List.map_cons, List.map_nil, List.cons_append, List.nil_append, List.append_nil, List.append_assoc, List.getElem?_cons_zero, List.getElem?_cons_succ, List.set_cons_zero, List.set_cons_succ, Option.some.injEq, exists_eq_left', exists_eq_left, D.int.injEq, D.str.injEq, D.tup.injEq, D.lst.injEq, D.bl.injEq, D.dct.injEq, and_true, true_and, List.length_cons, List.length_nil, exists_and_left, exists_eq, Bool.not_true, Bool.not_false, exists_eq', Nat.zero_le, atI_0, atI_1, atI_2, atI_3, atI_4, atI_5, s_gInD, if_true, if_false, Bool.false_eq_true, Nat.reduceAdd])
section
variable {P : Program} {w : World} {K : PySem.W.Frag} {mg : Str → Option Value} {base : Heap} {a_Reading a_BindError a_NoText a_SIGNS a_MODES a_WORDS a_SHAPES a_WITH_BLOCKS : Addr}
/-! ### alike -/
theorem wh_inv {ft : VTB} {f : VTS} {U : VEnds} (I : Nat → VL.Env → Prop) (h : ∀ n e, I n e → ∀ K : VL.Env → Prop, (∀ m e', m < n → I m e' → K e') → ft e (fun b e1 => if b = true then f { U with nx := K, ct := K, bk := U.nx } e1 else U.nx e1) U.ex) {n : Nat} {e : VL.Env} (hI : I n e) : vWhile ft f U e := by
  have key : ∀ N n e, n < N → I n e → vWhileN ft f U N e := by
    intro N
    induction N with
    | zero => intro n e h; omega
    | succ N ih => exact fun n e hn hI => h n e hI _ fun m e' hm hI' => ih m e' (by omega) hI'
  exact ⟨n + 1, key _ _ _ (Nat.lt_succ_self n) hI⟩
mutual
def dsz : D → Nat
  | .tup l => dszs l + 1
  | _ => 1
def dszs : List D → Nat
  | [] => 0
  | d :: ds => dsz d + dszs ds
end
mutual
def okT : D → Bool
  | .tup l => okTs l
  | .str _ => true
  | .int _ => true
  | _ => false
def okTs : List D → Bool
  | [] => true
  | d :: ds => okT d && okTs ds
end
theorem dszs_app : ∀ a b : List D, dszs (a ++ b) = dszs a + dszs b
  | [], b => by simp [dszs]
  | d :: a, b => by rw [List.cons_append, dszs, dszs, dszs_app a b]; omega
theorem okTs_app : ∀ a b : List D, okTs (a ++ b) = (okTs a && okTs b)
  | [], b => by simp [okTs]
  | d :: a, b => by rw [List.cons_append, okTs, okTs, okTs_app a b, Bool.and_assoc]
theorem dsz_pos : ∀ d : D, 1 ≤ dsz d
  | .tup l => by rw [dsz]; omega
  | .non | .bl _ | .int _ | .str _ | .lst _ | .dct _ _ | .obj _ _ _ | .ref _ | .mem _ _ => by simp [dsz]
theorem dszs_len : ∀ l : List D, l.length ≤ dszs l
  | [] => by simp
  | d :: l => by rw [List.length_cons, dszs]; have := dsz_pos d; have := dszs_len l; omega
abbrev twD (x : D) : D := .tup [x, x]
theorem map_snoc {L : List D} {x : D} : (L ++ [x]).map twD = L.map twD ++ [twD x] := by simp
theorem isi_eq {d : D} {T t : String} {b : Bool} {Q : Bool → Prop} (h1 : tyN d = some t) (h2 : kitB t T = some b) : isiD d T Q = Q b := propext ⟨fun ⟨t', b', e1, e2, q⟩ => by rw [h1] at e1; cases e1; rw [h2] at e2; cases e2; exact q, fun q => ⟨t, b, h1, h2, q⟩⟩
theorem isiT_eq {d : D} {T1 T2 t : String} {b1 b2 : Bool} {Q : Bool → Prop} (h1 : tyN d = some t) (h2 : kitB t T1 = some b1) (h3 : kitB t T2 = some b2) : isiT d T1 T2 Q = Q (b1 || b2) := propext ⟨fun ⟨t', b', c', e1, e2, e3, q⟩ => by rw [h1] at e1; cases e1; rw [h2] at e2; cases e2; rw [h3] at e3; cases e3; exact q, fun q => ⟨t, b1, b2, h1, h2, h3, q⟩⟩
section
variable {l : List D} {z : Str} {i : Int} {Q : Bool → Prop}
theorem iT_t : isiT (.tup l) "tuple" "list" Q = Q true := isiT_eq (t := "tuple") (b1 := true) (b2 := false) rfl (by decide +kernel) (by decide +kernel)
theorem iT_s : isiT (.str z) "tuple" "list" Q = Q false := isiT_eq (t := "str") (b1 := false) (b2 := false) rfl (by decide +kernel) (by decide +kernel)
theorem iT_i : isiT (.int i) "tuple" "list" Q = Q false := isiT_eq (t := "int") (b1 := false) (b2 := false) rfl (by decide +kernel) (by decide +kernel)
theorem i_tt : isiD (.tup l) "tuple" Q = Q true := isi_eq (t := "tuple") rfl (by decide +kernel)
theorem i_tl : isiD (.tup l) "list" Q = Q false := isi_eq (t := "tuple") rfl (by decide +kernel)
theorem i_ss : isiD (.str z) "str" Q = Q true := isi_eq (t := "str") rfl (by decide +kernel)
theorem i_is : isiD (.int i) "str" Q = Q false := isi_eq (t := "int") rfl (by decide +kernel)
theorem i_ii : isiD (.int i) "int" Q = Q true := isi_eq (t := "int") rfl (by decide +kernel)
theorem i_ib : isiD (.int i) "bool" Q = Q false := isi_eq (t := "int") rfl (by decide +kernel)
theorem s_gNeB {p q : Bool} {Q : D → Prop} : gNe (.bl p) (.bl q) Q = Q (.bl (!decide (p = q))) := by simp [gNe, scalD, isSc, scV, scal, eqD]
end
theorem zip_self : ∀ l : List D, zipD l l = l.map twD
  | [] => by simp [zipD]
  | d :: l => by
    have := zip_self l
    simp [zipD] at this ⊢
    try exact this
def vpAlike : VSp := fun ds Q _ => ∃ d, ds = [d, d] ∧ okT d = true ∧ dsz d ≤ 90000 ∧ Q (.bl true) [none, none]
theorem sc__law_alike : FnScope ["_law_found", "_law_due", "_law_left", "_law_one", "_law_other"] ["_law_found", "_law_due"] (defScope s__law_alike) := ⟨rfl, rfl, rfl, by decide +kernel, rfl, by decide +kernel, by decide +kernel⟩
theorem ok__law_alike (T : Top K w mg a_Reading a_BindError a_NoText a_SIGNS a_MODES a_WORDS a_SHAPES a_WITH_BLOCKS) : C8.Cal P w K mg base 1 "_law_alike" (spOf K [.s, .s] .s (vpAlike)) [] := by
  obtain ⟨f, fd, F, gm⟩ := T.h__law_alike
  refine ⟨f, fd, ["_law_found", "_law_due"], [], ?_, gm, F.kp, F.binds (fun _ _ _ _ _ _ us hl => match us, hl with | [_, _], _ => rfl), .nil⟩
  refine F.ok sc__law_alike (fun vs H Q E h => h.len) (fun cdv A outer s H vs Q E hr h => ?_)
  have hu := hu_of hr
  have hu64 : (A.deeper (envOfC "_law_alike" (defScope s__law_alike) s.heap.objs.size f cdv)).units + 64 < cLine := by have := hr.un; omega
  have hu65 : (A.deeper (envOfC "_law_alike" (defScope s__law_alike) s.heap.objs.size f cdv)).units + 65 < cLine := by have := hr.un; omega
  refine ⟨_, (pss_cons (ps_set (i := 2) sc__law_alike.nd rfl (Or.inl rfl) (pe_lst (pa_cons (pe_tup (pa_cons (pv 0) (pa_cons (pv 1) pa_nil))) pa_nil)))
  (pss_cons (ps_while PassesOwn.never (pt_cmpR op_gt (pe_callB (VL.lenK K rfl) (by rfl) T.n_len (by decide +kernel) (pa_cons (pv 2) pa_nil)) pe_int (nomark _)) (pss_cons (ps_asg (pe_bm0 PySem.F.plainAttrs_list PySem.F.slot_list_pop PySem.F.type_list_pop mt_pop (pv 2)) (VL.tupTK K rfl (n := 2) rfl (pgs_cons (pg_name (i := 3) sc__law_alike.nd rfl (Or.inl rfl)) (pgs_cons (pg_name (i := 4) sc__law_alike.nd rfl (Or.inl rfl)) pgs_nil))))
  (pss_one (ps_if (pt_val (pe_callB (VL.isiTK K rfl) (by rfl) T.n_isinstance (by decide +kernel) (pa_cons (pv 4) (pa_cons (pe_tup (pa_cons (pe_bltn (v := .ty "tuple") (by rfl) T.n_tuple (by decide +kernel) rfl) (pa_cons (pe_bltn (v := .ty "list") (by rfl) T.n_list (by decide +kernel) rfl) pa_nil))) pa_nil))))
    (pss_cons (ps_if (PW.pt (pw_or (pt_cmpR op_ne (pe_callB (VL.isiK K rfl) (by rfl) T.n_isinstance (by decide +kernel) (pa_cons (pv 3) (pa_cons (pe_bltn (v := .ty "tuple") (by rfl) T.n_tuple (by decide +kernel) rfl) pa_nil))) (pe_callB (VL.isiK K rfl) (by rfl) T.n_isinstance (by decide +kernel) (pa_cons (pv 4) (pa_cons (pe_bltn (v := .ty "tuple") (by rfl) T.n_tuple (by decide +kernel) rfl) pa_nil))) (nomark _)) (pw_or1 (pt_cmpR op_ne (pe_callB (VL.isiK K rfl) (by rfl) T.n_isinstance (by decide +kernel) (pa_cons (pv 3) (pa_cons (pe_bltn (v := .ty "list") (by rfl) T.n_list (by decide +kernel) rfl) pa_nil))) (pe_callB (VL.isiK K rfl) (by rfl) T.n_isinstance (by decide +kernel) (pa_cons (pv 4) (pa_cons (pe_bltn (v := .ty "list") (by rfl) T.n_list (by decide +kernel) rfl) pa_nil))) (nomark _)))))
    (pss_one (ps_ret pe_bl))
    pss_nil)
  (pss_cons (ps_if (pt_cmpR op_ne (pe_callB (VL.lenK K rfl) (by rfl) T.n_len (by decide +kernel) (pa_cons (pv 3) pa_nil)) (pe_callB (VL.lenK K rfl) (by rfl) T.n_len (by decide +kernel) (pa_cons (pv 4) pa_nil)) (nomark _))
    (pss_one (ps_ret pe_bl))
    pss_nil)
  (pss_one (ps_expr (pe_bm PySem.F.plainAttrs_list PySem.F.slot_list_extend PySem.F.type_list_extend (VL.extR K rfl) (pv 2) (pa_cons (Fb.pe_listZip K rfl rfl rfl T.n_list rfl T.n_zip (pa_cons (pv 3) (pa_cons (pv 4) pa_nil))) pa_nil))))))
    (pss_one (ps_if (PW.pt (pw_or (pt_val (pe_callB (VL.isiK K rfl) (by rfl) T.n_isinstance (by decide +kernel) (pa_cons (pv 4) (pa_cons (pe_bltn (v := .ty "str") (by rfl) T.n_str (by decide +kernel) rfl) pa_nil)))) (pw_or1 (pt_cmpR op_isN (pv 4) pe_non (nomark _)))))
    (pss_one (ps_if (PW.pt (pw_or (pt_cmpR op_ne (pe_callB (VL.isiK K rfl) (by rfl) T.n_isinstance (by decide +kernel) (pa_cons (pv 3) (pa_cons (pe_bltn (v := .ty "str") (by rfl) T.n_str (by decide +kernel) rfl) pa_nil))) (pe_callB (VL.isiK K rfl) (by rfl) T.n_isinstance (by decide +kernel) (pa_cons (pv 4) (pa_cons (pe_bltn (v := .ty "str") (by rfl) T.n_str (by decide +kernel) rfl) pa_nil))) (nomark _)) (pw_or1 (pt_cmpR op_ne (pv 3) (pv 4) (nomark _)))))
    (pss_one (ps_ret pe_bl))
    pss_nil))
    (pss_one (ps_if (PW.pt (pw_or (pt_not (pt_val (pe_callB (VL.isiK K rfl) (by rfl) T.n_isinstance (by decide +kernel) (pa_cons (pv 3) (pa_cons (pe_bltn (v := .ty "int") (by rfl) T.n_int (by decide +kernel) rfl) pa_nil))))) (pw_or (pt_cmpR op_ne (pe_callB (VL.isiK K rfl) (by rfl) T.n_isinstance (by decide +kernel) (pa_cons (pv 3) (pa_cons (pe_bltn (v := .ty "bool") (by rfl) T.n_bool (by decide +kernel) rfl) pa_nil))) (pe_callB (VL.isiK K rfl) (by rfl) T.n_isinstance (by decide +kernel) (pa_cons (pv 4) (pa_cons (pe_bltn (v := .ty "bool") (by rfl) T.n_bool (by decide +kernel) rfl) pa_nil))) (nomark _)) (pw_or1 (pt_cmpR op_ne (pv 3) (pv 4) (nomark _))))))
    (pss_one (ps_ret pe_bl))
    pss_nil))))))))
  (pss_one (ps_ret pe_bl)))), fn_run0 (pM := [.s, .s]) (M2 := [.l .s, .s, .s]) rfl (fun H0 io av rt hrt => (vs_seq (vs_set (i := 2) (v_lst (va_cons (v_tup (va_cons (VQ.e (q_var (i := 0) rfl)) (va_cons (VQ.e (q_var (i := 1) rfl)) va_nil))) va_nil)) rfl (hrt 2 (by decide)))
  (vs_seq (vs_while (vt_test (VQ.e (q_op (VQ.b (q_ca (vba_cons (b_varL (i := 2) rfl) vba_nil) cd_len)) (VQ.b q_int) od_b0))) (vs_seq (vs_asg (v_pop (i := 2) rfl) (vg_tup (vg_cons (vg_name (i := 3) rfl (hrt 3 (by decide))) (vg_cons (vg_name (i := 4) rfl (hrt 4 (by decide))) vg_nil))))
  (vs_if (vt_b (v_isiT (VQ.e (q_var (i := 4) rfl))))
    (vs_seq (vs_if (vt_or (vt_test (VQ.e (q_op (VQ.b (q_isi (VQ.b (q_var (i := 3) rfl)))) (VQ.b (q_isi (VQ.b (q_var (i := 4) rfl)))) od_ne))) (vt_test (VQ.e (q_op (VQ.b (q_isi (VQ.b (q_var (i := 3) rfl)))) (VQ.b (q_isi (VQ.b (q_var (i := 4) rfl)))) od_ne))))
    (vs_ret (VQ.e q_bl))
    vs_next)
  (vs_seq (vs_if (vt_test (VQ.e (q_op (VQ.b (q_ca (vba_cons (VQ.b (q_var (i := 3) rfl)) vba_nil) cd_len)) (VQ.b (q_ca (vba_cons (VQ.b (q_var (i := 4) rfl)) vba_nil) cd_len)) od_ne)))
    (vs_ret (VQ.e q_bl))
    vs_next)
  (vs_drop (v_ext (i := 2) rfl (VE.s (v_listZip (va_cons (VQ.e (q_var (i := 3) rfl)) (va_cons (VQ.e (q_var (i := 4) rfl)) va_nil))))))))
    (vs_if (vt_or (vt_b (VQ.e (q_isi (VQ.b (q_var (i := 4) rfl))))) (vt_test (VQ.e (q_op (VQ.b (q_var (i := 4) rfl)) (VQ.b q_non) od_isN))))
    (vs_if (vt_or (vt_test (VQ.e (q_op (VQ.b (q_isi (VQ.b (q_var (i := 3) rfl)))) (VQ.b (q_isi (VQ.b (q_var (i := 4) rfl)))) od_ne))) (vt_test (VQ.e (q_op (VQ.b (q_var (i := 3) rfl)) (VQ.b (q_var (i := 4) rfl)) od_ne))))
    (vs_ret (VQ.e q_bl))
    vs_next)
    (vs_if (vt_or (vt_not (vt_b (VQ.e (q_isi (VQ.b (q_var (i := 3) rfl)))))) (vt_or (vt_test (VQ.e (q_op (VQ.b (q_isi (VQ.b (q_var (i := 3) rfl)))) (VQ.b (q_isi (VQ.b (q_var (i := 4) rfl)))) od_ne))) (vt_test (VQ.e (q_op (VQ.b (q_var (i := 3) rfl)) (VQ.b (q_var (i := 4) rfl)) od_ne)))))
    (vs_ret (VQ.e q_bl))
    vs_next)))))
  (vs_ret (VQ.e q_bl))))) (fun ds Qv Qx hl hs => ?_) h⟩
  obtain ⟨d, rfl, hd, hsz, q⟩ := hs
  walk_at "vs"
  refine ⟨by decide, by decide, ?_⟩
  refine wh_inv (fun n e => ∃ L e3 e4, e = [some d, some d, some (.lst (L.map twD)), e3, e4] ∧ okTs L = true ∧ dszs L = n ∧ n ≤ 90000) ?_ (n := dszs [d]) ⟨[d], _, _, rfl, by simp [okTs, hd], rfl, by simp [dszs]; omega⟩
  rintro n e ⟨L, e3, e4, rfl, hL, hn, hn9⟩ K hK
  walk_at "v1"
  rcases List.eq_nil_or_concat L with rfl | ⟨L, x, rfl⟩
  · rw [if_neg (by simp)]
    exact q
  · rw [List.concat_eq_append] at *
    rw [map_snoc]
    rw [if_pos (by simp)]
    refine ⟨_, _, rfl, ?_⟩
    rw [dszs_app] at hn
    rw [okTs_app, Bool.and_eq_true] at hL
    have hx := hL.2
    have hsx : dszs [x] = dsz x := by simp [dszs]
    rw [hsx] at hn
    cases x with
    | tup l =>
      rw [dsz] at hn
      have hx : okTs l = true := by simpa [okTs, okT] using hx
      walk_at "vs"
      simp only [iT_t, i_tt, i_tl, s_gNeB, exists_eq_left', D.bl.injEq, decide_true, Bool.not_true, Bool.false_eq_true, if_false, if_true, s_gNeI]
      rw [zip_self]
      have h1 := dszs_len L
      have h2 := dszs_len l
      refine ⟨smallL (by omega), small (by rw [List.length_map, List.length_map]; omega), ?_⟩
      rw [← List.map_append]
      exact hK (dszs (L ++ l)) _ (by rw [dszs_app]; omega) ⟨L ++ l, _, _, rfl, by rw [okTs_app, hL.1, hx]; rfl, rfl, by rw [dszs_app]; omega⟩
    | str z =>
      walk_at "vs"
      simp only [iT_s, i_ss, s_gNeB, exists_eq_left', D.bl.injEq, decide_true, Bool.not_true, Bool.false_eq_true, if_false, if_true, s_gNeS]
      exact hK (dszs L) _ (by simp [dsz] at hn; omega) ⟨L, _, _, rfl, hL.1, rfl, by omega⟩
    | int i =>
      walk_at "vs"
      simp only [iT_i, i_is, i_ii, i_ib, s_gNeB, exists_eq_left', D.bl.injEq, decide_true, Bool.not_true, Bool.false_eq_true, if_false, if_true, s_gNeI]
      exact hK (dszs L) _ (by simp [dsz] at hn; omega) ⟨L, _, _, rfl, hL.1, rfl, by omega⟩
    | _ => simp [okTs, okT] at hx
end
end K10
set_option Elab.async false
set_option linter.all false
set_option maxRecDepth 100000
set_option maxHeartbeats 4000000
namespace K10
open PySem PySem.Spec PyProof.Rows L2 L2H HotX Fb VL
local macro_rules | `(tactic| walk_at "vs") => `(tactic| simp only [vCell, vDr, vFld, vAppC, vPopC, vSetF, vCallA, vCallAX, vCallX, vMakeA, vMethA, vRaise, vTry, vXf, vChain, vTru, s_truN, s_truB, s_truI, s_truS, s_truL, s_truT, vIsi, vIsiT, vStar, vListZip, vEnum, vZipSL, vPop, vExt, vSetIx, vSetIxC, vRep, s_vgLst, vKGet, s_gMulS, s_gBoolL, s_gStrS, s_gIntS, s_gStrA1, s_gStrA2, s_seqL, s_seqT, cuD_1, ioA, setC, newC, noC, putA, ex_cell, Option.join_some, List.drop_succ_cons, List.drop_zero, s_gInK, s_gInS, s_gIn2, s_gIn3, s_gIn4, s_gIn5, ex_par, vNeg, s_gAny, vCaTd, vOp2Lv, s_callIO, s_io, s_fill0, s_fillN, s_fillS, s_putIO, s_wio0, s_wioN, s_wioS, s_give0, s_giveN, s_giveS, s_giveM, Option.map_some, s_seq, s_next, s_break, s_cont, s_set, s_ret, s_retN, s_drop, s_ifS, s_for, s_asg, s_par, s_var, s_c, s_op2, s_op2L, s_op2T, s_ca, s_caL, s_caT, s_nil, s_cons, s_tup, s_lst, s_test, s_and, s_or, s_not, s_if, s_andV, s_orV, s_notV, s_no, s_part, s_sl, s_slL, s_slT, s_ls, s_ts, s_sgs, s_rng1, s_rng2, s_gName, s_gNil, s_gCons, s_gTup, s_lc, s_yes, s_append, s_call, s_dget, s_get2, s_pNil, s_pCons, s_disp, s_m1, s_split, s_indexD, s_w1, s_w2, s_isStr, s_gI, s_gI0, s_gAddS, s_gS, s_gSg, s_gEqI, s_gEqS, s_gEqB, s_gEqNI, s_gEqIS, s_gEqSI, s_gNeI, s_gNeS, s_gIsN, s_gNotN, s_isNon0, s_isNonI, s_isNonS, s_isNonT, s_isNonL, s_gIxL, s_gIxT, s_gIxS, s_gCat, s_gCatT, s_gSlL, s_gSlT, s_gSlS, s_gLenL, s_gLenT, s_gLenS, s_gSum, s_gI2, s_gInt1, s_gInt1b, s_gStrI, s_gAll, s_gSeqL, s_gSeqT, s_gDGet, s_gGet2, s_kDs, s_kDi, s_ioN, s_ioS, s_ioL, s_ioD, s_ioO, s_nones0, s_nones1, List.map_cons, List.map_nil, List.cons_append, List.nil_append, List.append_nil, List.append_assoc, List.getElem?_cons_zero, List.getElem?_cons_succ, List.set_cons_zero, List.set_cons_succ, Option.some.injEq, exists_eq_left', exists_eq_left, D.int.injEq, D.str.injEq, D.tup.injEq, D.lst.injEq, D.bl.injEq, D.dct.injEq, and_true, true_and, List.length_cons, List.length_nil, exists_and_left, exists_eq, Bool.not_true, Bool.not_false, exists_eq', Nat.zero_le, atI_0, atI_1, atI_2, atI_3, atI_4, atI_5, s_gInD, if_true, if_false, Bool.false_eq_true, Nat.reduceAdd])
local macro_rules | `(tactic| walk_at "v1") => `(tactic| simp only [vCell, vDr, vFld, vAppC, vPopC, vSetF, vCallA, vCallAX, vCallX, vMakeA, vMethA, vRaise, vTry, vXf, vChain, vTru, s_truN, s_truB, s_truI, s_truS, s_truL, s_truT, vIsi, vIsiT, vStar, vListZip, vEnum, vZipSL, vPop, vExt, vSetIx, vSetIxC, vRep, s_vgLst, vKGet, s_gMulS, s_gBoolL, s_gStrS, s_gIntS, s_gStrA1, s_gStrA2, s_seqL, s_seqT, cuD_1, ioA, setC, newC, noC, putA, ex_cell, Option.join_some, List.drop_succ_cons, List.drop_zero, s_gInK, s_gInS, s_gIn2, s_gIn3, s_gIn4, s_gIn5, ex_par, vNeg, s_gAny, vCaTd, vOp2Lv, s_callIO, s_io, s_fill0, s_fillN, s_fillS, s_putIO, s_wio0, s_wioN, s_wioS, s_give0, s_giveN, s_giveS, s_giveM, Option.map_some, s_seq, s_next, s_break, s_cont, s_set, s_ret, s_retN, s_drop, s_for, s_asg, s_par, s_var, s_c, s_op2, s_op2L, s_op2T, s_ca, s_caL, s_caT, s_nil, s_cons, s_tup, s_lst, s_test, s_and, s_or, s_not, s_if, s_andV, s_orV, s_notV, s_no, s_part, s_sl, s_slL, s_slT, s_ls, s_ts, s_sgs, s_rng1, s_rng2, s_gName, s_gNil, s_gCons, s_gTup, s_lc, s_yes, s_append, s_call, s_dget, s_get2, s_pNil, s_pCons, s_disp, s_m1, s_split, s_indexD, s_w1, s_w2, s_isStr, s_gI, s_gI0, s_gAddS, s_gS, s_gSg, s_gEqI, s_gEqS, s_gEqB, s_gEqNI, s_gEqIS, s_gEqSI, s_gNeI, s_gNeS, s_gIsN, s_gNotN, s_isNon0, s_isNonI, s_isNonS, s_isNonT, s_isNonL, s_gIxL, s_gIxT, s_gIxS, s_gCat, s_gCatT, s_gSlL, s_gSlT, s_gSlS, s_gLenL, s_gLenT, s_gLenS, s_gSum, s_gI2, s_gInt1, s_gInt1b, s_gStrI, s_gAll, s_gSeqL, s_gSeqT, s_gDGet, s_gGet2, s_kDs, s_kDi, s_ioN, s_ioS, s_ioL, s_ioD, s_ioO, s_nones0, s_nones1, List.map_cons, List.map_nil, List.cons_append, List.nil_append, List.append_nil, List.append_assoc, List.getElem?_cons_zero, List.getElem?_cons_succ, List.set_cons_zero, List.set_cons_succ, Option.some.injEq, exists_eq_left', exists_eq_left, D.int.injEq, D.str.injEq, D.tup.injEq, D.lst.injEq, D.bl.injEq, D.dct.injEq, and_true, true_and, List.length_cons, List.length_nil, exists_and_left, exists_eq, Bool.not_true, Bool.not_false, exists_eq', Nat.zero_le, atI_0, atI_1, atI_2, atI_3, atI_4, atI_5, s_gInD, if_true, if_false, Bool.false_eq_true, Nat.reduceAdd])
section
variable {P : Program} {w : World} {K : PySem.W.Frag} {mg : Str → Option Value} {base : Heap} {a_Reading a_BindError a_NoText a_SIGNS a_MODES a_WORDS a_SHAPES a_WITH_BLOCKS : Addr}
/-! ### names -/
def pr (z : Str) : Prop := ∀ c ∈ z.cps.toList, 33 ≤ c ∧ c ≤ 126
theorem pr_app {x y : Str} (hx : pr x) (hy : pr y) : pr (x ++ y) := fun c h => by
  have z : c ∈ x.cps.toList ++ y.cps.toList := by
    rw [PySem.Str.cps_append, Array.toList_append] at h
    exact h
  rcases List.mem_append.mp z with q | q
  · exact hx c q
  · exact hy c q
theorem pr_cut {x : Str} {a b : Option Int} (h : pr x) : pr (cutS x a b) := fun c hc => by
  have z : c ∈ (x.cps.toList.drop (HT.sIx x.length 0 a)).take (HT.sIx x.length x.length b - HT.sIx x.length 0 a) := by
    unfold cutS at hc
    simpa using hc
  exact h c (List.mem_of_mem_drop (List.mem_of_mem_take z))
theorem pr_one {c : Nat} (h : 33 ≤ c ∧ c ≤ 126) : pr ⟨#[c]⟩ := fun x hx => by
  have z : x = c := by simpa using hx
  rw [z]
  exact h
theorem pr_nil : pr Str.empty := fun c h => by
  have z : c ∈ ([] : List Nat) := h
  cases z
theorem len_app (x y : Str) : (x ++ y).length = x.length + y.length := PySem.Str.length_append x y
theorem len_one (c : Nat) : (⟨#[c]⟩ : Str).length = 1 := rfl
theorem cut_len (z : Str) (a b : Option Int) : (cutS z a b).length ≤ z.length := L2.cutS_length z a b
theorem e_0 : (Str.ofString "").length = 0 := by decide +kernel
theorem join_len : ∀ ys : List Str, (Txt.join (Str.ofString "") ys).length = (ys.map (·.length)).sum := by
  intro ys
  rw [TL.join_eq]
  induction ys with
  | nil => rfl
  | cons x r ih =>
    cases r with
    | nil => rfl
    | cons y q =>
      show (x ++ (Str.ofString "") ++ Str.join (Str.ofString "") (y :: q)).length = x.length + ((y :: q).map (·.length)).sum
      rw [len_app, len_app, ih, e_0]
      omega
theorem join_pr : ∀ ys : List Str, (∀ y ∈ ys, pr y) → pr (Txt.join (Str.ofString "") ys) := by
  intro ys h
  rw [TL.join_eq]
  induction ys with
  | nil => exact pr_nil
  | cons x r ih =>
    cases r with
    | nil => exact h x List.mem_cons_self
    | cons y q =>
      show pr (x ++ (Str.ofString "") ++ Str.join (Str.ofString "") (y :: q))
      exact pr_app (pr_app (h x List.mem_cons_self) (by intro c hc; exact absurd hc (by rw [show (Str.ofString "").cps.toList = [] by decide +kernel]; simp))) (ih fun z hz => h z (List.mem_cons_of_mem _ hz))
theorem ones_sum : ∀ ys : List Str, (∀ y ∈ ys, y.length = 1) → (ys.map (·.length)).sum = ys.length
  | [], _ => rfl
  | y :: r, h => by
    rw [List.map_cons, List.sum_cons, h y List.mem_cons_self, ones_sum r fun z hz => h z (List.mem_cons_of_mem _ hz), List.length_cons]
    omega
theorem atI_ok {α : Type} {xs : List α} {i : Int} (h0 : 0 ≤ i) (h1 : i < xs.length) : ∃ v, atI xs i = some v ∧ v ∈ xs := by
  have hl : i.toNat < xs.length := by omega
  refine ⟨xs[i.toNat], ?_, List.getElem_mem hl⟩
  have z := atI_n (l := xs) (n := i.toNat)
  rw [show ((i.toNat : Nat) : Int) = i by omega] at z
  rw [z]
  exact List.getElem?_eq_getElem hl
abbrev abc : Str := Str.ofString "abcdefghijklmnopqrstuvwxyz"
theorem len_abc : abc.cps.toList.length = 26 := by decide +kernel
theorem len_abc2 : abc.length = 26 := by decide +kernel
theorem pr_abc : ∀ c ∈ abc.cps.toList, 33 ≤ c ∧ c ≤ 126 := by decide +kernel
theorem lc_inv {vs : List Nat} {vg : VTG} {ft : VTB} {fe : VT} {Q : List D → VL.Env → Prop} (I : List D → VL.Env → Prop) : ∀ (ds acc : List D) (e : VL.Env), acc.length + ds.length ≤ sizeLine → I acc e →
    (∀ d ∈ ds, ∀ acc e, I acc e → ∀ (A : D → VL.Env → Prop) (B : VL.Env → Prop), (∀ y e3, I (acc ++ [y]) (wipeE e3 vs) → A y e3) → vg d e fun e1 => ft e1 (fun b e2 => if b = true then fe e2 A noX else B e2) noX) →
    (∀ acc' e', acc'.length = acc.length + ds.length → I acc' e' → Q acc' e') → vLcL vs vg ft fe Q ds acc e
  | [], acc, e, _, i, _, q => q acc e (by simp) i
  | d :: ds, acc, e, hl, i, h, q => by
    rw [List.length_cons] at hl
    rw [s_lcCons]
    refine h d List.mem_cons_self acc e i _ _ fun y e3 i' => ⟨by omega, ?_⟩
    refine lc_inv I ds (acc ++ [y]) _ (by rw [List.length_append, List.length_singleton]; omega) i' (fun d' z => h d' (List.mem_cons_of_mem _ z)) fun acc' e' hl' i'' => q acc' e' (by rw [hl', List.length_append, List.length_singleton, List.length_cons]; omega) i''
def DealV (d : D) : Prop := ∃ s n ns, d = dealV s n ns ∧ dealOk s n ns
theorem draw_use {dl : D} {k : Int} {Q : D → VL.Env → Prop} {E : QX} (h : DealV dl) (h0 : 0 < k) (h1 : k < 4611686018427387904) (q : ∀ r dl', 0 ≤ r → r < k → DealV dl' → Q (.int r) [some dl', none]) : vpDraw [dl, .int k] Q E := by
  obtain ⟨s, n, ns, rfl, ok⟩ := h
  exact ⟨s, n, ns, k, rfl, ok, h0, h1, fun r s' n' ns' a b c => q r _ a b ⟨s', n', ns', rfl, c⟩⟩
def nameOk (z : Str) : Prop := z.length ≤ 10 ∧ pr z
theorem rng_len {n : Nat} {lo : Int} : (rngD lo n).length = n := by simp [rngD]
theorem rng_mem {n : Nat} {d : D} (h : d ∈ rngD 0 n) : ∃ i : Int, d = .int i ∧ 0 ≤ i ∧ i < n := by
  obtain ⟨i, hi, rfl⟩ := List.mem_map.mp h
  exact ⟨_, rfl, by omega, by have := List.mem_range.mp hi; omega⟩
theorem mul_q (b : Bool) : PySem.MulOk (Str.ofString "q") (if b = true then 1 else 0) ∧ (Txt.mul (Str.ofString "q") (if b = true then 1 else 0)).length ≤ 1 ∧ pr (Txt.mul (Str.ofString "q") (if b = true then 1 else 0)) := by
  have e : Str.ofString "q" = S [113] := by decide +kernel
  obtain ⟨h1, h2⟩ := mul_sg 113 (k := if b = true then 1 else 0) (by cases b <;> decide) (by cases b <;> decide)
  rw [e]
  refine ⟨h1, ?_, ?_⟩
  · rw [h2, S_len, List.length_replicate]
    cases b <;> decide
  · rw [h2]
    intro c hc
    have : c ∈ List.replicate ((if b = true then 1 else 0 : Int)).toNat 113 := by simpa [S] using hc
    rw [List.eq_of_mem_replicate this]
    decide
def vpWords : VSp := fun ds Q _ => ∃ dl, ∃ n : Nat, ds = [dl, .int n] ∧ DealV dl ∧ 1 ≤ n ∧ n ≤ 10 ∧ ∀ dl' (ns : List Str), DealV dl' → ns.length = n → (∀ z ∈ ns, nameOk z) → Q (.lst (ns.map D.str)) [some dl', none]
theorem sc__law_words : FnScope ["_law_deal_here", "_law_many", "_law_letters", "_law_stem", "_law_at", "_law_turn", "_law_found", "_law_taken", "_law_k", "_law_name"] ["_law_deal_here", "_law_many"] (defScope s__law_words) := ⟨rfl, rfl, rfl, by decide +kernel, rfl, by decide +kernel, by decide +kernel⟩
theorem ok__law_words (T : Top K w mg a_Reading a_BindError a_NoText a_SIGNS a_MODES a_WORDS a_SHAPES a_WITH_BLOCKS) : C8.Cal P w K mg base 2 "_law_words" (spOf K [dealSh, .s] .s (vpWords)) [] := by
  have C_law_draw := ok__law_draw (P := P) (w := w) (base := base) T
  obtain ⟨f, fd, F, gm⟩ := T.h__law_words
  refine ⟨f, fd, ["_law_deal_here", "_law_many"], [], ?_, gm, F.kp, F.binds (fun _ _ _ _ _ _ us hl => match us, hl with | [_, _], _ => rfl), .nil⟩
  refine F.ok sc__law_words (fun vs H Q E h => h.len) (fun cdv A outer s H vs Q E hr h => ?_)
  have hu := hu_of hr
  have hu64 : (A.deeper (envOfC "_law_words" (defScope s__law_words) s.heap.objs.size f cdv)).units + 64 < cLine := by have := hr.un; omega
  have hu65 : (A.deeper (envOfC "_law_words" (defScope s__law_words) s.heap.objs.size f cdv)).units + 65 < cLine := by have := hr.un; omega
  refine ⟨_, (pss_cons (ps_set (i := 2) sc__law_words.nd rfl (Or.inr rfl) pe_str)
  (pss_cons (ps_set (i := 3) sc__law_words.nd rfl (Or.inr rfl) (pe_join pe_str (pe_lc (own := [("_law_k", 8)]) rfl sc__law_words.nd (pi_range1 rfl T.n_range (pa_cons (C8.pe_c C_law_draw hr (by omega) rfl (pa_cons (pv 0) (pa_cons pe_int pa_nil))) pa_nil)) (blkOk_by (own := [("_law_k", 8)]) (N := ["_law_deal_here", "_law_many", "_law_letters", "_law_stem", "_law_at", "_law_turn", "_law_found", "_law_taken", "_law_k", "_law_name"]) (sc := defScope s__law_words) (by decide +kernel)) (fun _ _ _ _ _ => (pg_name (i := 8) sc__law_words.nd rfl (Or.inl rfl))) (fun _ _ _ _ _ => pts_nil) (fun _ _ _ _ _ => (pe_ix ix_str (pv 2) (C8.pe_c C_law_draw hr (by omega) rfl (pa_cons (pv 0) (pa_cons pe_int pa_nil))) (fun _ _ => rfl))))))
  (pss_cons (ps_asg (pe_tup (pa_cons (C8.pe_c C_law_draw hr (by omega) rfl (pa_cons (pv 0) (pa_cons (pe_op op_add (pe_callB call_len_str (by rfl) T.n_len (by decide +kernel) (pa_cons (pv 3) pa_nil)) pe_int) pa_nil))) (pa_cons (C8.pe_c C_law_draw hr (by omega) rfl (pa_cons (pv 0) (pa_cons pe_int pa_nil))) pa_nil))) (VL.tupTK K rfl (n := 2) rfl (pgs_cons (pg_name (i := 4) sc__law_words.nd rfl (Or.inr rfl)) (pgs_cons (pg_name (i := 5) sc__law_words.nd rfl (Or.inr rfl)) pgs_nil))))
  (pss_cons (ps_setLc (i := 6) (own := [("_law_k", 8)]) rfl sc__law_words.nd rfl rfl (sw_true rfl rfl rfl (by decide +kernel)) (pi_range1 rfl T.n_range (pa_cons (pv 1) pa_nil)) (blkOk_by (own := [("_law_k", 8)]) (N := ["_law_deal_here", "_law_many", "_law_letters", "_law_stem", "_law_at", "_law_turn", "_law_found", "_law_taken", "_law_k", "_law_name"]) (sc := defScope s__law_words) (by decide +kernel)) (fun _ _ _ _ _ => (pg_name (i := 8) sc__law_words.nd rfl (Or.inl rfl))) (fun _ _ _ _ _ => pts_nil) (fun _ _ _ _ _ => (pe_op op_add_str (pe_op op_add_str (pe_slice sl_str (pv 3) po_none (po_some (pv 4))) (pe_ix ix_str (pv 2) (pe_op op_mod (pe_op op_add (pv 5) (pv 8)) pe_int) (fun _ _ => rfl))) (pe_slice sl_str (pv 3) (po_some (pv 4)) po_none))))
  (pss_cons (ps_set (i := 7) sc__law_words.nd rfl (Or.inr rfl) (pe_split pe_str pe_str))
  (pss_one (ps_ret (pe_lc (own := [("_law_name", 9)]) rfl sc__law_words.nd (VL.piLK K rfl (pv 6)) (blkOk_by (own := [("_law_name", 9)]) (N := ["_law_deal_here", "_law_many", "_law_letters", "_law_stem", "_law_at", "_law_turn", "_law_found", "_law_taken", "_law_k", "_law_name"]) (sc := defScope s__law_words) (by decide +kernel)) (fun _ _ _ _ _ => (pg_name (i := 9) sc__law_words.nd rfl (Or.inl rfl))) (fun _ _ _ _ _ => pts_nil) (fun _ _ _ _ _ => (pe_op op_add_str (pv 9) (pe_op VL.op_mulS pe_str (pe_callTy call_int1 (by rfl) T.n_int (by decide +kernel) (pa_cons (pe_cmpR (VL.inK K rfl) (pv 9) (pv 7) (by rfl)) pa_nil))))))))))))), fn_run0 (pM := [dealSh, .s]) (M2 := [.s, .s, .s, .s, .s, .s, .s, .s]) rfl (fun H0 io av rt hrt => (vs_seq (vs_set (i := 2) (VQ.e q_str) rfl (hrt 2 (by decide)))
  (vs_seq (vs_set (i := 3) (v_join (VQ.e q_str) (VE.s (v_lc (vs := [8]) (vi_rng1 (va_cons (v_callIO (vax_io (i := 0) rfl (vax_cons (VQ.e q_int) vax_nil)) ⟨rfl, rfl, (by decide), rfl, trivial⟩) va_nil)) (vg_name (i := 8) rfl (hrt 8 (by decide))) vt_yes (v_op (VQ.e (q_var (i := 2) rfl)) (v_callIO (vax_io (i := 0) rfl (vax_cons (VQ.e q_int) vax_nil)) ⟨rfl, rfl, (by decide), rfl, trivial⟩) od_ixS) (by decide) (fun i hi => hrt i (by revert i; decide))))) rfl (hrt 3 (by decide)))
  (vs_seq (vs_asg (v_tup (va_cons (v_callIO (vax_io (i := 0) rfl (vax_cons (VQ.e (q_op (VQ.b (q_ca (vba_cons (VQ.b (q_var (i := 3) rfl)) vba_nil) cd_lenS)) (VQ.b q_int) od_i0)) vax_nil)) ⟨rfl, rfl, (by decide), rfl, trivial⟩) (va_cons (v_callIO (vax_io (i := 0) rfl (vax_cons (VQ.e q_int) vax_nil)) ⟨rfl, rfl, (by decide), rfl, trivial⟩) va_nil))) (vg_tup (vg_cons (vg_name (i := 4) rfl (hrt 4 (by decide))) (vg_cons (vg_name (i := 5) rfl (hrt 5 (by decide))) vg_nil))))
  (vs_seq (vs_set (i := 6) (VE.s (v_lc (vs := [8]) (vi_rng1 (va_cons (VQ.e (q_var (i := 1) rfl)) va_nil)) (vg_name (i := 8) rfl (hrt 8 (by decide))) vt_yes (v_op (v_op (v_sl (VQ.e (q_var (i := 3) rfl)) vo_none (vo_some (VQ.e (q_var (i := 4) rfl))) od_sl) (VQ.e (q_op (VQ.b (q_var (i := 2) rfl)) (VQ.b (q_op (VQ.b (q_op (VQ.b (q_var (i := 5) rfl)) (VQ.b (q_var (i := 8) rfl)) od_i0)) (VQ.b q_int) od_i)) od_ixS)) od_addS) (v_sl (VQ.e (q_var (i := 3) rfl)) (vo_some (VQ.e (q_var (i := 4) rfl))) vo_none od_sl) od_addS) (by decide) (fun i hi => hrt i (by revert i; decide)))) rfl (hrt 6 (by decide)))
  (vs_seq (vs_set (i := 7) (VE.s (v_split (VQ.e q_str) (VQ.e q_str))) rfl (hrt 7 (by decide)))
  (vs_ret (VE.s (v_lc (vs := [9]) (vi_list (VQ.e (q_var (i := 6) rfl))) (vg_name (i := 9) rfl (hrt 9 (by decide))) vt_yes (VQ.e (q_op (VQ.b (q_var (i := 9) rfl)) (VQ.b (q_op (VQ.b q_str) (VQ.b (q_ca (vba_cons (VQ.b (q_op (VQ.b (q_var (i := 9) rfl)) (VQ.b (q_var (i := 7) rfl)) od_in)) vba_nil) cd_int1)) od_mulS)) od_addS)) (by decide) (fun i hi => hrt i (by revert i; decide))))))))))) (fun ds Qv Qx hl hs => ?_) h⟩
  obtain ⟨dl, n, rfl, hdl, h1, h2, q⟩ := hs
  walk_at "vs"
  refine draw_use hdl (by decide) (by decide) fun r1 dl1 a1 b1 hdl1 => ?_
  refine ⟨r1, rfl, by omega, by omega, ?_⟩
  walk_at "vs"
  refine lc_inv (fun acc e => ∃ (ys : List Str) (dl : D), acc = ys.map D.str ∧ (∀ y ∈ ys, y.length = 1) ∧ (∀ y ∈ ys, pr y) ∧ DealV dl ∧ e = [some dl, some (D.int n), some (D.str abc), none, none, none, none, none, none, none]) _ _ _ (by rw [rng_len]; exact small (by simp; omega)) ⟨[], dl1, rfl, by simp, by simp, hdl1, rfl⟩ ?_ ?_
  · rintro d hd acc e ⟨ys, dl, rfl, h3, h4, h5, rfl⟩ A B hA
    walk_at "vs"
    refine draw_use h5 (by decide) (by decide) fun r dl' ra rb hdl' => ?_
    walk_at "vs"
    obtain ⟨c, hc, mc⟩ := atI_ok (xs := abc.cps.toList) (i := r) ra (by rw [len_abc]; exact rb)
    refine ⟨small (by rw [len_abc2]; decide), c, hc, hA _ _ ⟨ys ++ [⟨#[c]⟩], dl', by simp, fun y hy => ?_, fun y hy => ?_, hdl', rfl⟩⟩
    · rcases List.mem_append.mp hy with z | z
      · exact h3 y z
      · rw [List.mem_singleton.mp z]
        rfl
    · rcases List.mem_append.mp hy with z | z
      · exact h4 y z
      · rw [List.mem_singleton.mp z]
        exact pr_one (pr_abc c mc)
  · rintro acc e hl ⟨ys, dl, rfl, h3, h4, h5, rfl⟩
    rw [List.length_map, rng_len, List.length_nil] at hl
    walk_at "vs"
    have hs := ones_sum ys h3
    refine ⟨ys, rfl, by rw [hs, e_0]; omega, ?_⟩
    have hj := join_len ys
    rw [hs] at hj
    have hp := join_pr ys h4
    revert hj hp
    generalize Txt.join (Str.ofString "") ys = stem
    intro hj hp
    have hsl : stem.length ≤ 4 := by omega
    walk_at "vs"
    refine ⟨small (by omega), draw_use h5 (by omega) (by omega) fun r2 dl2 a2 b2 hdl2 => ?_⟩
    walk_at "vs"
    refine draw_use hdl2 (by decide) (by decide) fun r3 dl3 a3 b3 hdl3 => ?_
    walk_at "vs"
    refine ⟨by decide, _, rfl, by omega, by omega, ?_⟩
    refine lc_inv (fun acc e => ∃ ys : List Str, acc = ys.map D.str ∧ (∀ y ∈ ys, y.length ≤ 9 ∧ pr y) ∧ e = [some dl3, some (D.int n), some (D.str abc), some (.str stem), some (.int r2), some (.int r3), none, none, none, none]) _ _ _ (by rw [rng_len]; exact small (by simp; omega)) ⟨[], rfl, by simp, rfl⟩ ?_ ?_
    · rintro d hd acc e ⟨ys, rfl, h6, rfl⟩ A B hA
      obtain ⟨i, rfl, i0, i1⟩ := rng_mem hd
      walk_at "vs"
      have m1 : 0 ≤ (r3 + i) % 26 := by omega
      have m2 : (r3 + i) % 26 < 26 := by omega
      obtain ⟨c, hc, mc⟩ := atI_ok (xs := abc.cps.toList) m1 (by rw [len_abc]; exact m2)
      have l1 := cut_len stem none (some r2)
      have l2 := cut_len stem (some r2) none
      refine ⟨small (by omega), by decide, small (by rw [len_abc2]; decide), c, hc, small (by rw [len_one]; omega), small (by omega), small (by rw [len_app, len_one]; omega), hA _ _ ⟨ys ++ [_], by rw [List.map_append]; rfl, fun y hy => ?_, rfl⟩⟩
      rcases List.mem_append.mp hy with z | z
      · exact h6 y z
      · rw [List.mem_singleton.mp z]
        exact ⟨by rw [len_app, len_app, len_one]; omega, pr_app (pr_app (pr_cut hp) (pr_one (pr_abc c mc))) (pr_cut hp)⟩
    · rintro acc e hl ⟨ys, rfl, h6, rfl⟩
      rw [List.length_map, rng_len, List.length_nil] at hl
      walk_at "vs"
      refine ⟨sp1, by decide +kernel, ?_⟩
      generalize Txt.split (Str.ofString "let fn call set tell if else while times own one give end") (Str.ofString " ") = tk
      refine lc_inv (fun acc e => ∃ ns : List Str, acc = ns.map D.str ∧ (∀ y ∈ ns, nameOk y) ∧ e = [some dl3, some (D.int n), some (D.str abc), some (.str stem), some (.int r2), some (.int r3), some (.lst (List.map D.str ys)), some (.lst (List.map D.str tk)), none, none]) _ _ _ (by simp; exact small (by omega)) ⟨[], rfl, by simp, rfl⟩ ?_ ?_
      · rintro d hd acc e ⟨ns, rfl, h7, rfl⟩ A B hA
        obtain ⟨y, hy, rfl⟩ := List.mem_map.mp hd
        walk_at "vs"
        obtain ⟨k1, k2, k3⟩ := mul_q (decide (y ∈ tk))
        have h6 := h6 y hy
        refine ⟨k1, small (by omega), hA _ _ ⟨ns ++ [_], by rw [List.map_append]; rfl, fun z hz => ?_, rfl⟩⟩
        rcases List.mem_append.mp hz with z | z
        · exact h7 _ z
        · rw [List.mem_singleton.mp z]
          exact ⟨by rw [len_app]; omega, pr_app h6.2 k3⟩
      · rintro acc e hl2 ⟨ns, rfl, h7, rfl⟩
        rw [List.length_map, List.length_map, List.length_nil] at hl2
        exact q _ ns hdl3 (by omega) h7
end
end K10
set_option Elab.async false
set_option linter.all false
set_option maxRecDepth 100000
set_option maxHeartbeats 4000000
namespace K10
open PySem PySem.Spec PyProof.Rows L2 L2H HotX Fb VL
local macro_rules | `(tactic| walk_at "vs") => `(tactic| simp only [vCell, vDr, vFld, vAppC, vPopC, vSetF, vCallA, vCallAX, vCallX, vMakeA, vMethA, vRaise, vTry, vXf, vChain, vTru, s_truN, s_truB, s_truI, s_truS, s_truL, s_truT, vIsi, vIsiT, vStar, vListZip, vEnum, vZipSL, vPop, vExt, vSetIx, vSetIxC, vRep, s_vgLst, vKGet, s_gMulS, s_gBoolL, s_gStrS, s_gIntS, s_gStrA1, s_gStrA2, s_seqL, s_seqT, cuD_1, ioA, setC, newC, noC, putA, ex_cell, Option.join_some, List.drop_succ_cons, List.drop_zero, s_gInK, s_gInS, s_gIn2, s_gIn3, s_gIn4, s_gIn5, ex_par, vNeg, s_gAny, vCaTd, vOp2Lv, s_callIO, s_io, s_fill0, s_fillN, s_fillS, s_putIO, s_wio0, s_wioN, s_wioS, s_give0, s_giveN, s_giveS, s_giveM, Option.map_some, s_seq, s_next, s_break, s_cont, s_set, s_ret, s_retN, s_drop, s_ifS, s_for, s_asg, s_par, s_var, s_c, s_op2, s_op2L, s_op2T, s_ca, s_caL, s_caT, s_nil, s_cons, s_tup, s_lst, s_test, s_and, s_or, s_not, s_if, s_andV, s_orV, s_notV, s_no, s_part, s_sl, s_slL, s_slT, s_ls, s_ts, s_sgs, s_rng1, s_rng2, s_gName, s_gNil, s_gCons, s_gTup, s_lc, s_yes, s_append, s_call, s_dget, s_get2, s_pNil, s_pCons, s_disp, s_m1, s_split, s_indexD, s_w1, s_w2, s_isStr, s_gI, s_gI0, s_gAddS, s_gS, s_gSg, s_gEqI, s_gEqS, s_gEqB, s_gEqNI, s_gEqIS, s_gEqSI, s_gNeI, s_gNeS, s_gIsN, s_gNotN, s_isNon0, s_isNonI, s_isNonS, s_isNonT, s_isNonL, s_gIxL, s_gIxT, s_gIxS, s_gCat, s_gCatT, s_gSlL, s_gSlT, s_gSlS, s_gLenL, s_gLenT, s_gLenS, s_gSum, s_gI2, s_gInt1, s_gInt1b, s_gStrI, s_gAll, s_gSeqL, s_gSeqT, s_gDGet, s_gGet2, s_kDs, s_kDi, s_ioN, s_ioS, s_ioL, s_ioD, s_ioO, s_nones0, s_nones1, List.map_cons, List.map_nil, List.cons_append, List.nil_append, List.append_nil, List.append_assoc, List.getElem?_cons_zero, List.getElem?_cons_succ, List.set_cons_zero, List.set_cons_succ, Option.some.injEq, exists_eq_left', exists_eq_left, D.int.injEq, D.str.injEq, D.tup.injEq, D.lst.injEq, D.bl.injEq, D.dct.injEq, and_true, true_and, List.length_cons, List.length_nil, exists_and_left, exists_eq, Bool.not_true, Bool.not_false, exists_eq', Nat.zero_le, atI_0, atI_1, atI_2, atI_3, atI_4, atI_5, s_gInD, if_true, if_false, Bool.false_eq_true, Nat.reduceAdd])
local macro_rules | `(tactic| walk_at "v1") => `(tactic| simp only [vCell, vDr, vFld, vAppC, vPopC, vSetF, vCallA, vCallAX, vCallX, vMakeA, vMethA, vRaise, vTry, vXf, vChain, vTru, s_truN, s_truB, s_truI, s_truS, s_truL, s_truT, vIsi, vIsiT, vStar, vListZip, vEnum, vZipSL, vPop, vExt, vSetIx, vSetIxC, vRep, s_vgLst, vKGet, s_gMulS, s_gBoolL, s_gStrS, s_gIntS, s_gStrA1, s_gStrA2, s_seqL, s_seqT, cuD_1, ioA, setC, newC, noC, putA, ex_cell, Option.join_some, List.drop_succ_cons, List.drop_zero, s_gInK, s_gInS, s_gIn2, s_gIn3, s_gIn4, s_gIn5, ex_par, vNeg, s_gAny, vCaTd, vOp2Lv, s_callIO, s_io, s_fill0, s_fillN, s_fillS, s_putIO, s_wio0, s_wioN, s_wioS, s_give0, s_giveN, s_giveS, s_giveM, Option.map_some, s_seq, s_next, s_break, s_cont, s_set, s_ret, s_retN, s_drop, s_for, s_asg, s_par, s_var, s_c, s_op2, s_op2L, s_op2T, s_ca, s_caL, s_caT, s_nil, s_cons, s_tup, s_lst, s_test, s_and, s_or, s_not, s_if, s_andV, s_orV, s_notV, s_no, s_part, s_sl, s_slL, s_slT, s_ls, s_ts, s_sgs, s_rng1, s_rng2, s_gName, s_gNil, s_gCons, s_gTup, s_lc, s_yes, s_append, s_call, s_dget, s_get2, s_pNil, s_pCons, s_disp, s_m1, s_split, s_indexD, s_w1, s_w2, s_isStr, s_gI, s_gI0, s_gAddS, s_gS, s_gSg, s_gEqI, s_gEqS, s_gEqB, s_gEqNI, s_gEqIS, s_gEqSI, s_gNeI, s_gNeS, s_gIsN, s_gNotN, s_isNon0, s_isNonI, s_isNonS, s_isNonT, s_isNonL, s_gIxL, s_gIxT, s_gIxS, s_gCat, s_gCatT, s_gSlL, s_gSlT, s_gSlS, s_gLenL, s_gLenT, s_gLenS, s_gSum, s_gI2, s_gInt1, s_gInt1b, s_gStrI, s_gAll, s_gSeqL, s_gSeqT, s_gDGet, s_gGet2, s_kDs, s_kDi, s_ioN, s_ioS, s_ioL, s_ioD, s_ioO, s_nones0, s_nones1, List.map_cons, List.map_nil, List.cons_append, List.nil_append, List.append_nil, List.append_assoc, List.getElem?_cons_zero, List.getElem?_cons_succ, List.set_cons_zero, List.set_cons_succ, Option.some.injEq, exists_eq_left', exists_eq_left, D.int.injEq, D.str.injEq, D.tup.injEq, D.lst.injEq, D.bl.injEq, D.dct.injEq, and_true, true_and, List.length_cons, List.length_nil, exists_and_left, exists_eq, Bool.not_true, Bool.not_false, exists_eq', Nat.zero_le, atI_0, atI_1, atI_2, atI_3, atI_4, atI_5, s_gInD, if_true, if_false, Bool.false_eq_true, Nat.reduceAdd])
section
variable {P : Program} {w : World} {K : PySem.W.Frag} {mg : Str → Option Value} {base : Heap} {a_Reading a_BindError a_NoText a_SIGNS a_MODES a_WORDS a_SHAPES a_WITH_BLOCKS : Addr}
def atOk (d : D) : Prop := (∃ z, d = .str z ∧ nameOk z) ∨ ∃ i : Int, d = .int i ∧ 0 ≤ i ∧ i < 1000000000
def vpAnyAtom : VSp := fun ds Q _ => ∃ dl, ∃ ns : List Str, ds = [dl, .lst (ns.map D.str)] ∧ DealV dl ∧ 1 ≤ ns.length ∧ ns.length ≤ 10 ∧ (∀ z ∈ ns, nameOk z) ∧ ∀ dl' d, DealV dl' → atOk d → Q d [some dl', none]
theorem sc__law_any_atom : FnScope ["_law_deal_here", "_law_names"] ["_law_deal_here", "_law_names"] (defScope s__law_any_atom) := ⟨rfl, rfl, rfl, by decide +kernel, rfl, by decide +kernel, by decide +kernel⟩
theorem ok__law_any_atom (T : Top K w mg a_Reading a_BindError a_NoText a_SIGNS a_MODES a_WORDS a_SHAPES a_WITH_BLOCKS) : C8.Cal P w K mg base 2 "_law_any_atom" (spOf K [dealSh, .s] .s (vpAnyAtom)) [] := by
  have C_law_draw := ok__law_draw (P := P) (w := w) (base := base) T
  obtain ⟨f, fd, F, gm⟩ := T.h__law_any_atom
  refine ⟨f, fd, ["_law_deal_here", "_law_names"], [], ?_, gm, F.kp, F.binds (fun _ _ _ _ _ _ us hl => match us, hl with | [_, _], _ => rfl), .nil⟩
  refine F.ok sc__law_any_atom (fun vs H Q E h => h.len) (fun cdv A outer s H vs Q E hr h => ?_)
  have hu := hu_of hr
  have hu64 : (A.deeper (envOfC "_law_any_atom" (defScope s__law_any_atom) s.heap.objs.size f cdv)).units + 64 < cLine := by have := hr.un; omega
  have hu65 : (A.deeper (envOfC "_law_any_atom" (defScope s__law_any_atom) s.heap.objs.size f cdv)).units + 65 < cLine := by have := hr.un; omega
  refine ⟨_, (pss_cons (ps_if (pt_cmpR op_eq (C8.pe_c C_law_draw hr (by omega) rfl (pa_cons (pv 0) (pa_cons pe_int pa_nil))) pe_int (nomark _))
    (pss_one (ps_ret (pe_ix (VL.ixL K rfl) (pv 1) (C8.pe_c C_law_draw hr (by omega) rfl (pa_cons (pv 0) (pa_cons (pe_callB (VL.lenK K rfl) (by rfl) T.n_len (by decide +kernel) (pa_cons (pv 1) pa_nil)) pa_nil))) (fun _ _ => rfl))))
    pss_nil)
  (pss_one (ps_ret (pe_ix (VL.ixL K rfl) (pe_lst (pa_cons pe_int (pa_cons pe_int (pa_cons pe_int (pa_cons pe_int (pa_cons (C8.pe_c C_law_draw hr (by omega) rfl (pa_cons (pv 0) (pa_cons pe_int pa_nil))) pa_nil)))))) (C8.pe_c C_law_draw hr (by omega) rfl (pa_cons (pv 0) (pa_cons pe_int pa_nil))) (fun _ _ => rfl))))), fn_run0 (pM := [dealSh, .s]) (M2 := []) rfl (fun H0 io av rt hrt => (vs_seq (vs_if (vt_test (v_op (v_callIO (vax_io (i := 0) rfl (vax_cons (VQ.e q_int) vax_nil)) ⟨rfl, rfl, (by decide), rfl, trivial⟩) (VQ.e q_int) od_eq))
    (vs_ret (v_op (VQ.e (q_var (i := 1) rfl)) (v_callIO (vax_io (i := 0) rfl (vax_cons (VQ.e (q_ca (vba_cons (VQ.b (q_var (i := 1) rfl)) vba_nil) cd_len)) vax_nil)) ⟨rfl, rfl, (by decide), rfl, trivial⟩) od_ixL))
    vs_next)
  (vs_ret (v_op (VE.s (v_lst (va_cons (VQ.e q_int) (va_cons (VQ.e q_int) (va_cons (VQ.e q_int) (va_cons (VQ.e q_int) (va_cons (v_callIO (vax_io (i := 0) rfl (vax_cons (VQ.e q_int) vax_nil)) ⟨rfl, rfl, (by decide), rfl, trivial⟩) va_nil))))))) (v_callIO (vax_io (i := 0) rfl (vax_cons (VQ.e q_int) vax_nil)) ⟨rfl, rfl, (by decide), rfl, trivial⟩) od_ixL)))) (fun ds Qv Qx hl hs => ?_) h⟩
  obtain ⟨dl, ns, rfl, hdl, h1, h2, hns, q⟩ := hs
  walk_at "vs"
  refine draw_use hdl (by decide) (by decide) fun r1 dl1 a1 b1 hdl1 => ?_
  walk_at "vs"
  by_cases h0 : r1 = 0
  · rw [if_pos (decide_eq_true h0)]
    refine draw_use hdl1 (by simp; omega) (by simp; omega) fun r2 dl2 a2 b2 hdl2 => ?_
    walk_at "vs"
    obtain ⟨d, hc, mc⟩ := atI_ok (xs := List.map D.str ns) a2 b2
    obtain ⟨z, hz, rfl⟩ := List.mem_map.mp mc
    exact ⟨_, hc, q _ _ hdl2 (.inl ⟨z, rfl, hns z hz⟩)⟩
  · rw [if_neg (by simpa using h0)]
    refine draw_use hdl1 (by decide) (by decide) fun r2 dl2 a2 b2 hdl2 => ?_
    walk_at "vs"
    refine ⟨by decide, draw_use hdl2 (by decide) (by decide) fun r3 dl3 a3 b3 hdl3 => ?_⟩
    walk_at "vs"
    obtain ⟨d, hc, mc⟩ := atI_ok (xs := [D.int 0, D.int 9, D.int 10, D.int 999999999, D.int r2]) a3 b3
    refine ⟨_, hc, q _ _ hdl3 (.inr ?_)⟩
    simp only [List.mem_cons, List.not_mem_nil, or_false] at mc
    rcases mc with rfl | rfl | rfl | rfl | rfl <;> exact ⟨_, rfl, by omega, by omega⟩
theorem pr_num {i : Int} (h0 : 0 ≤ i) (h1 : i < 1000000000) : pr (Str.ofString (toString i)) ∧ (Str.ofString (toString i)).length ≤ 9 ∧ i.natAbs.log2 < 1920 := by
  obtain ⟨n, rfl⟩ : ∃ n : Nat, i = (n : Int) := ⟨i.toNat, by omega⟩
  have e := TL.tl_num n
  refine ⟨fun c hc => ?_, ?_, ?_⟩
  · have hc : c ∈ TL.tl (Str.ofString (toString ((n : Nat) : Int))) := hc
    rw [e] at hc
    have := TL.numL_digits n c hc
    omega
  · have hl := len_cps (Str.ofString (toString ((n : Nat) : Int)))
    have hl2 := TL.numL_len (n := n) (k := 9) (by decide) (by omega)
    rw [← e] at hl2
    have : (TL.tl (Str.ofString (toString ((n : Nat) : Int)))).length = (Str.ofString (toString ((n : Nat) : Int))).length := by
      first | exact hl | exact hl.symm
    omega
  · have : n.log2 < 30 := by
      by_cases hz : n = 0
      · subst hz; decide
      · exact (Nat.log2_lt hz).mpr (by omega)
    simp
    omega
def wOk (z : Str) : Prop := z.length ≤ 12 ∧ pr z
theorem if_inv {ft : VTB} {f : VTS} {U : VEnds} {e : VL.Env} (J Jt : VL.Env → Prop) (ht : ∀ QB : Bool → VL.Env → Prop, (∀ b e1, J e1 → (b = true → Jt e1) → QB b e1) → ft e QB U.ex) (hf : ∀ e1 (N : VL.Env → Prop), J e1 → Jt e1 → (∀ e2, J e2 → N e2) → f { U with nx := N } e1) (hn : ∀ e1, J e1 → U.nx e1) : vIfS ft f vNext U e := by
  rw [s_ifS]
  refine ht _ fun b e1 j jt => ?_
  cases b with
  | true => exact hf e1 U.nx j (jt rfl) hn
  | false => exact hn e1 j
def rowOk (r : Str) : Prop := ∃ w rest, r = Txt.join (Str.ofString " ") (w :: rest) ∧ 1 ≤ w.length ∧ rest.length ≤ 8 ∧ ∀ z ∈ w :: rest, wOk z
def vpAnyRow : VSp := fun ds Q _ => ∃ dl, ∃ ns : List Str, ds = [dl, .lst (ns.map D.str)] ∧ DealV dl ∧ 1 ≤ ns.length ∧ ns.length ≤ 10 ∧ (∀ z ∈ ns, nameOk z) ∧ ∀ dl' r, DealV dl' → rowOk r → Q (.str r) [some dl', none]
abbrev fW : List Str := [Str.ofString "let", Str.ofString "call", Str.ofString "set", Str.ofString "tell", Str.ofString "give", Str.ofString "fn", Str.ofString "if", Str.ofString "while", Str.ofString "times", Str.ofString "end", Str.ofString "end", Str.ofString "end", Str.ofString "else", Str.ofString "else"]
abbrev oW : List Str := [Str.ofString "own", Str.ofString "end", Str.ofString "+", Str.ofString "", Str.ofString "007", Str.ofString "9999999999", Str.ofString "abcdefg", Str.ofString "A", Str.ofString "let", Str.ofString "if", Str.ofString "0", Str.ofString "one"]
instance (z : Str) : Decidable (pr z) := inferInstanceAs (Decidable (∀ c ∈ z.cps.toList, 33 ≤ c ∧ c ≤ 126))
instance (z : Str) : Decidable (wOk z) := inferInstanceAs (Decidable (_ ∧ _))
theorem fW_ok : ∀ z ∈ fW, wOk z ∧ 1 ≤ z.length := by decide +kernel
theorem oW_ok : ∀ z ∈ oW, wOk z := by decide +kernel
theorem ix_ok {n : Nat} {i : Int} (h0 : 0 ≤ i) (h1 : i < n) : ixN n i = some i.toNat := by
  unfold ixN
  rw [if_pos h0, if_pos h1]
theorem set_strs {ws : List Str} {n : Nat} {z : Str} : (ws.map D.str).set n (.str z) = (ws.set n z).map D.str := List.map_set.symm
theorem set_ok {P : Str → Prop} {ws : List Str} {n : Nat} {z : Str} (h : ∀ y ∈ ws, P y) (hz : P z) : ∀ y ∈ ws.set n z, P y := fun y hy => by
  rcases List.mem_or_eq_of_mem_set hy with e | e
  · exact h y e
  · rw [e]
    exact hz
theorem oo_ok : ∀ z ∈ [Str.ofString "own", Str.ofString "one"], wOk z := by decide +kernel
theorem sg_len : (Str.ofString "+-*<=").cps.toList.length = 5 := by decide +kernel
theorem sg_pr : ∀ c ∈ (Str.ofString "+-*<=").cps.toList, 33 ≤ c ∧ c ≤ 126 := by decide +kernel
theorem sum_le : ∀ l : List Str, (∀ z ∈ l, z.length ≤ 12) → (l.map (·.length)).sum ≤ 12 * l.length
  | [], _ => by simp
  | z :: l, h => by
    have := sum_le l fun y hy => h y (List.mem_cons_of_mem _ hy)
    have := h z List.mem_cons_self
    rw [List.map_cons, List.sum_cons, List.length_cons]
    omega
theorem many_ok (w : Str) : ∃ i j : Int, ((getK [Sum.inr (Str.ofString "let"), Sum.inr (Str.ofString "call"), Sum.inr (Str.ofString "set"), Sum.inr (Str.ofString "fn"), Sum.inr (Str.ofString "times")] [D.lst [D.int 2, D.int 4], D.lst [D.int 2, D.int 3], D.lst [D.int 2, D.int 2], D.lst [D.int 1, D.int 2], D.lst [D.int 3, D.int 3]] (Sum.inr w)).getD (D.lst [D.int 1, D.int 1])) = .lst [.int i, .int j] ∧ 1 ≤ i ∧ i ≤ 4 ∧ 1 ≤ j ∧ j ≤ 4 := by
  simp only [getK]
  repeat' split
  all_goals exact ⟨_, _, rfl, by decide, by decide, by decide, by decide⟩
theorem sc__law_any_row : FnScope ["_law_deal_here", "_law_names", "_law_words_here", "_law_word", "_law_many", "_law_rest", "_law_odd", "_law_k"] ["_law_deal_here", "_law_names"] (defScope s__law_any_row) := ⟨rfl, rfl, rfl, by decide +kernel, rfl, by decide +kernel, by decide +kernel⟩
theorem ok__law_any_row (T : Top K w mg a_Reading a_BindError a_NoText a_SIGNS a_MODES a_WORDS a_SHAPES a_WITH_BLOCKS) : C8.Cal P w K mg base 3 "_law_any_row" (spOf K [dealSh, .s] .s (vpAnyRow)) [] := by
  have C_law_draw := ok__law_draw (P := P) (w := w) (base := base) T
  have C_law_any_atom := ok__law_any_atom (P := P) (w := w) (base := base) T
  obtain ⟨f, fd, F, gm⟩ := T.h__law_any_row
  refine ⟨f, fd, ["_law_deal_here", "_law_names"], [], ?_, gm, F.kp, F.binds (fun _ _ _ _ _ _ us hl => match us, hl with | [_, _], _ => rfl), .nil⟩
  refine F.ok sc__law_any_row (fun vs H Q E h => h.len) (fun cdv A outer s H vs Q E hr h => ?_)
  have hu := hu_of hr
  have hu64 : (A.deeper (envOfC "_law_any_row" (defScope s__law_any_row) s.heap.objs.size f cdv)).units + 64 < cLine := by have := hr.un; omega
  have hu65 : (A.deeper (envOfC "_law_any_row" (defScope s__law_any_row) s.heap.objs.size f cdv)).units + 65 < cLine := by have := hr.un; omega
  refine ⟨_, (pss_cons (ps_set (i := 2) sc__law_any_row.nd rfl (Or.inl rfl) (pe_lst (pa_cons pe_str (pa_cons pe_str (pa_cons pe_str (pa_cons pe_str (pa_cons pe_str (pa_cons pe_str (pa_cons pe_str (pa_cons pe_str (pa_cons pe_str (pa_cons pe_str (pa_cons pe_str (pa_cons pe_str (pa_cons pe_str (pa_cons pe_str pa_nil))))))))))))))))
  (pss_cons (ps_set (i := 3) sc__law_any_row.nd rfl (Or.inl rfl) (pe_ix (VL.ixL K rfl) (pv 2) (C8.pe_c C_law_draw hr (by omega) rfl (pa_cons (pv 0) (pa_cons pe_int pa_nil))) (fun _ _ => rfl)))
  (pss_cons (ps_if (pt_cmpR (VL.inK K rfl) (pv 3) (pe_tup (pa_cons pe_str (pa_cons pe_str pa_nil))) (by rfl))
    (pss_one (ps_ret (pv 3)))
    pss_nil)
  (pss_cons (ps_set (i := 4) sc__law_any_row.nd rfl (Or.inl rfl) (pe_dget2 hu (pe_disp (pps_cons pe_str (pe_lst (pa_cons pe_int (pa_cons pe_int pa_nil))) (pps_cons pe_str (pe_lst (pa_cons pe_int (pa_cons pe_int pa_nil))) (pps_cons pe_str (pe_lst (pa_cons pe_int (pa_cons pe_int pa_nil))) (pps_cons pe_str (pe_lst (pa_cons pe_int (pa_cons pe_int pa_nil))) (pps_cons pe_str (pe_lst (pa_cons pe_int (pa_cons pe_int pa_nil))) pps_nil))))) (by rfl) (by rfl) (fun z => by cases z) (by decide)) (pv 3) (pe_lst (pa_cons pe_int (pa_cons pe_int pa_nil))) (by constructor <;> rfl)))
  (pss_cons (ps_setLc (i := 5) (own := [("_law_k", 7)]) rfl sc__law_any_row.nd rfl rfl (sw_true rfl rfl rfl (by decide +kernel)) (pi_range1 rfl T.n_range (pa_cons (pe_ix (VL.ixL K rfl) (pv 4) (C8.pe_c C_law_draw hr (by omega) rfl (pa_cons (pv 0) (pa_cons pe_int pa_nil))) (fun _ _ => rfl)) pa_nil)) (blkOk_by (own := [("_law_k", 7)]) (N := ["_law_deal_here", "_law_names", "_law_words_here", "_law_word", "_law_many", "_law_rest", "_law_odd", "_law_k"]) (sc := defScope s__law_any_row) (by decide +kernel)) (fun _ _ _ _ _ => (pg_name (i := 7) sc__law_any_row.nd rfl (Or.inl rfl))) (fun _ _ _ _ _ => pts_nil) (fun _ _ _ _ _ => (pe_callTy VL.call_strA (by rfl) T.n_str (by decide +kernel) (pa_cons (C8.pe_c C_law_any_atom hr (by omega) rfl (pa_cons (pv 0) (pa_cons (pv 1) pa_nil))) pa_nil))))
  (pss_cons (ps_if (pt_cmpR op_eq (pv 3) pe_str (nomark _))
    (pss_one (ps_asg (pe_ix (VL.ixL K rfl) (pe_lst (pa_cons pe_str (pa_cons pe_str pa_nil))) (C8.pe_c C_law_draw hr (by omega) rfl (pa_cons (pv 0) (pa_cons pe_int pa_nil))) (fun _ _ => rfl)) (pg_sub (pv 5) pe_int set_list)))
    pss_nil)
  (pss_cons (ps_if (pt_cmpR op_eq (pe_callB (VL.lenK K rfl) (by rfl) T.n_len (by decide +kernel) (pa_cons (pv 5) pa_nil)) pe_int (nomark _))
    (pss_one (ps_asg (pe_ix ix_str pe_str (C8.pe_c C_law_draw hr (by omega) rfl (pa_cons (pv 0) (pa_cons pe_int pa_nil))) (fun _ _ => rfl)) (pg_sub (pv 5) pe_int set_list)))
    pss_nil)
  (pss_cons (ps_if (pt_cmpR op_eq (C8.pe_c C_law_draw hr (by omega) rfl (pa_cons (pv 0) (pa_cons pe_int pa_nil))) pe_int (nomark _))
    (pss_cons (ps_set (i := 6) sc__law_any_row.nd rfl (Or.inl rfl) (pe_lst (pa_cons pe_str (pa_cons pe_str (pa_cons pe_str (pa_cons pe_str (pa_cons pe_str (pa_cons pe_str (pa_cons pe_str (pa_cons pe_str (pa_cons pe_str (pa_cons pe_str (pa_cons pe_str (pa_cons pe_str pa_nil))))))))))))))
  (pss_one (ps_asg (pe_ix (VL.ixL K rfl) (pv 6) (C8.pe_c C_law_draw hr (by omega) rfl (pa_cons (pv 0) (pa_cons pe_int pa_nil))) (fun _ _ => rfl)) (pg_sub (pv 5) (C8.pe_c C_law_draw hr (by omega) rfl (pa_cons (pv 0) (pa_cons (pe_callB (VL.lenK K rfl) (by rfl) T.n_len (by decide +kernel) (pa_cons (pv 5) pa_nil)) pa_nil))) set_list))))
    pss_nil)
  (pss_cons (ps_if (pt_cmpR op_eq (C8.pe_c C_law_draw hr (by omega) rfl (pa_cons (pv 0) (pa_cons pe_int pa_nil))) pe_int (nomark _))
    (pss_one (ps_set (i := 5) sc__law_any_row.nd rfl (Or.inl rfl) (pe_op (VL.catR K rfl) (pv 5) (pe_slice (VL.slL K rfl) (pv 5) po_none (po_some pe_int)))))
    pss_nil)
  (pss_one (ps_ret (pe_join pe_str (pe_op (VL.catR K rfl) (pe_lst (pa_cons (pv 3) pa_nil)) (pv 5)))))))))))))), fn_run0 (pM := [dealSh, .s]) (M2 := [.s, .s, .s, .l .s, .s, .s]) rfl (fun H0 io av rt hrt => (vs_seq (vs_set (i := 2) (VE.s (v_lst (va_cons (VQ.e q_str) (va_cons (VQ.e q_str) (va_cons (VQ.e q_str) (va_cons (VQ.e q_str) (va_cons (VQ.e q_str) (va_cons (VQ.e q_str) (va_cons (VQ.e q_str) (va_cons (VQ.e q_str) (va_cons (VQ.e q_str) (va_cons (VQ.e q_str) (va_cons (VQ.e q_str) (va_cons (VQ.e q_str) (va_cons (VQ.e q_str) (va_cons (VQ.e q_str) va_nil)))))))))))))))) rfl (hrt 2 (by decide)))
  (vs_seq (vs_set (i := 3) (v_op (VQ.e (q_var (i := 2) rfl)) (v_callIO (vax_io (i := 0) rfl (vax_cons (VQ.e q_int) vax_nil)) ⟨rfl, rfl, (by decide), rfl, trivial⟩) od_ixL) rfl (hrt 3 (by decide)))
  (vs_seq (vs_if (vt_test (v_op (VQ.e (q_var (i := 3) rfl)) (v_tup (va_cons (VQ.e q_str) (va_cons (VQ.e q_str) va_nil))) od_in))
    (vs_ret (VQ.e (q_var (i := 3) rfl)))
    vs_next)
  (vs_seq (vs_set (i := 4) (v_get2 (VE.s (v_disp (vp_cons (VQ.e q_str) (VE.s (v_lst (va_cons (VQ.e q_int) (va_cons (VQ.e q_int) va_nil)))) (vp_cons (VQ.e q_str) (VE.s (v_lst (va_cons (VQ.e q_int) (va_cons (VQ.e q_int) va_nil)))) (vp_cons (VQ.e q_str) (VE.s (v_lst (va_cons (VQ.e q_int) (va_cons (VQ.e q_int) va_nil)))) (vp_cons (VQ.e q_str) (VE.s (v_lst (va_cons (VQ.e q_int) (va_cons (VQ.e q_int) va_nil)))) (vp_cons (VQ.e q_str) (VE.s (v_lst (va_cons (VQ.e q_int) (va_cons (VQ.e q_int) va_nil)))) vp_nil))))))) (VQ.e (q_var (i := 3) rfl)) (VE.s (v_lst (va_cons (VQ.e q_int) (va_cons (VQ.e q_int) va_nil))))) rfl (hrt 4 (by decide)))
  (vs_seq (vs_set (i := 5) (v_lc (vs := [7]) (vi_rng1 (va_cons (v_op (VQ.e (q_var (i := 4) rfl)) (v_callIO (vax_io (i := 0) rfl (vax_cons (VQ.e q_int) vax_nil)) ⟨rfl, rfl, (by decide), rfl, trivial⟩) od_ixL) va_nil)) (vg_name (i := 7) rfl (hrt 7 (by decide))) vt_yes (v_ca (va_cons (v_callIO (vax_io (i := 0) rfl (vax_cons (VQ.e (q_var (i := 1) rfl)) vax_nil)) ⟨rfl, rfl, (by decide), rfl, trivial⟩) va_nil) cd_strA) (by decide) (fun i hi => hrt i (by revert i; decide))) rfl (hrt 5 (by decide)))
  (vs_seq (vs_if (vt_test (VQ.e (q_op (VQ.b (q_var (i := 3) rfl)) (VQ.b q_str) od_eq)))
    (vs_setIx (i := 5) rfl (v_op (VE.s (v_lst (va_cons (VQ.e q_str) (va_cons (VQ.e q_str) va_nil)))) (v_callIO (vax_io (i := 0) rfl (vax_cons (VQ.e q_int) vax_nil)) ⟨rfl, rfl, (by decide), rfl, trivial⟩) od_ixL) (VQ.e q_int))
    vs_next)
  (vs_seq (vs_if (vt_test (VQ.e (q_op (VQ.b (q_ca (vba_cons (b_varL (i := 5) rfl) vba_nil) cd_len)) (VQ.b q_int) od_eq)))
    (vs_setIx (i := 5) rfl (v_op (VQ.e q_str) (v_callIO (vax_io (i := 0) rfl (vax_cons (VQ.e q_int) vax_nil)) ⟨rfl, rfl, (by decide), rfl, trivial⟩) od_ixS) (VQ.e q_int))
    vs_next)
  (vs_seq (vs_if (vt_test (v_op (v_callIO (vax_io (i := 0) rfl (vax_cons (VQ.e q_int) vax_nil)) ⟨rfl, rfl, (by decide), rfl, trivial⟩) (VQ.e q_int) od_eq))
    (vs_seq (vs_set (i := 6) (VE.s (v_lst (va_cons (VQ.e q_str) (va_cons (VQ.e q_str) (va_cons (VQ.e q_str) (va_cons (VQ.e q_str) (va_cons (VQ.e q_str) (va_cons (VQ.e q_str) (va_cons (VQ.e q_str) (va_cons (VQ.e q_str) (va_cons (VQ.e q_str) (va_cons (VQ.e q_str) (va_cons (VQ.e q_str) (va_cons (VQ.e q_str) va_nil)))))))))))))) rfl (hrt 6 (by decide)))
  (vs_setIx (i := 5) rfl (v_op (VQ.e (q_var (i := 6) rfl)) (v_callIO (vax_io (i := 0) rfl (vax_cons (VQ.e q_int) vax_nil)) ⟨rfl, rfl, (by decide), rfl, trivial⟩) od_ixL) (v_callIO (vax_io (i := 0) rfl (vax_cons (VQ.e (q_ca (vba_cons (b_varL (i := 5) rfl) vba_nil) cd_len)) vax_nil)) ⟨rfl, rfl, (by decide), rfl, trivial⟩)))
    vs_next)
  (vs_seq (vs_if (vt_test (v_op (v_callIO (vax_io (i := 0) rfl (vax_cons (VQ.e q_int) vax_nil)) ⟨rfl, rfl, (by decide), rfl, trivial⟩) (VQ.e q_int) od_eq))
    (vs_set (i := 5) (v_opLv (i := 5) rfl (VE.s (v_slLq (b_varL (i := 5) rfl) voq_none (voq_some q_int) ol_sl)) ol_cat) rfl (hrt 5 (by decide)))
    vs_next)
  (vs_ret (v_join (VQ.e q_str) (VE.s (v_opLeb (VE.s (v_lst (va_cons (VQ.e (q_var (i := 3) rfl)) va_nil))) (b_varL (i := 5) rfl) ol_cat)))))))))))))) (fun ds Qv Qx hl hs => ?_) h⟩
  obtain ⟨dl, ns, rfl, hdl, h1, h2, hns, q⟩ := hs
  walk_at "v1"
  refine ⟨by decide, draw_use hdl (by decide) (by decide) fun r1 dl1 a1 b1 hdl1 => ?_⟩
  walk_at "v1"
  obtain ⟨d, hc, mc⟩ := atI_ok (xs := fW.map D.str) a1 (by simpa using b1)
  obtain ⟨w, hw, rfl⟩ := List.mem_map.mp mc
  refine ⟨_, hc, ?_⟩
  obtain ⟨hwo, hw1⟩ := fW_ok w hw
  generalize hfw : (D.lst [D.str (Str.ofString "let"), D.str (Str.ofString "call"), D.str (Str.ofString "set"), D.str (Str.ofString "tell"), D.str (Str.ofString "give"), D.str (Str.ofString "fn"), D.str (Str.ofString "if"), D.str (Str.ofString "while"), D.str (Str.ofString "times"), D.str (Str.ofString "end"), D.str (Str.ofString "end"), D.str (Str.ofString "end"), D.str (Str.ofString "else"), D.str (Str.ofString "else")]) = fw
  refine guard (decide (w ∈ [Str.ofString "end", Str.ofString "else"])) (fun QB hq => ?_) (fun hb => ?_) (fun hb => ?_)
  · walk_at "vs"
    exact ⟨by decide, hq⟩
  · walk_at "vs"
    exact q _ _ hdl1 ⟨w, [], by rw [TL.join_eq]; rfl, hw1, by simp, by simpa using hwo⟩
  · walk_at "v1"
    obtain ⟨i, j, hg, hi0, hi1, hj0, hj1⟩ := many_ok w
    rw [hg]
    refine ⟨by decide, by decide, by decide, by decide, by decide, by decide +kernel, by decide, by decide, draw_use hdl1 (by decide) (by decide) fun r2 dl2 a2 b2 hdl2 => ?_⟩
    obtain ⟨d, hc2, mc2⟩ := atI_ok (xs := [D.int i, D.int j]) a2 b2
    rw [s_gIxL]
    obtain ⟨k, rfl, hk0, hk1⟩ : ∃ k : Int, d = .int k ∧ 1 ≤ k ∧ k ≤ 4 := by
      simp only [List.mem_cons, List.not_mem_nil, or_false] at mc2
      rcases mc2 with rfl | rfl
      · exact ⟨_, rfl, hi0, hi1⟩
      · exact ⟨_, rfl, hj0, hj1⟩
    refine ⟨_, hc2, k, rfl, by omega, by omega, ?_⟩
    walk_at "v1"
    refine lc_inv (fun acc e => ∃ (ws : List Str) (dl : D), acc = ws.map D.str ∧ (∀ y ∈ ws, wOk y) ∧ DealV dl ∧ e = [some dl, some (D.lst (List.map D.str ns)), some fw, some (.str w), some (.lst [.int i, .int j]), none, none, none]) _ _ _ (by rw [rng_len]; exact small (by simp; omega)) ⟨[], dl2, rfl, by simp, hdl2, rfl⟩ ?_ ?_
    · rintro d hd acc e ⟨ws, dl, rfl, h3, h5, rfl⟩ A B hA
      walk_at "vs"
      refine ⟨dl, ns, rfl, h5, h1, h2, hns, fun dl' d hdl' hat => ?_⟩
      walk_at "vs"
      rcases hat with ⟨z, rfl, hz⟩ | ⟨n, rfl, n0, n1⟩
      · rw [s_gStrA1]
        refine hA _ _ ⟨ws ++ [z], dl', by simp, fun y hy => ?_, hdl', rfl⟩
        rcases List.mem_append.mp hy with z | z
        · exact h3 y z
        · rw [List.mem_singleton.mp z]
          exact ⟨by have := hz.1; omega, hz.2⟩
      · rw [s_gStrA2]
        obtain ⟨p1, p2, p3⟩ := pr_num n0 n1
        refine ⟨p3, hA _ _ ⟨ws ++ [_], dl', by rw [List.map_append]; rfl, fun y hy => ?_, hdl', rfl⟩⟩
        rcases List.mem_append.mp hy with z | z
        · exact h3 y z
        · rw [List.mem_singleton.mp z]
          exact ⟨by omega, p1⟩
    · rintro acc e hl ⟨ws, dl, rfl, h3, h5, rfl⟩
      rw [List.length_map, rng_len, List.length_nil] at hl
      walk_at "v1"
      let J : VL.Env → Prop := fun e => ∃ (ws : List Str) (dl : D) (e6 : Option D), 1 ≤ ws.length ∧ ws.length ≤ 4 ∧ (∀ y ∈ ws, wOk y) ∧ DealV dl ∧ e = [some dl, some (D.lst (List.map D.str ns)), some fw, some (.str w), some (.lst [.int i, .int j]), some (.lst (ws.map D.str)), e6, none]
      refine if_inv J (fun _ => True) (fun QB hq => ?_) (fun e1 N j _ hN => ?_) (fun e1 j => ?_)
      · walk_at "vs"
        exact hq _ _ ⟨ws, dl, none, by omega, by omega, h3, h5, rfl⟩ (fun _ => trivial)
      · obtain ⟨ws, dl, e6, l0, l1, h3, h5, rfl⟩ := j
        walk_at "vs"
        refine ⟨by decide, draw_use h5 (by decide) (by decide) fun r3 dl3 a3 b3 hdl3 => ?_⟩
        walk_at "vs"
        obtain ⟨d, hc3, mc3⟩ := atI_ok (xs := [Str.ofString "own", Str.ofString "one"].map D.str) a3 b3
        obtain ⟨z, hz, rfl⟩ := List.mem_map.mp mc3
        refine ⟨_, hc3, _, ix_ok (i := 0) (by decide) (by simp; omega), ?_⟩
        rw [set_strs]
        exact hN _ ⟨_, dl3, _, by rw [List.length_set]; exact l0, by rw [List.length_set]; exact l1, set_ok h3 (oo_ok z hz), hdl3, rfl⟩
      · obtain ⟨ws, dl, e6, l0, l1, h3, h5, rfl⟩ := j
        walk_at "v1"
        refine if_inv J (fun e => ∃ (ws : List Str) (dl : D) (e6 : Option D), ws.length = 4 ∧ (∀ y ∈ ws, wOk y) ∧ DealV dl ∧ e = [some dl, some (D.lst (List.map D.str ns)), some fw, some (.str w), some (.lst [.int i, .int j]), some (.lst (ws.map D.str)), e6, none]) (fun QB hq => ?_) (fun e1 N _ j hN => ?_) (fun e1 j => ?_)
        · walk_at "vs"
          refine hq _ _ ⟨ws, dl, e6, l0, l1, h3, h5, rfl⟩ (fun hb => ⟨ws, dl, e6, ?_, h3, h5, rfl⟩)
          have hb := of_decide_eq_true hb
          rw [List.length_map] at hb
          omega
        · obtain ⟨ws, dl, e6, l1, h3, h5, rfl⟩ := j
          walk_at "vs"
          refine draw_use h5 (by decide) (by decide) fun r3 dl3 a3 b3 hdl3 => ?_
          walk_at "vs"
          obtain ⟨c, hc3, mc3⟩ := atI_ok (xs := (Str.ofString "+-*<=").cps.toList) a3 (by rw [sg_len]; exact b3)
          refine ⟨by decide +kernel, c, hc3, _, ix_ok (i := 2) (by decide) (by simp; omega), ?_⟩
          rw [set_strs]
          exact hN _ ⟨_, dl3, _, by rw [List.length_set]; omega, by rw [List.length_set]; omega, set_ok h3 ⟨by rw [len_one]; omega, pr_one (sg_pr c mc3)⟩, hdl3, rfl⟩
        · obtain ⟨ws, dl, e6, l0, l1, h3, h5, rfl⟩ := j
          walk_at "v1"
          refine if_inv J (fun _ => True) (fun QB hq => ?_) (fun e1 N j _ hN => ?_) (fun e1 j => ?_)
          · walk_at "vs"
            refine draw_use h5 (by decide) (by decide) fun r3 dl3 a3 b3 hdl3 => ?_
            walk_at "vs"
            exact hq _ _ ⟨ws, dl3, e6, l0, l1, h3, hdl3, rfl⟩ (fun _ => trivial)
          · obtain ⟨ws, dl, e6, l0, l1, h3, h5, rfl⟩ := j
            walk_at "vs"
            refine ⟨by decide, draw_use h5 (by decide) (by decide) fun r3 dl3 a3 b3 hdl3 => ?_⟩
            walk_at "vs"
            obtain ⟨d, hc3, mc3⟩ := atI_ok (xs := oW.map D.str) a3 b3
            obtain ⟨z, hz, rfl⟩ := List.mem_map.mp mc3
            refine ⟨_, hc3, ?_⟩
            have el : (List.map D.str ws).length = ws.length := List.length_map ..
            refine draw_use hdl3 (by rw [el]; omega) (by rw [el]; omega) fun r4 dl4 a4 b4 hdl4 => ?_
            walk_at "vs"
            refine ⟨_, ix_ok a4 b4, ?_⟩
            rw [set_strs]
            exact hN _ ⟨_, dl4, _, by rw [List.length_set]; exact l0, by rw [List.length_set]; exact l1, set_ok h3 (oW_ok z hz), hdl4, rfl⟩
          · obtain ⟨ws, dl, e6, l0, l1, h3, h5, rfl⟩ := j
            walk_at "v1"
            refine if_inv (fun e => ∃ (ws : List Str) (dl : D) (e6 : Option D), ws.length ≤ 8 ∧ (∀ y ∈ ws, wOk y) ∧ DealV dl ∧ e = [some dl, some (D.lst (List.map D.str ns)), some fw, some (.str w), some (.lst [.int i, .int j]), some (.lst (ws.map D.str)), e6, none]) J (fun QB hq => ?_) (fun e1 N _ j hN => ?_) (fun e1 j => ?_)
            · walk_at "vs"
              refine draw_use h5 (by decide) (by decide) fun r3 dl3 a3 b3 hdl3 => ?_
              walk_at "vs"
              exact hq _ _ ⟨ws, dl3, e6, by omega, h3, hdl3, rfl⟩ (fun _ => ⟨ws, dl3, e6, l0, l1, h3, hdl3, rfl⟩)
            · obtain ⟨ws, dl, e6, l0, l1, h3, h5, rfl⟩ := j
              walk_at "vs"
              match ws, l0 with
              | z :: ws, _ =>
              rw [List.map_cons, cu_1]
              refine ⟨small (by simp at l1 ⊢; omega), hN _ ⟨z :: ws ++ [z], dl, e6, by simp at l1 ⊢; omega, fun y hy => ?_, h5, by rw [List.map_append]; rfl⟩⟩
              rcases List.mem_append.mp hy with e | e
              · exact h3 y e
              · rw [List.mem_singleton.mp e]
                exact h3 z List.mem_cons_self
            · obtain ⟨ws, dl, e6, l1, h3, h5, rfl⟩ := j
              walk_at "vs"
              have hall : ∀ z ∈ w :: ws, wOk z := fun z hz => by
                rcases List.mem_cons.mp hz with e | e
                · rw [e]
                  exact hwo
                · exact h3 z e
              have hsum := sum_le (w :: ws) fun z hz => (hall z hz).1
              refine ⟨by decide, small (by rw [List.length_map]; omega), w :: ws, rfl, ?_, ?_⟩
              · have e1 : (Str.ofString " ").length = 1 := by decide +kernel
                rw [e1]
                simp only [List.length_cons] at hsum ⊢
                omega
              · exact q _ _ h5 ⟨w, ws, rfl, hw1, l1, hall⟩
end
end K10
set_option Elab.async false
set_option linter.all false
set_option maxRecDepth 100000
set_option maxHeartbeats 4000000
namespace K10
open PySem PySem.Spec PyProof.Rows L2 L2H HotX Fb VL
local macro_rules | `(tactic| walk_at "vs") => `(tactic| simp only [vCell, vDr, vFld, vAppC, vPopC, vSetF, vCallA, vCallAX, vCallX, vMakeA, vMethA, vRaise, vTry, vXf, vChain, vTru, s_truN, s_truB, s_truI, s_truS, s_truL, s_truT, vIsi, vIsiT, vStar, vListZip, vEnum, vZipSL, vPop, vExt, vSetIx, vSetIxC, vRep, s_vgLst, vKGet, s_gMulS, s_gBoolL, s_gStrS, s_gIntS, s_gStrA1, s_gStrA2, s_seqL, s_seqT, cuD_1, ioA, setC, newC, noC, putA, ex_cell, Option.join_some, List.drop_succ_cons, List.drop_zero, s_gInK, s_gInS, s_gIn2, s_gIn3, s_gIn4, s_gIn5, ex_par, vNeg, s_gAny, vCaTd, vOp2Lv, s_callIO, s_io, s_fill0, s_fillN, s_fillS, s_putIO, s_wio0, s_wioN, s_wioS, s_give0, s_giveN, s_giveS, s_giveM, Option.map_some, s_seq, s_next, s_break, s_cont, s_set, s_ret, s_retN, s_drop, s_ifS, s_for, s_asg, s_par, s_var, s_c, s_op2, s_op2L, s_op2T, s_ca, s_caL, s_caT, s_nil, s_cons, s_tup, s_lst, s_test, s_and, s_or, s_not, s_if, s_andV, s_orV, s_notV, s_no, s_part, s_sl, s_slL, s_slT, s_ls, s_ts, s_sgs, s_rng1, s_rng2, s_gName, s_gNil, s_gCons, s_gTup, s_lc, s_yes, s_append, s_call, s_dget, s_get2, s_pNil, s_pCons, s_disp, s_m1, s_split, s_indexD, s_w1, s_w2, s_isStr, s_gI, s_gI0, s_gAddS, s_gS, s_gSg, s_gEqI, s_gEqS, s_gEqB, s_gEqNI, s_gEqIS, s_gEqSI, s_gNeI, s_gNeS, s_gIsN, s_gNotN, s_isNon0, s_isNonI, s_isNonS, s_isNonT, s_isNonL, s_gIxL, s_gIxT, s_gIxS, s_gCat, s_gCatT, s_gSlL, s_gSlT, s_gSlS, s_gLenL, s_gLenT, s_gLenS, s_gSum, s_gI2, s_gInt1, s_gInt1b, s_gStrI, s_gAll, s_gSeqL, s_gSeqT, s_gDGet, s_gGet2, s_kDs, s_kDi, s_ioN, s_ioS, s_ioL, s_ioD, s_ioO, s_nones0, s_nones1, List.map_cons, List.map_nil, List.cons_append, List.nil_append, List.append_nil, List.append_assoc, List.getElem?_cons_zero, List.getElem?_cons_succ, List.set_cons_zero, List.set_cons_succ, Option.some.injEq, exists_eq_left', exists_eq_left, D.int.injEq, D.str.injEq, D.tup.injEq, D.lst.injEq, D.bl.injEq, D.dct.injEq, and_true, true_and, List.length_cons, List.length_nil, exists_and_left, exists_eq, Bool.not_true, Bool.not_false, exists_eq', Nat.zero_le, atI_0, atI_1, atI_2, atI_3, atI_4, atI_5, s_gInD, if_true, if_false, Bool.false_eq_true, Nat.reduceAdd])
local macro_rules | `(tactic| walk_at "v1") => `(tactic| simp only [vCell, vDr, vFld, vAppC, vPopC, vSetF, vCallA, vCallAX, vCallX, vMakeA, vMethA, vRaise, vTry, vXf, vChain, vTru, s_truN, s_truB, s_truI, s_truS, s_truL, s_truT, vIsi, vIsiT, vStar, vListZip, vEnum, vZipSL, vPop, vExt, vSetIx, vSetIxC, vRep, s_vgLst, vKGet, s_gMulS, s_gBoolL, s_gStrS, s_gIntS, s_gStrA1, s_gStrA2, s_seqL, s_seqT, cuD_1, ioA, setC, newC, noC, putA, ex_cell, Option.join_some, List.drop_succ_cons, List.drop_zero, s_gInK, s_gInS, s_gIn2, s_gIn3, s_gIn4, s_gIn5, ex_par, vNeg, s_gAny, vCaTd, vOp2Lv, s_callIO, s_io, s_fill0, s_fillN, s_fillS, s_putIO, s_wio0, s_wioN, s_wioS, s_give0, s_giveN, s_giveS, s_giveM, Option.map_some, s_seq, s_next, s_break, s_cont, s_set, s_ret, s_retN, s_drop, s_for, s_asg, s_par, s_var, s_c, s_op2, s_op2L, s_op2T, s_ca, s_caL, s_caT, s_nil, s_cons, s_tup, s_lst, s_test, s_and, s_or, s_not, s_if, s_andV, s_orV, s_notV, s_no, s_part, s_sl, s_slL, s_slT, s_ls, s_ts, s_sgs, s_rng1, s_rng2, s_gName, s_gNil, s_gCons, s_gTup, s_lc, s_yes, s_append, s_call, s_dget, s_get2, s_pNil, s_pCons, s_disp, s_m1, s_split, s_indexD, s_w1, s_w2, s_isStr, s_gI, s_gI0, s_gAddS, s_gS, s_gSg, s_gEqI, s_gEqS, s_gEqB, s_gEqNI, s_gEqIS, s_gEqSI, s_gNeI, s_gNeS, s_gIsN, s_gNotN, s_isNon0, s_isNonI, s_isNonS, s_isNonT, s_isNonL, s_gIxL, s_gIxT, s_gIxS, s_gCat, s_gCatT, s_gSlL, s_gSlT, s_gSlS, s_gLenL, s_gLenT, s_gLenS, s_gSum, s_gI2, s_gInt1, s_gInt1b, s_gStrI, s_gAll, s_gSeqL, s_gSeqT, s_gDGet, s_gGet2, s_kDs, s_kDi, s_ioN, s_ioS, s_ioL, s_ioD, s_ioO, s_nones0, s_nones1, List.map_cons, List.map_nil, List.cons_append, List.nil_append, List.append_nil, List.append_assoc, List.getElem?_cons_zero, List.getElem?_cons_succ, List.set_cons_zero, List.set_cons_succ, Option.some.injEq, exists_eq_left', exists_eq_left, D.int.injEq, D.str.injEq, D.tup.injEq, D.lst.injEq, D.bl.injEq, D.dct.injEq, and_true, true_and, List.length_cons, List.length_nil, exists_and_left, exists_eq, Bool.not_true, Bool.not_false, exists_eq', Nat.zero_le, atI_0, atI_1, atI_2, atI_3, atI_4, atI_5, s_gInD, if_true, if_false, Bool.false_eq_true, Nat.reduceAdd])
section
variable {P : Program} {w : World} {K : PySem.W.Frag} {mg : Str → Option Value} {base : Heap} {a_Reading a_BindError a_NoText a_SIGNS a_MODES a_WORDS a_SHAPES a_WITH_BLOCKS : Addr}
/-! ### what is read: its size -/
def tot (S : List D) (B : List (List D)) : Nat := dszs S + (B.map dszs).sum
structure Wt (n : Nat) (S : List D) (B : List (List D)) : Prop where
  s : okTs S = true
  b : ∀ L ∈ B, okTs L = true
  w : tot S B ≤ n
theorem part_ok (z : Str) : okT (partD z) = true ∧ dsz (partD z) = 1 := by
  unfold partD
  split <;> exact ⟨by simp [okT], by simp [dsz]⟩
theorem parts_ok : ∀ l : List Str, okTs (l.map partD) = true ∧ dszs (l.map partD) = l.length
  | [] => ⟨rfl, rfl⟩
  | z :: l => by
    obtain ⟨h1, h2⟩ := part_ok z
    obtain ⟨h3, h4⟩ := parts_ok l
    rw [List.map_cons, okTs, dszs, h1, h2, h3, h4, List.length_cons]
    exact ⟨rfl, by omega⟩
theorem start_wt {w : Str} {rest : List Str} (h : fitsB w rest = true) : okT (startD w rest) = true ∧ dsz (startD w rest) ≤ rest.length + 4 := by
  obtain ⟨f1, f2⟩ := fits_len h
  unfold startD
  by_cases h1 : w = "let" ∧ rest.length = 4
  · rw [if_pos h1]
    match rest, h1.2 with
    | [a, b, c, d], _ =>
      obtain ⟨a1, a2⟩ := part_ok a
      obtain ⟨b1, b2⟩ := part_ok b
      obtain ⟨c1, c2⟩ := part_ok c
      obtain ⟨d1, d2⟩ := part_ok d
      simp [okT, okTs, dsz, dszs, a1, a2, b1, b2, c1, c2, d1, d2]
  rw [if_neg h1]
  by_cases h2 : w = "fn"
  · rw [if_pos h2]
    match rest, f1 h2 with
    | a :: r, _ =>
      obtain ⟨a1, a2⟩ := part_ok a
      obtain ⟨b1, b2⟩ := parts_ok r
      simp [okT, okTs, dsz, dszs, a1, a2, b1, b2]
      omega
  rw [if_neg h2]
  by_cases h3 : w = "call"
  · rw [if_pos h3]
    match rest, f2 h3 with
    | a :: b :: r, _ =>
      obtain ⟨a1, a2⟩ := part_ok a
      obtain ⟨c1, c2⟩ := part_ok b
      obtain ⟨b1, b2⟩ := parts_ok r
      simp [okT, okTs, dsz, dszs, a1, a2, b1, b2, c1, c2]
      omega
  rw [if_neg h3]
  obtain ⟨b1, b2⟩ := parts_ok rest
  simp [okT, okTs, dsz, dszs, b1, b2]
  omega
theorem Wt.nil : Wt 0 [] [[]] := ⟨rfl, by simp [okTs], by simp [tot, dszs]⟩
theorem okTs_tup (t : List D) : okTs [D.tup t] = okTs t := by simp [okTs, okT]
theorem dszs_tup (t : List D) : dszs [D.tup t] = dszs t + 1 := by simp [dszs, dsz]
theorem Wt.step {n m : Nat} {S S' : List D} {B B' : List (List D)} {w : Str} {rest : List Str} (h : Wt m S B) (hI : Inv n S B) (e : stepD S B w rest = some (S', B')) : Wt (m + rest.length + 4) S' B' := by
  obtain ⟨hs, hb, hw⟩ := h
  unfold stepD at e
  unfold tot at hw
  by_cases h1 : w = Str.ofString "else" ∧ rest = []
  · rw [if_pos h1] at e
    rcases List.eq_nil_or_concat S with rfl | ⟨S, d, rfl⟩
    · simp [otherD, inArm] at e
    rw [List.concat_eq_append] at *
    obtain ⟨u, t, rfl, ht⟩ := hI.t d (by simp)
    have hbl := hI.b
    rw [List.length_append] at hbl
    obtain ⟨B, L', L, rfl⟩ := two_last hbl
    rw [otherD_eq] at e
    split at e
    · cases e
      rw [okTs_app, okTs_tup, Bool.and_eq_true] at hs
      rw [dszs_app, dszs_tup, List.map_append, List.map_append, List.sum_append, List.sum_append] at hw
      have hL := hb L (by simp)
      refine ⟨?_, fun X hX => ?_, ?_⟩
      · rw [okTs_app, okTs_tup, okTs_app, okTs_tup, hs.1, hs.2, hL]
        rfl
      · rcases List.mem_append.mp hX with z | z
        · exact hb X (List.mem_append.mpr (.inl z))
        · rw [List.mem_singleton.mp z]
          rfl
      · unfold tot
        rw [dszs_app, dszs_tup, dszs_app, dszs_tup, List.map_append, List.map_append, List.sum_append, List.sum_append]
        simp [dszs] at hw ⊢
        omega
    · cases e
  rw [if_neg h1] at e
  by_cases h2 : w = Str.ofString "end" ∧ rest = []
  · rw [if_pos h2] at e
    rcases List.eq_nil_or_concat S with rfl | ⟨S, d, rfl⟩
    · simp [closeD] at e
    rw [List.concat_eq_append] at *
    obtain ⟨u, t, rfl, ht⟩ := hI.t d (by simp)
    have hbl := hI.b
    rw [List.length_append] at hbl
    obtain ⟨B, L', L, rfl⟩ := two_last hbl
    rw [closeD_eq] at e
    split at e
    · cases e
    · cases e
      rw [okTs_app, okTs_tup, Bool.and_eq_true] at hs
      rw [dszs_app, dszs_tup, List.map_append, List.map_append, List.sum_append, List.sum_append] at hw
      have hL := hb L (by simp)
      have hL' := hb L' (by simp)
      refine ⟨hs.1, fun X hX => ?_, ?_⟩
      · rcases List.mem_append.mp hX with z | z
        · exact hb X (by simp [z])
        · rw [List.mem_singleton.mp z, okTs_app, okTs_tup, okTs_app, okTs_tup, hL, hL', hs.2]
          rfl
      · unfold tot
        rw [List.map_append, List.sum_append, List.map_cons, List.map_nil, List.sum_cons, List.sum_nil, dszs_app, dszs_tup, dszs_app, dszs_tup]
        simp at hw ⊢
        omega
  rw [if_neg h2] at e
  split at e
  · rename_i hf
    obtain ⟨k1, k2⟩ := start_wt hf
    have k3 : okTs [startD w rest] = true := by simp [okTs, k1]
    have k4 : dszs [startD w rest] = dsz (startD w rest) := by simp [dszs]
    split at e
    · cases e
      refine ⟨by rw [okTs_app, hs, k3]; rfl, fun X hX => ?_, ?_⟩
      · rcases List.mem_append.mp hX with z | z
        · exact hb X z
        · rw [List.mem_singleton.mp z]
          rfl
      · unfold tot
        rw [dszs_app, k4, List.map_append, List.sum_append]
        simp [dszs]
        omega
    · cases e
      rcases List.eq_nil_or_concat B with rfl | ⟨B, L0, rfl⟩
      · exact (hI.cut rfl).elim
      rw [List.concat_eq_append] at *
      rw [List.dropLast_concat, List.getLast?_concat]
      rw [List.map_append, List.sum_append] at hw
      have hL := hb L0 (by simp)
      refine ⟨hs, fun X hX => ?_, ?_⟩
      · rcases List.mem_append.mp hX with z | z
        · exact hb X (by simp [z])
        · rw [List.mem_singleton.mp z, Option.getD_some, okTs_app, hL, k3]
          rfl
      · unfold tot
        rw [List.map_append, List.sum_append, List.map_cons, List.map_nil, List.sum_cons, List.sum_nil, Option.getD_some, dszs_app, k4]
        simp at hw ⊢
        omega
  · cases e
theorem run_wt {c : Nat} : ∀ (rs : List Str) (i m : Nat) (S : List D) (B : List (List D)) (S' : List D) (B' : List (List D)), Inv i S B → Wt m S B → (∀ r ∈ rs, (Txt.split r (Str.ofString " ")).length ≤ c) → runD i S B rs = .ok (S', B') → Wt (m + rs.length * (c + 4)) S' B'
  | [], i, m, S, B, S', B', _, hw, _, e => by
    rw [runD] at e
    cases e
    simpa using hw
  | r :: rs, i, m, S, B, S', B', hI, hw, hc, e => by
    rw [runD] at e
    have h0 := hc r List.mem_cons_self
    split at e
    · cases e
    · rename_i w rest ew
      rw [ew, List.length_cons] at h0
      split at e
      · cases e
      · rename_i S1 B1 es
        have := run_wt rs (i + 1) _ S1 B1 S' B' (hI.step es) (hw.step hI es) (fun r hr => hc r (List.mem_cons_of_mem _ hr)) e
        refine ⟨this.s, this.b, Nat.le_trans this.w ?_⟩
        rw [List.length_cons, Nat.succ_mul]
        omega
theorem told_wt {rows : List Str} {c : Nat} (hc : ∀ r ∈ rows, (Txt.split r (Str.ofString " ")).length ≤ c) : okT (toldD (readD rows)) = true ∧ dsz (toldD (readD rows)) ≤ rows.length * (c + 4) + 3 := by
  unfold readD
  cases e : runD 0 [] [[]] rows with
  | error n => exact ⟨by simp [toldD, okT, okTs], by simp [toldD, dsz, dszs]⟩
  | ok p =>
    obtain ⟨S, B⟩ := p
    dsimp only
    split
    · have hw := run_wt rows 0 0 [] [[]] S B Inv.nil Wt.nil hc e
      have h1 := hw.w
      unfold tot at h1
      match B, hw.b, h1 with
      | [], _, h1 => exact ⟨by simp [toldD, okT, okTs], by simp [toldD, dsz, dszs]⟩
      | L :: B, hb, h1 =>
        have := hb L List.mem_cons_self
        rw [List.map_cons, List.sum_cons] at h1
        refine ⟨by simp [toldD, okT, okTs, this], ?_⟩
        simp [toldD, dsz, dszs]
        omega
    · exact ⟨by simp [toldD, okT, okTs], by simp [toldD, dsz, dszs]⟩
/-! longer texts -/
theorem run_app : ∀ (a b : List Str) (i k : Nat) (S : List D) (B : List (List D)), runD i S B a = .error k → runD i S B (a ++ b) = .error k
  | [], _, _, _, _, _, e => by rw [runD] at e; cases e
  | r :: a, b, i, k, S, B, e => by
    rw [List.cons_append, runD]
    rw [runD] at e
    split at e
    · exact e
    · split at e
      · exact e
      · exact run_app a b _ _ _ _ e
theorem run_take {rows : List Str} {m m' k : Nat} (h : m ≤ m') (e : runD 0 [] [[]] (rows.take m) = .error k) : runD 0 [] [[]] (rows.take m') = .error k := by
  have : rows.take m' = rows.take m ++ (rows.take m').drop m := by
    have := (List.take_append_drop m (rows.take m')).symm
    rw [List.take_take, Nat.min_eq_left h] at this
    exact this
  rw [this]
  exact run_app _ _ _ _ _ _ e
theorem read_err {rows : List Str} {k : Nat} (e : runD 0 [] [[]] rows = .error k) : readD rows = .error k := by rw [readD, e]
theorem err_run {rows : List Str} {k : Nat} (e : readD rows = .error k) (h : k < rows.length) : runD 0 [] [[]] rows = .error k := by
  unfold readD at e
  split at e
  · rename_i h1
    cases e
    exact h1
  · split at e
    · cases e
    · cases e
      omega
end
end K10
set_option Elab.async false
set_option linter.all false
set_option maxRecDepth 100000
set_option maxHeartbeats 4000000
namespace K10
open PySem PySem.Spec PyProof.Rows L2 L2H HotX Fb VL
local macro_rules | `(tactic| walk_at "vs") => `(tactic| simp only [vCell, vDr, vFld, vAppC, vPopC, vSetF, vCallA, vCallAX, vCallX, vMakeA, vMethA, vRaise, vTry, vXf, vChain, vTru, s_truN, s_truB, s_truI, s_truS, s_truL, s_truT, vIsi, vIsiT, vStar, vListZip, vEnum, vZipSL, vPop, vExt, vSetIx, vSetIxC, vRep, s_vgLst, vKGet, s_gMulS, s_gBoolL, s_gStrS, s_gIntS, s_gStrA1, s_gStrA2, s_seqL, s_seqT, cuD_1, ioA, setC, newC, noC, putA, ex_cell, Option.join_some, List.drop_succ_cons, List.drop_zero, s_gInK, s_gInS, s_gIn2, s_gIn3, s_gIn4, s_gIn5, ex_par, vNeg, s_gAny, vCaTd, vOp2Lv, s_callIO, s_io, s_fill0, s_fillN, s_fillS, s_putIO, s_wio0, s_wioN, s_wioS, s_give0, s_giveN, s_giveS, s_giveM, Option.map_some, s_seq, s_next, s_break, s_cont, s_set, s_ret, s_retN, s_drop, s_ifS, s_for, s_asg, s_par, s_var, s_c, s_op2, s_op2L, s_op2T, s_ca, s_caL, s_caT, s_nil, s_cons, s_tup, s_lst, s_test, s_and, s_or, s_not, s_if, s_andV, s_orV, s_notV, s_no, s_part, s_sl, s_slL, s_slT, s_ls, s_ts, s_sgs, s_rng1, s_rng2, s_gName, s_gNil, s_gCons, s_gTup, s_lc, s_yes, s_append, s_call, s_dget, s_get2, s_pNil, s_pCons, s_disp, s_m1, s_split, s_indexD, s_w1, s_w2, s_isStr, s_gI, s_gI0, s_gAddS, s_gS, s_gSg, s_gEqI, s_gEqS, s_gEqB, s_gEqNI, s_gEqIS, s_gEqSI, s_gNeI, s_gNeS, s_gIsN, s_gNotN, s_isNon0, s_isNonI, s_isNonS, s_isNonT, s_isNonL, s_gIxL, s_gIxT, s_gIxS, s_gCat, s_gCatT, s_gSlL, s_gSlT, s_gSlS, s_gLenL, s_gLenT, s_gLenS, s_gSum, s_gI2, s_gInt1, s_gInt1b, s_gStrI, s_gAll, s_gSeqL, s_gSeqT, s_gDGet, s_gGet2, s_kDs, s_kDi, s_ioN, s_ioS, s_ioL, s_ioD, s_ioO, s_nones0, s_nones1, List.map_cons, List.map_nil, List.cons_append, List.nil_append, List.append_nil, List.append_assoc, List.getElem?_cons_zero, List.getElem?_cons_succ, List.set_cons_zero, List.set_cons_succ, Option.some.injEq, exists_eq_left', exists_eq_left, D.int.injEq, D.str.injEq, D.tup.injEq, D.lst.injEq, D.bl.injEq, D.dct.injEq, and_true, true_and, List.length_cons, List.length_nil, exists_and_left, exists_eq, Bool.not_true, Bool.not_false, exists_eq', Nat.zero_le, atI_0, atI_1, atI_2, atI_3, atI_4, atI_5, s_gInD, if_true, if_false, Bool.false_eq_true, Nat.reduceAdd])
local macro_rules | `(tactic| walk_at "v1") => `(tactic| simp only [vCell, vDr, vFld, vAppC, vPopC, vSetF, vCallA, vCallAX, vCallX, vMakeA, vMethA, vRaise, vTry, vXf, vChain, vTru, s_truN, s_truB, s_truI, s_truS, s_truL, s_truT, vIsi, vIsiT, vStar, vListZip, vEnum, vZipSL, vPop, vExt, vSetIx, vSetIxC, vRep, s_vgLst, vKGet, s_gMulS, s_gBoolL, s_gStrS, s_gIntS, s_gStrA1, s_gStrA2, s_seqL, s_seqT, cuD_1, ioA, setC, newC, noC, putA, ex_cell, Option.join_some, List.drop_succ_cons, List.drop_zero, s_gInK, s_gInS, s_gIn2, s_gIn3, s_gIn4, s_gIn5, ex_par, vNeg, s_gAny, vCaTd, vOp2Lv, s_callIO, s_io, s_fill0, s_fillN, s_fillS, s_putIO, s_wio0, s_wioN, s_wioS, s_give0, s_giveN, s_giveS, s_giveM, Option.map_some, s_seq, s_next, s_break, s_cont, s_set, s_ret, s_retN, s_drop, s_for, s_asg, s_par, s_var, s_c, s_op2, s_op2L, s_op2T, s_ca, s_caL, s_caT, s_nil, s_cons, s_tup, s_lst, s_test, s_and, s_or, s_not, s_if, s_andV, s_orV, s_notV, s_no, s_part, s_sl, s_slL, s_slT, s_ls, s_ts, s_sgs, s_rng1, s_rng2, s_gName, s_gNil, s_gCons, s_gTup, s_lc, s_yes, s_append, s_call, s_dget, s_get2, s_pNil, s_pCons, s_disp, s_m1, s_split, s_indexD, s_w1, s_w2, s_isStr, s_gI, s_gI0, s_gAddS, s_gS, s_gSg, s_gEqI, s_gEqS, s_gEqB, s_gEqNI, s_gEqIS, s_gEqSI, s_gNeI, s_gNeS, s_gIsN, s_gNotN, s_isNon0, s_isNonI, s_isNonS, s_isNonT, s_isNonL, s_gIxL, s_gIxT, s_gIxS, s_gCat, s_gCatT, s_gSlL, s_gSlT, s_gSlS, s_gLenL, s_gLenT, s_gLenS, s_gSum, s_gI2, s_gInt1, s_gInt1b, s_gStrI, s_gAll, s_gSeqL, s_gSeqT, s_gDGet, s_gGet2, s_kDs, s_kDi, s_ioN, s_ioS, s_ioL, s_ioD, s_ioO, s_nones0, s_nones1, List.map_cons, List.map_nil, List.cons_append, List.nil_append, List.append_nil, List.append_assoc, List.getElem?_cons_zero, List.getElem?_cons_succ, List.set_cons_zero, List.set_cons_succ, Option.some.injEq, exists_eq_left', exists_eq_left, D.int.injEq, D.str.injEq, D.tup.injEq, D.lst.injEq, D.bl.injEq, D.dct.injEq, and_true, true_and, List.length_cons, List.length_nil, exists_and_left, exists_eq, Bool.not_true, Bool.not_false, exists_eq', Nat.zero_le, atI_0, atI_1, atI_2, atI_3, atI_4, atI_5, s_gInD, if_true, if_false, Bool.false_eq_true, Nat.reduceAdd])
section
variable {P : Program} {w : World} {K : PySem.W.Frag} {mg : Str → Option Value} {base : Heap} {a_Reading a_BindError a_NoText a_SIGNS a_MODES a_WORDS a_SHAPES a_WITH_BLOCKS : Addr}
/-! ### texts of rows -/
theorem pr_free {z : Str} (h : pr z) {c : Nat} (hc : c < 33) : c ∉ TL.tl z := fun m => by
  have := h c m
  omega
theorem pr_strOk {z : Str} (h : pr z) : PyData.strOk z = true := by
  unfold PyData.strOk
  rw [Array.all_eq_true_iff_forall_mem]
  intro c hc
  have := h c (by simpa using hc)
  simp
  omega
theorem sp_tl : TL.tl (Str.ofString " ") = [32] := by decide +kernel
theorem nl_tl : TL.tl (Str.ofString "\n") = [10] := by decide +kernel
theorem join_le (y : Str) : ∀ l : List Str, (Txt.join y l).length ≤ (l.map (·.length)).sum + l.length * y.length := by
  intro l
  rw [TL.join_eq]
  induction l with
  | nil => simp [Str.join, Str.empty, Str.length]
  | cons x r ih =>
    cases r with
    | nil => simp [Str.join]
    | cons z q =>
      show (x ++ y ++ Str.join y (z :: q)).length ≤ _
      rw [len_app, len_app, List.map_cons, List.sum_cons, List.length_cons (as := z :: q), Nat.succ_mul]
      omega
theorem join_mem (y : Str) (c : Nat) : ∀ l : List Str, c ∈ TL.tl (Txt.join y l) → c ∈ TL.tl y ∨ ∃ z ∈ l, c ∈ TL.tl z := by
  intro l
  rw [TL.join_eq]
  induction l with
  | nil => intro h; cases (show c ∈ ([] : List Nat) from h)
  | cons x r ih =>
    cases r with
    | nil => exact fun h => .inr ⟨x, by simp, h⟩
    | cons z q =>
      intro h
      have h : c ∈ TL.tl (x ++ y ++ Str.join y (z :: q)) := h
      rw [TL.tl_append, TL.tl_append, List.mem_append, List.mem_append] at h
      rcases h with (h | h) | h
      · exact .inr ⟨x, by simp, h⟩
      · exact .inl h
      · rcases ih h with h | ⟨u, hu, h⟩
        · exact .inl h
        · exact .inr ⟨u, List.mem_cons_of_mem _ hu, h⟩
theorem row_facts {r : Str} (h : rowOk r) : okRow r ∧ r.length ≤ 120 ∧ 1 ≤ r.length ∧ 10 ∉ TL.tl r ∧ (Txt.split r (Str.ofString " ")).length ≤ 9 := by
  obtain ⟨w, rest, rfl, h1, h2, h3⟩ := h
  have e : Txt.split (Txt.join (Str.ofString " ") (w :: rest)) (Str.ofString " ") = w :: rest := TL.split_join sp_tl (by decide +kernel) (by simp) fun p hp => pr_free (h3 p hp).2 (by decide)
  have hl := join_le (Str.ofString " ") (w :: rest)
  have hs := sum_le (w :: rest) fun z hz => (h3 z hz).1
  have e1 : (Str.ofString " ").length = 1 := by decide +kernel
  rw [e1] at hl
  rw [List.length_cons] at hl hs
  refine ⟨⟨w, rest, e, ⟨by omega, fun z hz => ⟨by have := (h3 z hz).1; omega, pr_strOk (h3 z hz).2⟩⟩, by omega⟩, by omega, ?_, fun hm => ?_, by rw [e, List.length_cons]; omega⟩
  · rw [TL.join_eq]
    cases rest with
    | nil => exact h1
    | cons z q =>
      show 1 ≤ (w ++ Str.ofString " " ++ Str.join (Str.ofString " ") (z :: q)).length
      rw [len_app, len_app]
      omega
  · rcases join_mem _ _ _ hm with h | ⟨z, hz, h⟩
    · rw [sp_tl] at h
      simp at h
    · exact pr_free (h3 z hz).2 (by decide) h
theorem rows_join {rows : List Str} (h : ∀ r ∈ rows, rowOk r) : rowsOf (Txt.join (Str.ofString "\n") rows) = rows := by
  unfold rowsOf
  cases rows with
  | nil => rw [if_pos (by rw [TL.join_eq]; rfl)]
  | cons r rs =>
    have h1 := (row_facts (h r List.mem_cons_self)).2.2.1
    rw [if_neg, TL.split_join nl_tl (by decide +kernel) (by simp) fun p hp => (row_facts (h p hp)).2.2.2.1]
    rw [TL.join_eq]
    cases rs with
    | nil => show ¬ r.length = 0; omega
    | cons z q =>
      show ¬ (r ++ Str.ofString "\n" ++ Str.join (Str.ofString "\n") (z :: q)).length = 0
      rw [len_app, len_app]
      omega
theorem sum_le2 : ∀ l : List Str, (∀ z ∈ l, z.length ≤ 120) → (l.map (·.length)).sum ≤ 120 * l.length
  | [], _ => by simp
  | z :: l, h => by
    have := sum_le2 l fun y hy => h y (List.mem_cons_of_mem _ hy)
    have := h z List.mem_cons_self
    rw [List.map_cons, List.sum_cons, List.length_cons]
    omega
theorem ne_same {k : Nat} {Q : D → Prop} (q : Q (.bl false)) : gNeD (.tup [.str (Str.ofString "refused"), .int k]) (.tup [.str (Str.ofString "refused"), .int k]) Q := by
  have hp : VL.plain (.tup [.str (Str.ofString "refused"), .int k]) = true := by simp [VL.plain, plains]
  have hs : SeqAt.shaped (py (.tup [.str (Str.ofString "refused"), .int k])) = true := by
    have : PyData.strOk (Str.ofString "refused") = true := by decide +kernel
    simp [SeqAt.shaped, py, pys, PyData.canLay0, PyData.canLayAll0, PyData.depth, PyData.depthAll, this]
  refine ⟨hp, hp, hs, hs, ?_⟩
  have e : PyData.eqv (py (.tup [.str (Str.ofString "refused"), .int k])) (py (.tup [.str (Str.ofString "refused"), .int k])) = true := by
    simp [py, pys, PyData.eqv, PyData.eqvAll]
  rw [e]
  exact q
def fstOk (rs : List Str) (i : Nat) (d : D) : Prop := d = .non ∨ ∃ k m : Nat, m ≤ i ∧ d = .int k ∧ runD 0 [] [[]] (rs.take m) = .error k
theorem sc_law : FnScope ["_law_script", "_law_deal_here", "_law_names", "_law_rows", "_law_first", "_law_many", "_law_text", "_law_due", "_law_k"] ["_law_script"] (defScope sLaw) := ⟨rfl, rfl, rfl, by decide +kernel, rfl, by decide +kernel, by decide +kernel⟩
theorem ok_law {f : Addr} {fd : FuncData} (F : L2.Fun K "law" "law" sLaw f fd) (T : Top K w mg a_Reading a_BindError a_NoText a_SIGNS a_MODES a_WORDS a_SHAPES a_WITH_BLOCKS) : FnG P w K mg base 8 f fd ["_law_script"] (spOf K [.s] .s (vpLaw)) := by
  have C_law_deal := ok__law_deal (P := P) (w := w) (base := base) T
  have C_law_words := ok__law_words (P := P) (w := w) (base := base) T
  have C_law_any_row := ok__law_any_row (P := P) (w := w) (base := base) T
  have C_law_read := ok__law_read (P := P) (w := w) (base := base) T
  have C_law_draw := ok__law_draw (P := P) (w := w) (base := base) T
  have C_law_alike := ok__law_alike (P := P) (w := w) (base := base) T
  have C_law_told := ok__law_told (P := P) (w := w) (base := base) T
  refine ok_G F sc_law (fun vs H Q E h => h.len) (fun cdv A outer s H vs Q E gd hr h => ?_)
  have hu := hu_of hr
  have hu64 : (A.deeper (envOfC "law" (defScope sLaw) s.heap.objs.size f cdv)).units + 64 < cLine := by have := hr.un; omega
  have hu65 : (A.deeper (envOfC "law" (defScope sLaw) s.heap.objs.size f cdv)).units + 65 < cLine := by have := hr.un; omega
  refine ⟨_, (pss_cons (ps_set (i := 1) sc_law.nd rfl (Or.inr rfl) (C8.pe_c C_law_deal hr (by omega) rfl (pa_cons (pv 0) pa_nil)))
  (pss_cons (ps_set (i := 2) sc_law.nd rfl (Or.inr rfl) (C8.pe_c C_law_words hr (by omega) rfl (pa_cons (pv 1) (pa_cons (pe_op op_add pe_int (C8.pe_c C_law_draw hr (by omega) rfl (pa_cons (pv 1) (pa_cons pe_int pa_nil)))) pa_nil))))
  (pss_cons (ps_setLc (i := 3) (own := [("_law_k", 8)]) rfl sc_law.nd rfl rfl (sw_true rfl rfl rfl (by decide +kernel)) (pi_range1 rfl T.n_range (pa_cons (pe_op op_add pe_int (C8.pe_c C_law_draw hr (by omega) rfl (pa_cons (pv 1) (pa_cons pe_int pa_nil)))) pa_nil)) (blkOk_by (own := [("_law_k", 8)]) (N := ["_law_script", "_law_deal_here", "_law_names", "_law_rows", "_law_first", "_law_many", "_law_text", "_law_due", "_law_k"]) (sc := defScope sLaw) (by decide +kernel)) (fun _ _ _ _ _ => (pg_name (i := 8) sc_law.nd rfl (Or.inl rfl))) (fun _ _ _ _ _ => pts_nil) (fun _ _ _ _ _ => (C8.pe_c C_law_any_row hr (by omega) rfl (pa_cons (pv 1) (pa_cons (pv 2) pa_nil)))))
  (pss_cons (ps_set (i := 4) sc_law.nd rfl (Or.inl rfl) pe_non)
  (pss_cons (ps_for PassesOwn.never rfl (pi_range1 rfl T.n_range (pa_cons (pe_op op_add (pe_callB (VL.lenK K rfl) (by rfl) T.n_len (by decide +kernel) (pa_cons (pv 3) pa_nil)) pe_int) pa_nil)) (pg_name (i := 5) sc_law.nd rfl (Or.inl rfl))
    (pss_cons (ps_set (i := 6) sc_law.nd rfl (Or.inl rfl) (pe_join pe_str (pe_slice (VL.slL K rfl) (pv 3) po_none (po_some (pv 5)))))
  (pss_cons (ps_set (i := 7) sc_law.nd rfl (Or.inl rfl) (C8.pe_c C_law_read hr (by omega) rfl (pa_cons (pv 6) pa_nil)))
  (pss_cons (ps_if (pt_not (pt_val (C8.pe_c C_law_alike hr (by omega) rfl (pa_cons (C8.pe_c C_law_told hr (by omega) rfl (pa_cons (pv 6) pa_nil)) (pa_cons (pv 7) pa_nil)))))
    (pss_one (ps_ret pe_bl))
    pss_nil)
  (pss_cons (ps_if (PW.pt (pw_and (pt_cmpR op_notN (pv 4) pe_non (nomark _)) (pw_and1 (pt_cmpR (VL.neDK K rfl hu64) (pv 7) (pe_tup (pa_cons pe_str (pa_cons (pv 4) pa_nil))) (nomark _)))))
    (pss_one (ps_ret pe_bl))
    pss_nil)
  (pss_one (ps_if (PW.pt (pw_and (pt_cmpR op_eq (pe_ix (VL.ixT K rfl) (pv 7) pe_int (fun _ _ => rfl)) pe_str (nomark _)) (pw_and1 (pt_cmpR op_lt (pe_ix (VL.ixT K rfl) (pv 7) pe_int (fun _ _ => rfl)) (pv 5) (nomark _)))))
    (pss_one (ps_set (i := 4) sc_law.nd rfl (Or.inl rfl) (pe_ix (VL.ixT K rfl) (pv 7) pe_int (fun _ _ => rfl))))
    pss_nil)))))))
  (pss_one (ps_ret pe_bl))))))), fn_run0 (pM := [.s]) (M2 := [dealSh, .s, .s, .s, .s, .s, .s, .s]) rfl (fun H0 io av rt hrt => (vs_seq (vs_set (i := 1) (v_call (va_cons (VQ.e (q_var (i := 0) rfl)) va_nil) (by simp)) rfl (hrt 1 (by decide)))
  (vs_seq (vs_set (i := 2) (v_callIO (vax_io (i := 1) rfl (vax_cons (v_op (VQ.e q_int) (v_callIO (vax_io (i := 1) rfl (vax_cons (VQ.e q_int) vax_nil)) ⟨rfl, rfl, (by decide), rfl, trivial⟩) od_i0) vax_nil)) ⟨rfl, rfl, (by decide), rfl, trivial⟩) rfl (hrt 2 (by decide)))
  (vs_seq (vs_set (i := 3) (VE.s (v_lc (vs := [8]) (vi_rng1 (va_cons (v_op (VQ.e q_int) (v_callIO (vax_io (i := 1) rfl (vax_cons (VQ.e q_int) vax_nil)) ⟨rfl, rfl, (by decide), rfl, trivial⟩) od_i0) va_nil)) (vg_name (i := 8) rfl (hrt 8 (by decide))) vt_yes (v_callIO (vax_io (i := 1) rfl (vax_cons (VQ.e (q_var (i := 2) rfl)) vax_nil)) ⟨rfl, rfl, (by decide), rfl, trivial⟩) (by decide) (fun i hi => hrt i (by revert i; decide)))) rfl (hrt 3 (by decide)))
  (vs_seq (vs_set (i := 4) (VQ.e q_non) rfl (hrt 4 (by decide)))
  (vs_seq (vs_for (vi_rng1 (va_cons (VQ.e (q_op (VQ.b (q_ca (vba_cons (VQ.b (q_var (i := 3) rfl)) vba_nil) cd_len)) (VQ.b q_int) od_i0)) va_nil)) (vg_name (i := 5) rfl (hrt 5 (by decide)))
    (vs_seq (vs_set (i := 6) (v_join (VQ.e q_str) (VE.s (v_slL (VQ.e (q_var (i := 3) rfl)) vo_none (vo_some (VQ.e (q_var (i := 5) rfl))) ol_sl))) rfl (hrt 6 (by decide)))
  (vs_seq (vs_set (i := 7) (v_call (va_cons (VQ.e (q_var (i := 6) rfl)) va_nil) (by simp)) rfl (hrt 7 (by decide)))
  (vs_seq (vs_if (vt_not (vt_b (v_call (va_cons (v_call (va_cons (VQ.e (q_var (i := 6) rfl)) va_nil) (by simp)) (va_cons (VQ.e (q_var (i := 7) rfl)) va_nil)) (by simp))))
    (vs_ret (VQ.e q_bl))
    vs_next)
  (vs_seq (vs_if (vt_and (vt_test (VQ.e (q_op (VQ.b (q_var (i := 4) rfl)) (VQ.b q_non) od_notN))) (vt_test (v_op (VQ.e (q_var (i := 7) rfl)) (v_tup (va_cons (VQ.e q_str) (va_cons (VQ.e (q_var (i := 4) rfl)) va_nil))) od_neD)))
    (vs_ret (VQ.e q_bl))
    vs_next)
  (vs_if (vt_and (vt_test (VQ.e (q_op (VQ.b (q_op (VQ.b (q_var (i := 7) rfl)) (VQ.b q_int) od_ixT)) (VQ.b q_str) od_eq))) (vt_test (VQ.e (q_op (VQ.b (q_op (VQ.b (q_var (i := 7) rfl)) (VQ.b q_int) od_ixT)) (VQ.b (q_var (i := 5) rfl)) od_b0))))
    (vs_set (i := 4) (VQ.e (q_op (VQ.b (q_var (i := 7) rfl)) (VQ.b q_int) od_ixT)) rfl (hrt 4 (by decide)))
    vs_next))))))
  (vs_ret (VQ.e q_bl)))))))) (fun ds Qv Qx hl hs => ?_) h⟩
  obtain ⟨ns, rfl, h63, q⟩ := hs
  walk_at "v1"
  refine ⟨ns, rfl, h63, fun s0 n0 ls0 ok0 => ?_⟩
  refine draw_use ⟨s0, n0, ls0, rfl, ok0⟩ (by decide) (by decide) fun r1 dl1 a1 b1 hdl1 => ?_
  walk_at "v1"
  refine ⟨dl1, (1 + r1).toNat, by rw [show (((1 + r1).toNat : Nat) : Int) = 1 + r1 by omega], hdl1, by omega, by omega, fun dl2 nm hdl2 hnl hnm => ?_⟩
  walk_at "v1"
  refine draw_use hdl2 (by decide) (by decide) fun r3 dl3 a3 b3 hdl3 => ?_
  walk_at "v1"
  refine ⟨_, rfl, by omega, by omega, ?_⟩
  refine lc_inv (fun acc e => ∃ (rs : List Str) (dl : D), acc = rs.map D.str ∧ (∀ y ∈ rs, rowOk y) ∧ DealV dl ∧ e = [some (D.lst (List.map D.int ns)), some dl, some (D.lst (List.map D.str nm)), none, none, none, none, none, none]) _ _ _ (by rw [rng_len]; exact small (by simp; omega)) ⟨[], dl3, rfl, by simp, hdl3, rfl⟩ ?_ ?_
  · rintro d hd acc e ⟨rs, dl, rfl, h3, h5, rfl⟩ A B hA
    walk_at "vs"
    refine ⟨dl, nm, rfl, h5, by omega, by omega, hnm, fun dl' r hdl' hr => ?_⟩
    walk_at "vs"
    refine hA _ _ ⟨rs ++ [r], dl', by rw [List.map_append]; rfl, fun y hy => ?_, hdl', rfl⟩
    rcases List.mem_append.mp hy with z | z
    · exact h3 y z
    · rw [List.mem_singleton.mp z]
      exact hr
  · rintro acc e hl ⟨rs, dl, rfl, h3, h5, rfl⟩
    rw [List.length_map, rng_len, List.length_nil] at hl
    walk_at "v1"
    refine ⟨_, rfl, by rw [List.length_map]; omega, by rw [List.length_map]; omega, ?_⟩
    rw [show ((((List.map D.str rs).length : Nat) : Int) + 1).toNat = rs.length + 1 by rw [List.length_map]; omega]
    unfold rngD
    refine for_pre (fun i : Nat => D.int (0 + (i : Int))) (List.range (rs.length + 1)) (fun pre e => ∃ fst e5 e6 e7, fstOk rs pre.length fst ∧ e = [some (D.lst (List.map D.int ns)), some dl, some (D.lst (List.map D.str nm)), some (D.lst (List.map D.str rs)), some fst, e5, e6, e7, none]) ?_ ?_ ⟨.non, none, none, none, .inl rfl, rfl⟩
    · rintro pre a post hap e ⟨fst, e5, e6, e7, hf, rfl⟩ K hK
      have ha : a = pre.length := by
        have h1 : (List.range (rs.length + 1))[pre.length]? = some a := by rw [hap]; simp
        rw [List.getElem?_range (by
          have := congrArg List.length hap
          simp at this
          omega)] at h1
        exact (Option.some.inj h1).symm
      have hal : a ≤ rs.length := by
        have : a ∈ List.range (rs.length + 1) := by rw [hap]; simp
        have := List.mem_range.mp this
        omega
      rw [← ha] at hf
      have hpl : (pre ++ [a]).length = a + 1 := by simp [ha]
      have htk : ∀ r ∈ rs.take a, rowOk r := fun r hr => h3 r (List.mem_of_mem_take hr)
      have hrow := rows_join htk
      have hok : okRows (rs.take a) := ⟨by rw [List.length_take]; omega, fun r hr => (row_facts (htk r hr)).1⟩
      have hjl := join_le (Str.ofString "\n") (rs.take a)
      have hsl := sum_le2 (rs.take a) fun r hr => (row_facts (htk r hr)).2.1
      have e1 : (Str.ofString "\n").length = 1 := by decide +kernel
      rw [e1] at hjl
      rw [List.length_take, Nat.min_eq_left hal] at hjl hsl
      have htot := told_wt (rows := rs.take a) (c := 9) fun r hr => (row_facts (htk r hr)).2.2.2.2
      walk_at "v1"
      rw [Int.zero_add, cuD_to (by rw [List.length_map]; exact hal), ← List.map_take]
      refine ⟨_, rfl, by rw [e1, List.length_take, Nat.min_eq_left hal]; omega, ?_⟩
      walk_at "v1"
      refine ⟨_, rfl, by omega, by rw [hrow]; exact hok, ?_⟩
      rw [hrow]
      walk_at "v1"
      refine guard false (fun QB hq => ?_) (fun h => by cases h) (fun _ => ?_)
      · walk_at "vs"
        refine ⟨_, rfl, by omega, by rw [hrow]; exact hok, ?_⟩
        rw [hrow]
        walk_at "vs"
        refine ⟨_, rfl, htot.1, Nat.le_trans htot.2 (by rw [List.length_take, Nat.min_eq_left hal]; omega), ?_⟩
        walk_at "vs"
        exact hq
      walk_at "v1"
      refine guard false (fun QB hq => ?_) (fun h => by cases h) (fun _ => ?_)
      · walk_at "vs"
        rcases hf with rfl | ⟨k, m, hm, rfl, he⟩
        · walk_at "vs"
          exact hq
        · have er := read_err (run_take hm he)
          rw [er] at hq ⊢
          walk_at "vs"
          refine ⟨by decide, ne_same ⟨_, rfl, ?_⟩⟩
          exact hq
      dsimp only
      cases er : readD (rs.take a) with
      | ok d =>
        refine guard false (fun QB hq => ?_) (fun h => by cases h) (fun _ => ?_)
        · simp only [toldD] at hq ⊢
          walk_at "vs"
          rw [if_neg (by decide +kernel)]
          exact hq
        · refine hK _ ⟨fst, _, _, _, ?_, rfl⟩
          rw [hpl]
          rcases hf with h | ⟨k, m, hm, h1, h2⟩
          · exact .inl h
          · exact .inr ⟨k, m, by omega, h1, h2⟩
      | error k =>
        refine guard (decide (k < a)) (fun QB hq => ?_) (fun hb => ?_) (fun hb => ?_)
        · simp only [toldD] at hq ⊢
          walk_at "vs"
          rw [if_pos (by simp)]
          have e2 : decide ((k : Int) < (a : Int)) = decide (k < a) := by
            apply decide_eq_decide.mpr
            omega
          rw [e2]
          exact hq
        · have hb := of_decide_eq_true hb
          simp only [toldD]
          walk_at "vs"
          refine hK _ ⟨.int k, _, _, _, ?_, rfl⟩
          rw [hpl]
          exact .inr ⟨k, a, by omega, rfl, err_run er (by rw [List.length_take, Nat.min_eq_left hal]; exact hb)⟩
        · refine hK _ ⟨fst, _, _, _, ?_, rfl⟩
          rw [hpl]
          rcases hf with h | ⟨k, m, hm, h1, h2⟩
          · exact .inl h
          · exact .inr ⟨k, m, by omega, h1, h2⟩
    · rintro e ⟨fst, e5, e6, e7, hf, rfl⟩
      walk_at "vs"
      exact q
end
end K10
set_option Elab.async false
set_option linter.all false
set_option maxRecDepth 100000
namespace K10
open PySem PySem.W PyProof.Rows L2 Fb VL
theorem fin {l : OpenLaw} {w : World} {K : Frag} {h : Heap} {mg : Str → Option Value} {fa f2 a_Reading a_BindError a_NoText a_SIGNS a_MODES a_WORDS a_SHAPES a_WITH_BLOCKS : Addr} {od2 an2 : Option Addr} {sl2 : Array (Option Value)} {oc2 kV2 dc2 pm2 cd2 ct2 : Value} (X : K.In h) (G : h.Ns mainGlobals mg) (hfa : mg "law" = some (.ref fa)) (T : Top K w mg a_Reading a_BindError a_NoText a_SIGNS a_MODES a_WORDS a_SHAPES a_WITH_BLOCKS)
    (a2 : nsIn K mainGlobals "law" = some (some (.ref f2))) (l2 : K.lookup f2 = some ⟨oc2, od2, .func (fnOf "law" "law" (defArgs sLaw) (defBody sLaw) (defScope sLaw) .none kV2 dc2 pm2 an2 cd2 ct2), sl2⟩) (c2 : codeIn K cd2 "law" = true) (k2 : keepIn K (.ref f2) = true) :
    ∃ fd : FuncData, (∀ (s : Shared) (v : Value), BindsTo s fd ⟨[v], []⟩ [("_law_script", v)]) ∧ ∀ base : Heap, K.In base → base.Ns mainGlobals mg → FnG l.prog w K mg base 8 fa fd ["_law_script"] (spOf K [.s] .s vpLaw) := by
  have e := hfa.symm.trans (mg_of X G a2)
  cases e
  exact ⟨_, fun s v => .of_eq rfl, fun base _ _ => ok_law (fun_mk (st := sLaw) l2 c2 k2) T⟩
end K10
open PySem PySem.W PyProof.Rows L2
set_option maxHeartbeats 0 in
theorem PySem.Challenge.cw_fourbind_k10_whole_any_rows_holds : PySem.Challenge.rw_fourbind_k10_whole_any_rows.Holds := by
  w_on; o_law; k_head; (case hw => w_witness2)
  k_fill
  refine VL.walk_V (l := PySem.Challenge.rw_fourbind_k10_whole_any_rows) (k := 8) (x := "_law_script") rfl rfl ⟨rfl, by decide, by decide⟩ (fun w h Y => PySem.W.kIn_of Y) ?F
  case F =>
    intro w mg fa h KX G XP hmg
    refine' K10.fin KX G hmg (K10.Top.mk (mg_none_of KX G ?n_len) (mg_none_of KX G ?n_isinstance) (mg_none_of KX G ?n_max) (mg_none_of KX G ?n_list) (mg_none_of KX G ?n_reversed) (mg_none_of KX G ?n_range) (mg_none_of KX G ?n_int) (mg_none_of KX G ?n_tuple) (mg_none_of KX G ?n_str) (mg_none_of KX G ?n_bool) (mg_none_of KX G ?n_all) (mg_none_of KX G ?n_any) (mg_none_of KX G ?n_zip) (mg_none_of KX G ?n_enumerate) (mg_none_of KX G ?n_ValueError) (Fb.cn_in KX G ?mc_LONGEST ?me_LONGEST) (Fb.cn_in KX G ?mc_MOST_FIGURES ?me_MOST_FIGURES) (Fb.cn_in KX G ?mc_SIGNS ?me_SIGNS) (Fb.tup_in ?tl_SIGNS ?tz_SIGNS ?tv_SIGNS) (Fb.cn_in KX G ?mc_MODES ?me_MODES) (Fb.tup_in ?tl_MODES ?tz_MODES ?tv_MODES) (Fb.cn_in KX G ?mc_WORDS ?me_WORDS) (Fb.tup_in ?tl_WORDS ?tz_WORDS ?tv_WORDS) (Fb.cn_in KX G ?mc_SHAPES ?me_SHAPES) (VL.kds_of ?kl_SHAPES ?kk_SHAPES ?ks_SHAPES ?kx_SHAPES) (Fb.cn_in KX G ?mc_SUM_SHAPE ?me_SUM_SHAPE) (Fb.cn_in KX G ?mc_WITH_BLOCKS ?me_WITH_BLOCKS) (Fb.tup_in ?tl_WITH_BLOCKS ?tz_WITH_BLOCKS ?tv_WITH_BLOCKS) ⟨?pg_Reading, ?hd_Reading, ?po_Reading, ?sa_Reading⟩ (Fb.cn_in KX G ?mc_Reading ?me_Reading) (mg_of KX G ?mm_Reading) (Fb.noattr ?nn_Reading_blocks) (Fb.noattr ?nn_Reading_starts) ⟨_, _, fun_mk ?il_Reading___init__ ?ic_Reading___init__ ?ik_Reading___init__, ⟨?im_Reading___init__, ?ii_Reading___init__, ?if_Reading___init__, ?io_Reading___init__⟩⟩ ⟨_, _, fun_mk ?ml_Reading_take ?mc2_Reading_take ?mk2_Reading_take, ⟨?ma_Reading_take, ?mf_Reading_take, ?mp_Reading_take⟩⟩ ⟨_, _, fun_mk ?ml_Reading_in_first_arm ?mc2_Reading_in_first_arm ?mk2_Reading_in_first_arm, ⟨?ma_Reading_in_first_arm, ?mf_Reading_in_first_arm, ?mp_Reading_in_first_arm⟩⟩ ⟨_, _, fun_mk ?ml_Reading_end_block ?mc2_Reading_end_block ?mk2_Reading_end_block, ⟨?ma_Reading_end_block, ?mf_Reading_end_block, ?mp_Reading_end_block⟩⟩ ⟨_, _, fun_mk ?ml_Reading_begin_other ?mc2_Reading_begin_other ?mk2_Reading_begin_other, ⟨?ma_Reading_begin_other, ?mf_Reading_begin_other, ?mp_Reading_begin_other⟩⟩ ⟨_, _, fun_mk ?ml_Reading_close ?mc2_Reading_close ?mk2_Reading_close, ⟨?ma_Reading_close, ?mf_Reading_close, ?mp_Reading_close⟩⟩ (Fb.cn_in KX G ?mc_BindError ?me_BindError) (mg_of KX G ?mm_BindError) (Fb.cn_in KX G ?mc_NoText ?me_NoText) (mg_of KX G ?mm_NoText) ⟨?xg_NoText, ?xk_NoText, ?xs_NoText, ?xd_NoText, ?xa_NoText, ?xn_NoText, ?xt_NoText, ?xm_NoText⟩ (PySem.W.exm_ref ?b1_NoText ?b2_NoText ?b3_NoText ?b4_NoText) (Fb.oex_of ?ol_NoText ?or_NoText ?os_NoText ?oe_NoText ?ot_NoText ?ok_NoText) ⟨?fg_NoText, ?fk_NoText, ?fe_NoText, ?fd_NoText⟩ ?nf_NoText_row ⟨_, _, fun_mk ?il_NoText ?ic_NoText ?ik_NoText, ?ii_NoText, ?if_NoText⟩ (Fb.has_mk KX G ?da_is_name ?dl_is_name ?dc_is_name ?dk_is_name) (Fb.has_mk KX G ?da_is_number ?dl_is_number ?dc_is_number ?dk_is_number) (Fb.has_mk KX G ?da_shape_of ?dl_shape_of ?dc_shape_of ?dk_shape_of) (Fb.has_mk KX G ?da_fits ?dl_fits ?dc_fits ?dk_fits) (Fb.has_mk KX G ?da_is_of ?dl_is_of ?dc_is_of ?dk_is_of) (Fb.has_mk KX G ?da_started ?dl_started ?dc_started ?dk_started) (Fb.has_mk KX G ?da_read ?dl_read ?dc_read ?dk_read) (Fb.has_mk KX G ?da__law_deal ?dl__law_deal ?dc__law_deal ?dk__law_deal) (Fb.has_mk KX G ?da__law_draw ?dl__law_draw ?dc__law_draw ?dk__law_draw) (Fb.has_mk KX G ?da__law_words ?dl__law_words ?dc__law_words ?dk__law_words) (Fb.has_mk KX G ?da__law_alike ?dl__law_alike ?dc__law_alike ?dk__law_alike) (Fb.has_mk KX G ?da__law_is_name ?dl__law_is_name ?dc__law_is_name ?dk__law_is_name) (Fb.has_mk KX G ?da__law_atom_in ?dl__law_atom_in ?dc__law_atom_in ?dk__law_atom_in) (Fb.has_mk KX G ?da__law_in_row ?dl__law_in_row ?dc__law_in_row ?dk__law_in_row) (Fb.has_mk KX G ?da__law_read ?dl__law_read ?dc__law_read ?dk__law_read) (Fb.has_mk KX G ?da__law_any_atom ?dl__law_any_atom ?dc__law_any_atom ?dk__law_any_atom) (Fb.has_mk KX G ?da__law_any_row ?dl__law_any_row ?dc__law_any_row ?dk__law_any_row) (Fb.has_mk KX G ?da__law_told ?dl__law_told ?dc__law_told ?dk__law_told)) ?a2 ?l2 ?c2 ?k2
    (case mm_Reading => k_is)
    (case mm_BindError => k_is)
    (case mm_NoText => k_is)
    (case mc_LONGEST => k_is)
    (case mc_MOST_FIGURES => k_is)
    (case mc_SIGNS => k_is)
    (case mc_MODES => k_is)
    (case mc_WORDS => k_is)
    (case mc_SHAPES => k_is)
    (case mc_SUM_SHAPE => k_is)
    (case mc_WITH_BLOCKS => k_is)
    (case mc_Reading => k_is)
    (case mc_BindError => k_is)
    (case mc_NoText => k_is)
    (case me_LONGEST => rfl)
    (case me_MOST_FIGURES => rfl)
    (case me_SIGNS => rfl)
    (case me_MODES => rfl)
    (case me_WORDS => rfl)
    (case me_SHAPES => rfl)
    (case me_SUM_SHAPE => rfl)
    (case me_WITH_BLOCKS => rfl)
    (case me_Reading => rfl)
    (case me_BindError => rfl)
    (case me_NoText => rfl)
    (case ii_Reading___init__ => k_is)
    (case ma_Reading_take => k_is)
    (case ma_Reading_in_first_arm => k_is)
    (case ma_Reading_end_block => k_is)
    (case ma_Reading_begin_other => k_is)
    (case ma_Reading_close => k_is)
    (case ii_NoText => k_is)
    (case da_is_name => k_is)
    (case da_is_number => k_is)
    (case da_shape_of => k_is)
    (case da_fits => k_is)
    (case da_is_of => k_is)
    (case da_started => k_is)
    (case da_read => k_is)
    (case da__law_deal => k_is)
    (case da__law_draw => k_is)
    (case da__law_words => k_is)
    (case da__law_alike => k_is)
    (case da__law_is_name => k_is)
    (case da__law_atom_in => k_is)
    (case da__law_in_row => k_is)
    (case da__law_read => k_is)
    (case da__law_any_atom => k_is)
    (case da__law_any_row => k_is)
    (case da__law_told => k_is)
    (case tl_SIGNS => k_is)
    (case tl_MODES => k_is)
    (case tl_WORDS => k_is)
    (case kl_SHAPES => k_is)
    (case tl_WITH_BLOCKS => k_is)
    (case il_Reading___init__ => k_is)
    (case ml_Reading_take => k_is)
    (case ml_Reading_in_first_arm => k_is)
    (case ml_Reading_end_block => k_is)
    (case ml_Reading_begin_other => k_is)
    (case ml_Reading_close => k_is)
    (case ol_NoText => k_is)
    (case il_NoText => k_is)
    (case dl_is_name => k_is)
    (case dl_is_number => k_is)
    (case dl_shape_of => k_is)
    (case dl_fits => k_is)
    (case dl_is_of => k_is)
    (case dl_started => k_is)
    (case dl_read => k_is)
    (case dl__law_deal => k_is)
    (case dl__law_draw => k_is)
    (case dl__law_words => k_is)
    (case dl__law_alike => k_is)
    (case dl__law_is_name => k_is)
    (case dl__law_atom_in => k_is)
    (case dl__law_in_row => k_is)
    (case dl__law_read => k_is)
    (case dl__law_any_atom => k_is)
    (case dl__law_any_row => k_is)
    (case dl__law_told => k_is)
    (case n_len => k_is)
    (case n_isinstance => k_is)
    (case n_max => k_is)
    (case n_list => k_is)
    (case n_reversed => k_is)
    (case n_range => k_is)
    (case n_int => k_is)
    (case n_tuple => k_is)
    (case n_str => k_is)
    (case n_bool => k_is)
    (case n_all => k_is)
    (case n_any => k_is)
    (case n_zip => k_is)
    (case n_enumerate => k_is)
    (case n_ValueError => k_is)
    (case tz_SIGNS => decide)
    (case tv_SIGNS => rfl)
    (case tz_MODES => decide)
    (case tv_MODES => rfl)
    (case tz_WORDS => decide)
    (case tv_WORDS => rfl)
    (case kk_SHAPES => repeat (first | exact trivial | refine ⟨⟨_, _, rfl, rfl⟩, ?_⟩))
    (case ks_SHAPES => rfl)
    (case kx_SHAPES => rfl)
    (case tz_WITH_BLOCKS => decide)
    (case tv_WITH_BLOCKS => rfl)
    (case pg_Reading => k_is)
    (case hd_Reading => k_is)
    (case po_Reading => k_is)
    (case sa_Reading => k_is)
    (case nn_Reading_blocks => k_is)
    (case nn_Reading_starts => k_is)
    (case ic_Reading___init__ => k_is)
    (case ik_Reading___init__ => k_is)
    (case im_Reading___init__ => k_is)
    (case if_Reading___init__ => k_is)
    (case io_Reading___init__ => k_is)
    (case mc2_Reading_take => k_is)
    (case mk2_Reading_take => k_is)
    (case mf_Reading_take => k_is)
    (case mp_Reading_take => k_is)
    (case mc2_Reading_in_first_arm => k_is)
    (case mk2_Reading_in_first_arm => k_is)
    (case mf_Reading_in_first_arm => k_is)
    (case mp_Reading_in_first_arm => k_is)
    (case mc2_Reading_end_block => k_is)
    (case mk2_Reading_end_block => k_is)
    (case mf_Reading_end_block => k_is)
    (case mp_Reading_end_block => k_is)
    (case mc2_Reading_begin_other => k_is)
    (case mk2_Reading_begin_other => k_is)
    (case mf_Reading_begin_other => k_is)
    (case mp_Reading_begin_other => k_is)
    (case mc2_Reading_close => k_is)
    (case mk2_Reading_close => k_is)
    (case mf_Reading_close => k_is)
    (case mp_Reading_close => k_is)
    (case xg_NoText => k_is)
    (case xk_NoText => k_is)
    (case xs_NoText => k_is)
    (case xd_NoText => k_is)
    (case xa_NoText => k_is)
    (case xn_NoText => k_is)
    (case xt_NoText => k_is)
    (case xm_NoText => k_is)
    (case b1_NoText => k_is)
    (case b2_NoText => k_is)
    (case b3_NoText => k_is)
    (case b4_NoText => k_is)
    (case or_NoText => rfl)
    (case os_NoText => k_is)
    (case oe_NoText => k_is)
    (case ot_NoText => k_is)
    (case ok_NoText => k_is)
    (case fg_NoText => k_is)
    (case fk_NoText => k_is)
    (case fe_NoText => k_is)
    (case fd_NoText => k_is)
    (case nf_NoText_row => k_is)
    (case ic_NoText => k_is)
    (case ik_NoText => k_is)
    (case if_NoText => k_is)
    (case dc_is_name => k_is)
    (case dk_is_name => k_is)
    (case dc_is_number => k_is)
    (case dk_is_number => k_is)
    (case dc_shape_of => k_is)
    (case dk_shape_of => k_is)
    (case dc_fits => k_is)
    (case dk_fits => k_is)
    (case dc_is_of => k_is)
    (case dk_is_of => k_is)
    (case dc_started => k_is)
    (case dk_started => k_is)
    (case dc_read => k_is)
    (case dk_read => k_is)
    (case dc__law_deal => k_is)
    (case dk__law_deal => k_is)
    (case dc__law_draw => k_is)
    (case dk__law_draw => k_is)
    (case dc__law_words => k_is)
    (case dk__law_words => k_is)
    (case dc__law_alike => k_is)
    (case dk__law_alike => k_is)
    (case dc__law_is_name => k_is)
    (case dk__law_is_name => k_is)
    (case dc__law_atom_in => k_is)
    (case dk__law_atom_in => k_is)
    (case dc__law_in_row => k_is)
    (case dk__law_in_row => k_is)
    (case dc__law_read => k_is)
    (case dk__law_read => k_is)
    (case dc__law_any_atom => k_is)
    (case dk__law_any_atom => k_is)
    (case dc__law_any_row => k_is)
    (case dk__law_any_row => k_is)
    (case dc__law_told => k_is)
    (case dk__law_told => k_is)
    (case a2 => k_is)
    (case l2 => k_is)
    (case c2 => k_is)
    (case k2 => k_is)
