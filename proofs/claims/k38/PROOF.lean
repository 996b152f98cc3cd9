import PyProof.Rows.All
import Wide.All
import OpenK.AllK
import Wide.FinOn
import HandS.ForMost
import HandS.RaiseMore
import HandS.StrMore
import HandS.Rev
import HandS.Wide
import HandS.Walk
import HandS.Codes
import HandS.Ends
import HandS.Dict
import KE.KDictCopyH
import HandS.TupAny
import HandS.Deep
import HandS.IsInst
import HandS.Style
import HandS.ExcOwn
import KE.KExcIs
import HandS.Exc
import HandS.ExcCtx
import HandS.ExcInit
import HandS.ExcIs
import HandS.ExcField
import HandS.HotCalls
import HandS.Zip
import KE.GoesEnum
import KE.KDictZip
import KE.GoesNew
import HandS.Star
import HandS.Small
import HandS.TryOnly
import HandS.More
import HandS.Iter
import HandS.TupMul
import HandS.Conv
import HandS.SetFor
import PyProof.Rows.SetFrom
import PyProof.Rows.SortShellAny
import HandS.OwnEq
import HandS.FStr
import HandS.MakeKwOnly
import PySem.Challenge.RW_fourbind_k38_plans_made
set_option Elab.async false
set_option linter.all false
set_option maxRecDepth 100000
set_option maxHeartbeats 2000000
namespace Fb
open PySem PySem.Spec PyProof.Rows
/-! list(reversed(xs)), at the library's level -/
abbrev nilL : Obj := { cls := .type "list", data := .seq #[] }
section
variable {prog : Program} {w : World} {A : Around} {E : Value → Shared → Prop} {s : Shared}
abbrev FromEnd (items acc : Array Value) : Prop := ItemsOf (fun i v => items[items.size - 1 - i]? = some v) acc items.size
theorem ext_rev {it l S : Addr} {items : Array Value} {c0 : Nat} {R : Result → Shared → Prop} (hh : A.handled = none)
    (hit : s.heap.IsRevIter it l ((items.size : Int) - 1)) (hl : s.heap.IsList l items) (hne : l ≠ it) (hn : items.size ≤ sizeLine) (hSi : S ≠ it) (hSl : S ≠ l)
    (hS : s.heap.get? S = some { cls := .type "list", data := .seq #[] c0 })
    (hR : ∀ h' tk acc c, (∀ b o, b ≠ S → b ≠ it → s.heap.get? b = some o → h'.get? b = some o) →
      h'.get? S = some { cls := .type "list", dict := none, data := .seq acc c, slots := #[] } → FromEnd items acc → R (.ok (.ret .none)) { s with heap := h', toks := tk }) :
    wpAny (model prog w) A.in1 (Builtin.List.listExtendWith (.ref S) (.ref it) .none)
      (fun fin s' => match fin with | .done f => R (.ok f) s' | .again c' => c'.quiet = true ∧ codeAny (model prog w) A c' R s')
      (fun e s' => R (.error e) s') s := by
  have W := (Walks.listRev (prog := prog) (w := w) (A := A.in1) hh it l hne items).toS
  have nf : S ∉ [it, l] := by
    simp only [List.mem_cons, List.not_mem_nil, or_false, not_or]
    exact ⟨hSi, hSl⟩
  have hT : s.TypeIs (.ref it) "list_reverseiterator" := hit.typeIs
  have h1 : Builtin.List.listSameRef (.ref S) (.ref it) = false := by
    simp [Builtin.List.listSameRef, hSi]
  unfold Builtin.List.listExtendWith
  refine wpAny_bind <| wpAny_typeOf hT ?_
  rw [if_neg <| by rw [h1]; decide]
  refine wpAny_bind <| wpAny_pyIter_revIter hit ?_
  refine wpAny_bind <| wpAny_holding ?_
  unfold Builtin.List.listLengthHint
  refine wpAny_bind <| wpAny_specialOf hT RT.nolen_lri ?_
  show wpAny _ A.in1 (specialOf (Value.ref it) (Str.ofString "__length_hint__") >>= _) _ _ s
  refine wpAny_bind <| wpAny_specialOf hT RT.hint_lri ?_
  generalize e0 : ("list_reverseiterator.__length_hint__" : String) = i0
  wp_delta
  rw [show splitId i0 = some ("list_reverseiterator", "__length_hint__") by subst e0; decide +kernel]
  subst e0
  refine wpAny_bind <| wpAny_isInstance (b := true) hT (by rw [isSubtype_type]; kernel_rfl) ?_
  refine wpAny_pure ?_
  rw [if_neg <| by decide]
  have ez : ((items.size : Nat) : Int) - 1 - ((0 : Nat) : Int) = (items.size : Int) - 1 := by omega
  refine wpAny_pure ⟨plainId_quiet F.plain_extend_loop _, codeAny_extend_loopS W hn _ nf _ items.size 0 _ _ _ rfl (Nat.zero_le _)
    ⟨Nat.zero_le _, by rw [ez]; exact hit, hl⟩ hS (ItemsOf.nil _) fun s' acc' c' hm hS' hacc => ?_⟩
  rw [Moved.eq_with hm]
  refine hR s'.heap s'.toks acc' c' (fun b o b1 b2 e => hm.heap b o (fun z => ?_) e) hS' hacc
  rcases List.mem_cons.mp z with q | q
  · exact b1 q
  · exact b2 (List.mem_singleton.mp q)
theorem call_list_rev {it l : Addr} {items : Array Value} {Q : Value → Shared → Prop} (hh : A.handled = none)
    (hit : s.heap.IsRevIter it l ((items.size : Int) - 1)) (hl : s.heap.IsList l items) (hne : l ≠ it) (hn : items.size ≤ sizeLine)
    (hQ : ∀ h' tk acc c, (∀ b o, b ≠ it → s.heap.get? b = some o → h'.get? b = some o) →
      h'.get? s.heap.objs.size = some { cls := .type "list", dict := none, data := .seq acc c, slots := #[] } → FromEnd items acc → Q (.ref s.heap.objs.size) { s with heap := h', toks := tk }) :
    wpAny (model prog w) A (call (.type "list") [.ref it]) Q E s := by
  obtain ⟨oi, hoi, _⟩ := id hit
  obtain ⟨ol, hol, _⟩ := id hl
  refine callType_codes (Q₁ := fun obj s₁ => obj = .ref s.heap.objs.size ∧ s₁ = { s with heap := s.heap.push nilL }) PySem.F.called_list (PySem.F.typeCall_list_1 _) PySem.F.entry_list_init (code_list_new _ ⟨rfl, rfl⟩) fun obj s₁ h₁ => ?_
  obtain ⟨rfl, rfl⟩ := h₁
  have hS : (s.heap.push nilL).get? s.heap.objs.size = some nilL := Heap.get?_push_size _ rfl
  refine ⟨⟨_, hS, rfl⟩, PySem.F.args_list_init_2 _ _, ?_⟩
  show wpAny _ _ (do let old ← Builtin.List.listItems (.ref s.heap.objs.size); Builtin.List.listUpdate (.ref s.heap.objs.size) (fun _ => #[]); letGo old.toList.reverse; Builtin.List.listExtendWith (.ref s.heap.objs.size) (.ref it) .none) _ _ _
  refine wpAny_bind ?_
  unfold Builtin.List.listItems
  refine wpAny_bind <| wpAny_seqItems hS rfl <| wpAny_pure ?_
  show wpAny _ _ (updateSeq s.heap.objs.size (fun _ => #[]) >>= fun _ => letGo (#[] : Array Value).toList.reverse >>= fun _ => Builtin.List.listExtendWith (.ref s.heap.objs.size) (.ref it) .none) _ _ _
  refine wpAny_bind <| wpAny_updateSeq hS rfl ?_
  have hS2 := Heap.get?_update_self (Obj.mapSeq (fun _ => (#[] : Array Value))) hS rfl
  have ni : s.heap.objs.size ≠ it := Nat.ne_of_gt (Heap.lt_size hoi)
  have nl : s.heap.objs.size ≠ l := Nat.ne_of_gt (Heap.lt_size hol)
  have oth : ∀ b o, b ≠ s.heap.objs.size → s.heap.get? b = some o → ((s.heap.push nilL).update s.heap.objs.size (Obj.mapSeq (fun _ => (#[] : Array Value)))).get? b = some o :=
    fun b o hb e => (Heap.get?_update_other _ _ (Ne.symm hb)).trans (Heap.get?_push_of_some _ e)
  refine wpAny_bind <| wpAny_letGo ?_
  refine ext_rev (A := A.in1) (l := l) hh (hit.at fun o e => oth it o (Ne.symm ni) e) (hl.at fun o e => oth l o (Ne.symm nl) e) hne hn ni nl hS2 fun h' tk acc c hk hS' hacc => ⟨rfl, ?_⟩
  exact hQ h' tk acc c (fun b o hb e => hk b o (Nat.ne_of_lt (Heap.lt_size e)) hb (oth b o (Nat.ne_of_lt (Heap.lt_size e)) e)) hS' hacc
end
end Fb
namespace Fb
open PySem PySem.Spec PyProof.Rows L2
section
variable {X : Cx}
/-- list(reversed(e)), e a list -/
def tListRev (K : PySem.W.Frag) (te : TE) : TE := fun σ H Q => te σ H fun v H1 => ∃ (a : Addr) (xs : List V), v = .ref a ∧ SqL K H1 a xs ∧ ∀ q, H1 q = none → Q (.ref q) (upd H1 q (.lst xs.reverse))
theorem pe_listRev {e : Expr} {te : TE} {p p2 pos pos2 : Pos} (hc : X.calm = true) (hg : Gl X "list") (hm : X.mg "list" = none) (hg2 : Gl X "reversed") (hm2 : X.mg "reversed" = none) (he : PE X e te)
    (hs : starEach [e] X.env = (false, eval e X.env) :: starEach [] X.env := by rfl)
    (hs2 : starEach [.Call (.Name "reversed" p2) [e] [] pos2] X.env = (false, eval (.Call (.Name "reversed" p2) [e] [] pos2) X.env) :: starEach [] X.env := by rfl) :
    PE X (.Call (.Name "list" p) [.Call (.Name "reversed" p2) [e] [] pos2] [] pos) (tListRev X.K te) := by
  refine ⟨fun pins s σ H Q I h => ?_⟩
  refine Call_ (ld_blt I hg hm boot_list (callWith_type1 (args_cons (Call_ (ld_blt I hg2 hm2 boot_reversed (callWith_type1 (args_cons (thn (he.run pins s σ H _ I h) fun u s1 ⟨v, H1, I1, r1, q1⟩ => args_nil ?_) hs) hs rfl))) hs2) hs2 rfl))
  obtain ⟨a, xs, ev, hq, q⟩ := q1
  subst ev
  obtain rfl : u = Value.ref a := r1
  obtain ⟨its, rv, pl, hz⟩ := I1.list hq
  refine call_reversed_list pl.isList (args_nil ?_)
  have I2 : Inv X pins σ H1 { s1 with heap := s1.heap.push (revObj a ((its.toArray.size : Int) - 1)) } := I1.kept (t' := s1.toks) fun b o e => Heap.get?_push_of_some _ e
  obtain ⟨f0, f1, f2, f3, f4, f5⟩ := I1.fpOk (H' := H1) (b := s1.heap.objs.size) (Nat.le_refl _) (I1.hok.fresh (Nat.le_refl _))
  have hl := pl.isList
  obtain ⟨ol, hol, _⟩ := id hl
  have hne : a ≠ s1.heap.objs.size := Nat.ne_of_lt (Heap.lt_size hol)
  have hn : its.toArray.size ≤ sizeLine := by rw [List.size_toArray, ← rv.length]; exact hz
  refine call_list_rev (s := { s1 with heap := s1.heap.push (revObj a ((its.toArray.size : Int) - 1)) }) (I1.ok.hd hc) ⟨_, Heap.get?_push_size _ rfl, rfl, rfl⟩ (hl.push _) hne hn fun h' tk acc c hk hS' hacc => ?_
  have fr : H1 (s1.heap.objs.size + 1) = none := I1.hok.fresh (Nat.le_succ _)
  have sz : (s1.heap.push (revObj a ((its.toArray.size : Int) - 1))).objs.size = s1.heap.objs.size + 1 := by simp [Heap.push]
  have I3 := I2.laid (t' := tk) (a := s1.heap.objs.size + 1) (o := .lst xs.reverse)
    (h' := (s1.heap.push (revObj a ((its.toArray.size : Int) - 1))).push { cls := .type "list", dict := none, data := .seq acc c, slots := #[] })
    (fun b o e => Heap.get?_push_of_some _ e) (Nat.le_of_eq sz)
    (show ObjOk X.prog X.w _ _ _ (.lst xs.reverse) from ⟨by rw [List.length_reverse]; exact hz, acc.toList, c, RT.vals_rev rv hacc, by
      rw [← sz, Array.toArray_toList]
      exact Heap.get?_push_size _ rfl⟩)
  have nit : s1.heap.objs.size ≠ s1.heap.objs.size + 1 := Nat.ne_of_lt (Nat.lt_succ_self _)
  have I4 := I3.turned (t' := tk) (it := s1.heap.objs.size) (h' := h') (fun b o hb e => ?_) (by rw [upd_ne nit]; exact f0) f1 f3 f4 f5
  · refine ⟨.ref (s1.heap.objs.size + 1), _, I4, ?_, q _ fr⟩
    exact congrArg Value.ref sz
  · rcases Heap.get?_push_cases e with ⟨eb, eo⟩ | e2
    · subst eb
      subst eo
      exact hS'
    · exact hk b o hb e2
end
end Fb
set_option Elab.async false
set_option linter.all false
set_option maxRecDepth 100000
set_option maxHeartbeats 2000000
namespace Fb
open PySem PySem.Spec PyProof.Rows L2
/-! ### calls without arguments; repr of a plain value -/
section
variable {X : Cx} {k j : Nat} {x : Str} {sp : Sp} {dvs : List V} {p pos : Pos}
theorem pe_c0 (c : C8.Cal X.prog X.w X.K X.mg X.base k x sp dvs) (hr : Room j X.A) (hk : k ≤ j) (hg : Gl X x) (hdb : (x == ("__debug__" : Str)) = false := by decide) :
    PE X (.Call (.Name x p) [] [] pos) (tCall sp dvs E0 tNil) := by
  obtain ⟨f, fd, ps, ds, F, hm, kp, b, d⟩ := c.ex
  exact pe_call0 F (hr.mono hk) hg hm kp b d pass0 hdb
def tf (b : Bool) : Str := if b then "True" else "False"
def rRepr0 : List V → Hp → VK → Prop := fun xs H Q => (∃ b, xs = [.bl b] ∧ Q (.str (tf b)) H) ∨ ∃ i, xs = [.int i] ∧ i.natAbs.log2 < 1920 ∧ Q (.str (toString i)) H
theorem call_repr0 : CallR X (.builtin "repr") rRepr0 := by
  intro pins s σ H xs us Q I r h
  rcases h with ⟨b, rfl, q⟩ | h
  · obtain ⟨u, rfl, rx⟩ := vals1 r
    cases rx
    exact PySem.P.repr_of_bool ⟨.str _, H, I.tok _, ⟨_, rfl⟩, q⟩
  · obtain ⟨i, rfl, hz, q⟩ := h
    obtain ⟨u, rfl, t, rfl⟩ := vals1 r
    exact PySem.P.repr_of_int hz ⟨V.str _, H, I.tok _, ⟨_, rfl⟩, q⟩
end
/-! ### heaps -/
theorem same_new {H : Hp} {p : Addr} {o : HO} (h : H p = none) : Same H (upd H p o) := fun b x e => by
  rw [upd_ne (ne_of_none e h)]
  exact e
/-! ### the deal: a dict of three -/
def dealD (s n : Int) (l : Addr) : List (Key × V) := [(.inr "seed", .int s), (.inr "number", .int n), (.inr "left", .ref l)]
abbrev kx (x : Str) : Key := .inr x
theorem ne_sn : ¬ (kx "seed" = kx "number") := by decide +kernel
theorem ne_sl : ¬ (kx "seed" = kx "left") := by decide +kernel
theorem ne_nl : ¬ (kx "number" = kx "left") := by decide +kernel
section
variable {s n x : Int} {l d : Addr} {H : Hp}
theorem v_seed : valV (dealD s n l) (.inr "seed") = some (.int s) := valV_pos rfl
theorem v_number : valV (dealD s n l) (.inr "number") = some (.int n) := (valV_neg ne_sn).trans (valV_pos rfl)
theorem v_left : valV (dealD s n l) (.inr "left") = some (.ref l) := (valV_neg ne_sl).trans ((valV_neg ne_nl).trans (valV_pos rfl))
theorem p_seed : putK (dealD s n l) (.inr "seed") (.int x) = dealD x n l := by
  have a : ¬ (kx "number" = kx "seed") := fun e => ne_sn e.symm
  have b : ¬ (kx "left" = kx "seed") := fun e => ne_sl e.symm
  simp [putK, dealD, a, b]
theorem p_number : putK (dealD s n l) (.inr "number") (.int x) = dealD s x l := by
  have a := ne_sn
  have b : ¬ (kx "left" = kx "number") := fun e => ne_nl e.symm
  simp [putK, dealD, a, b]
theorem g_seed (h : H d = some (.dK (dealD s n l))) : DGet H d (.str "seed") (some (.int s)) := by
  have z := DGet.k (k := Sum.inr "seed") h
  rw [v_seed] at z
  exact z
theorem g_number (h : H d = some (.dK (dealD s n l))) : DGet H d (.str "number") (some (.int n)) := by
  have z := DGet.k (k := Sum.inr "number") h
  rw [v_number] at z
  exact z
theorem g_left (h : H d = some (.dK (dealD s n l))) : DGet H d (.str "left") (some (.ref l)) := by
  have z := DGet.k (k := Sum.inr "left") h
  rw [v_left] at z
  exact z
theorem u_seed (h : H d = some (.dK (dealD s n l))) : DPut H d (.str "seed") (.int x) (upd H d (.dK (dealD x n l))) := by
  refine .inl ⟨dealD s n l, .inr "seed", h, rfl, ?_, ?_⟩
  · show 3 < sizeLine
    exact small1000 (by decide)
  · rw [p_seed]
theorem u_number (h : H d = some (.dK (dealD s n l))) : DPut H d (.str "number") (.int x) (upd H d (.dK (dealD s x l))) := by
  refine .inl ⟨dealD s n l, .inr "number", h, rfl, ?_, ?_⟩
  · show 3 < sizeLine
    exact small1000 (by decide)
  · rw [p_number]
end
/-- a deal stands at d, its list at l -/
def DealX (H : Hp) (d l : Addr) (s n : Int) (ns : List Int) : Prop :=
  H d = some (.dK (dealD s n l)) ∧ H l = some (.lst (ns.map V.int)) ∧ 0 ≤ s ∧ s < 2147483648 ∧ 0 ≤ n ∧ ∀ x ∈ ns, 0 < x
def DealAt (H : Hp) (d l : Addr) : Prop := ∃ s n ns, DealX H d l s n ns
/-- all else stays -/
def Keep (d l : Addr) (H H' : Hp) : Prop := ∀ b o, H b = some o → b ≠ d → b ≠ l → H' b = some o
theorem Keep.refl (d l : Addr) (H : Hp) : Keep d l H H := fun _ _ e _ _ => e
theorem Keep.trans {d l : Addr} {H H1 H2 : Hp} (a : Keep d l H H1) (b : Keep d l H1 H2) : Keep d l H H2 := fun c o e h1 h2 => b c o (a c o e h1 h2) h1 h2
theorem Keep.of {d l : Addr} {H H' : Hp} (s : Same H H') : Keep d l H H' := fun b o e _ _ => s b o e
theorem Keep.upd {d l p : Addr} {H H' : Hp} {o : HO} (k : Keep d l H H') (hp : H p = none) : Keep d l H (upd H' p o) := fun b x e h1 h2 => by
  rw [upd_ne (ne_of_none e hp)]
  exact k b x e h1 h2
theorem Keep.at_d {d l : Addr} {H H' : Hp} {o : HO} (k : Keep d l H H') : Keep d l H (L2.upd H' d o) := fun b x e h1 h2 => by
  rw [upd_ne h1]
  exact k b x e h1 h2
theorem Keep.at_l {d l : Addr} {H H' : Hp} {o : HO} (k : Keep d l H H') : Keep d l H (L2.upd H' l o) := fun b x e h1 h2 => by
  rw [upd_ne h2]
  exact k b x e h1 h2
theorem DealX.ne {H : Hp} {d l : Addr} {s n : Int} {ns : List Int} (h : DealX H d l s n ns) : d ≠ l := ne_of h.1 h.2.1 (by intro z; cases z)
theorem DealX.same {H H' : Hp} {d l : Addr} {s n : Int} {ns : List Int} (h : DealX H d l s n ns) (e : Same H H') : DealX H' d l s n ns := ⟨e _ _ h.1, e _ _ h.2.1, h.2.2⟩
theorem DealAt.same {H H' : Hp} {d l : Addr} (h : DealAt H d l) (e : Same H H') : DealAt H' d l := let ⟨s, n, ns, z⟩ := h; ⟨s, n, ns, z.same e⟩
theorem DealAt.d_ne {H : Hp} {d l p : Addr} (h : DealAt H d l) (hp : H p = none) : p ≠ d := let ⟨_, _, _, z⟩ := h; (ne_of_none z.1 hp).symm
theorem DealAt.l_ne {H : Hp} {d l p : Addr} (h : DealAt H d l) (hp : H p = none) : p ≠ l := let ⟨_, _, _, z⟩ := h; (ne_of_none z.2.1 hp).symm
theorem DealAt.upd {H : Hp} {d l p : Addr} {o : HO} (h : DealAt H d l) (h1 : p ≠ d) (h2 : p ≠ l) : DealAt (L2.upd H p o) d l := let ⟨s, n, ns, z⟩ := h; ⟨s, n, ns, by rw [upd_ne h1.symm]; exact z.1, by rw [upd_ne h2.symm]; exact z.2.1, z.2.2⟩
/-- a draw below many -/
def spDraw : Sp := fun vs H Q _ => ∃ (d l : Addr) (many : Int), vs = [.ref d, .int many] ∧ DealAt H d l ∧ 0 < many ∧ many < 4611686018427387904 ∧
  ∀ (r : Int) (H' : Hp), 0 ≤ r → r < many → DealAt H' d l → Keep d l H H' → Q (.int r) H'
def spDeal (K : PySem.W.Frag) : Sp := fun vs H Q _ => ∃ (a : Addr) (ns : List Int), vs = [.ref a] ∧ SqL K H a (ns.map V.int) ∧ ns.length ≤ 63 ∧
  ∀ (d l : Addr) (H' : Hp), H d = none → H l = none → DealAt H' d l → Same H H' → Q (.ref d) H'
theorem merge_deal {s n : Int} {l : Addr} : mergeK [] (dealD s n l) = dealD s n l := by
  have a := ne_sn
  have b := ne_sl
  have c := ne_nl
  simp [mergeK, putK, dealD, a, b, c]
theorem cut_ints (ns : List Int) (lo hi : Option Int) : ∃ ms : List Int, cutV (ns.map V.int) lo hi = ms.map V.int ∧ ms.length ≤ ns.length := by
  refine ⟨(ns.drop (HT.sIx (ns.map V.int).length 0 lo)).take (HT.sIx (ns.map V.int).length (ns.map V.int).length hi - HT.sIx (ns.map V.int).length 0 lo), ?_, ?_⟩
  · rw [cutV, List.map_take, List.map_drop]
  · rw [List.length_take, List.length_drop]
    omega
theorem int_at {ns : List Int} {i : Nat} {x : V} (h : (ns.map V.int)[i]? = some x) : ∃ z, x = .int z ∧ z ∈ ns := by
  rw [List.getElem?_map] at h
  cases e : ns[i]? with
  | none =>
    rw [e] at h
    cases h
  | some z =>
    rw [e] at h
    exact ⟨z, (Option.some.inj h).symm, List.mem_of_getElem? e⟩
theorem snoc_ints (zs : List Int) (z : Int) : zs.map V.int ++ [V.int z] = (zs ++ [z]).map V.int := by
  rw [List.map_append]
  rfl
theorem divW {i j : Int} (h : 0 < j) (h2 : j < 4611686018427387904) : CDivW i j := wide_div (b := 64) h (by omega) (by decide) (by decide)
theorem mulS {i j : Int} (h : 0 ≤ i) (h2 : i < 4611686018427387904) : CMul i j := .inl ⟨by omega, by omega⟩
theorem mod_lo {a b : Int} (h : 0 < b) : 0 ≤ a % b := Int.emod_nonneg a (by omega)
theorem mod_hi {a b : Int} (h : 0 < b) : a % b < b := Int.emod_lt_of_pos a h
theorem nest (a b : Int) : (if b > a then b else a) = max a b := by
  by_cases h : b > a
  · rw [if_pos h]; omega
  · rw [if_neg h]; omega
end Fb
set_option Elab.async false
set_option linter.all false
set_option maxRecDepth 100000
set_option maxHeartbeats 2000000
namespace Fb
open PySem PySem.W PySem.Calls PyProof.Rows L2
/-- a def as the top has left it -/
def Has (K : PySem.W.Frag) (mg : Str → Option Value) (x : Str) (st : Stmt) : Prop := ∃ f fd, L2.Fun K x x st f fd ∧ mg x = some (.ref f)
def Cn (mg : Str → Option Value) (x : Str) (v : V) : Prop := ∃ u, mg x = some u ∧ RelV v u
theorem has_mk {K : PySem.W.Frag} {mg : Str → Option Value} {h : Heap} {x : Str} {st : Stmt} {f : Addr} {oc : Value} {od an : Option Addr} {sl : Array (Option Value)} {kV dc pm cd ct : Value} (X : K.In h) (G : h.Ns mainGlobals mg)
    (a : nsIn K mainGlobals x = some (some (.ref f))) (l : K.lookup f = some ⟨oc, od, .func (fnOf x x (defArgs st) (defBody st) (defScope st) .none kV dc pm an cd ct), sl⟩) (c : codeIn K cd x = true) (k : keepIn K (.ref f) = true) : Has K mg x st :=
  ⟨f, _, fun_mk l c k, mg_of X G a⟩
theorem rel_abs {u : Value} {v : V} (h : absV u = some v) : RelV v u := by
  cases u with
  | none => cases h; rfl
  | bool b => cases h; rfl
  | int i t => cases h; exact ⟨t, rfl⟩
  | str x t => cases h; exact ⟨t, rfl⟩
  | bytes b t => cases h; exact ⟨t, rfl⟩
  | float b t => cases h; exact ⟨t, rfl⟩
  | ref a => cases h; rfl
  | type n => cases h; rfl
  | _ => cases h
theorem vals_abs : ∀ {us : List Value} {vs : List V}, us.map absV = vs.map some → Vals vs us
  | [], [], _ => .nil
  | [], _ :: _, h => by cases h
  | _ :: _, [], h => by cases h
  | u :: us, v :: vs, h => by
    rw [List.map_cons, List.map_cons] at h
    injection h with h1 h2
    exact .cons (rel_abs h1) (vals_abs h2)
theorem tup_in {K : PySem.W.Frag} {a : Addr} {od : Option Addr} {its : Array Value} {n : Nat} {sl : Array (Option Value)} {xs : List V} (l : K.lookup a = some ⟨.type "tuple", od, .seq its n, sl⟩) (z : its.size ≤ 1000) (e : its.toList.map absV = xs.map some) (H : Hp) : SqT K H a xs :=
  .inr ⟨_, its, n, l, rfl, rfl, Nat.le_of_lt (small1000 z), vals_abs e⟩
theorem cn_in {K : PySem.W.Frag} {mg : Str → Option Value} {h : Heap} {x : Str} {u : Value} {v : V} (X : K.In h) (G : h.Ns mainGlobals mg) (a : nsIn K mainGlobals x = some (some u)) (e : absV u = some v) : Cn mg x v := ⟨u, mg_of X G a, rel_abs e⟩
theorem cn_loose {p : Program} {lv : List (Str × WData)} {mg : Str → Option Value} {h : Heap} {x : Str} {n : Int} (X : XL p lv mg h) (m : (x, WData.int n) ∈ lv) : Cn mg x (.int n) := by
  obtain ⟨v, a, r⟩ := X.2.val _ m
  cases r
  exact ⟨_, a, ⟨_, rfl⟩⟩
/-- the end of a law, with what the top has reckoned told -/
theorem walk_X {l : OpenLaw} {n k : Nat} {q : Program} {loose : List Str} {XP : (Str → Option Value) → Heap → Prop} {YP : World → Heap → Prop} {d : DefRec} {K : Params → Frag} {sp : World → Sp} {x : Str}
    (hn : l.most = some n) (hn2 : n ≤ sizeLine) (hdf : d.params.defaults = []) (hr : Room k callerA) (hY : ∀ (w : World) (h : Heap), YP w h → (K w.params).In h)
    (F : ∀ (w : World) (mg : Str → Option Value) (fa : Addr) (h : Heap), (K w.params).In h → h.Ns mainGlobals mg → XP mg h → mg d.name = some (.ref fa) →
      ∃ fd : FuncData, (∀ (s : Shared) (u : Value), BindsTo s fd ⟨[u], []⟩ [(x, u)]) ∧ ∀ base : Heap, (K w.params).In base → base.Ns mainGlobals mg → FnOk l.prog w (K w.params) mg base CX0 k fa fd [x] (sp w))
    (hsp : ∀ (w : World) (H : Hp) (a : Addr) (ns : List Int), ns.length ≤ n → SqL (K w.params) H a (ns.map V.int) → sp w [.ref a] H (fun v _ => v = .bl true) fun _ _ _ => False) :
    WalkO q loose XP YP l.row.toRowW d [] (fun f vs => PySem.call f vs) := by
  refine Att.attach_call hn hdf fun w s₀ s₁ mg mb fa o pm cd doc a vs ns G Y ho hd hcd hmg hobj hints hlen hg => ?_
  obtain ⟨fd, hb, hF⟩ := F w mg fa _ (hY w _ Y) G.T.g G.X hmg
  exact law_call (hY w _ Y) G.T.g G.T.b G.T.builtins G.T.nolimit hg hobj hints (Nat.le_trans hlen hn2) hr hF hb (fun H _ hS => hsp w H a ns hlen hS) fun H e s' z => z
end Fb
set_option Elab.async false
set_option linter.all false
set_option maxRecDepth 100000
set_option maxHeartbeats 2000000
namespace Fb
open PySem PySem.Spec PyProof.Rows L2
/-! ### a def that is called where nothing is being shown (no repr is under way) -/
structure FnG (P : Program) (w : World) (K : PySem.W.Frag) (mg : Str → Option Value) (base : Heap) (k : Nat) (f : Addr) (fd : FuncData) (ps : List Str) (sp : Sp) : Prop where
  len : ∀ vs H Q E, sp vs H Q E → vs.length = ps.length
  run : ∀ (A : Around) (outer : List Env) (s : Shared) (H : Hp) (args : Args) (us : List Value) (vs : List V) (Q : VK) (E : XK), A.guards = some [] → Room k A →
    Env0 P w K mg base A outer s H → BindsTo s fd args (ps.zip us) → Vals vs us → sp vs H Q E → codeAny (model P w) A (.call (.ref f) args) (CR CX0 outer P w H s Q E) s
section
variable {P : Program} {w : World} {K : PySem.W.Frag} {mg : Str → Option Value} {base : Heap}
theorem ok_G {x qual : Str} {st : Stmt} {f : Addr} {fd : FuncData} {N ps : List Str} {k : Nat} {sp : Sp} (F : L2.Fun K x qual st f fd) (S : FnScope N ps (defScope st)) (len : ∀ vs H Q E, sp vs H Q E → vs.length = ps.length)
    (walk : ∀ (cdv : Value) (A : Around) (outer : List Env) (s : Shared) (H : Hp) (vs : List V) (Q : VK) (E : XK), (A.deeper (envOfC qual (defScope st) s.heap.objs.size f cdv)).guards = some [] → Room k (A.deeper (envOfC qual (defScope st) s.heap.objs.size f cdv)) → sp vs H Q E →
      ∃ t, PSs (cxOf CX0 P w K mg base N qual (defScope st) f cdv A outer s H E).nox (defBody st) t ∧ t { nx := fun _ H' => Q .non H', rt := Q } (start N vs) H) : FnG P w K mg base (k + 1) f fd ps sp := by
  obtain ⟨oc, od, kV, dc, pm, an, cdv, ct, osl, rfl, lk, hcd⟩ := F.ex
  refine ⟨len, fun A outer s H args us vs Q E gd hr e0 hb r hs0 => ?_⟩
  have hl := len _ _ _ _ hs0
  have kIn : K.In s.heap := e0.mod.kin.keeps fun b o e => (e0.bs b o e).1
  have nolim : s.heap.NoLimit := e0.mod.nolimit.keeps fun b o e => (e0.bs b o e).1
  have kinds : ∀ y ∈ ps.zip us, (defScope st).names.lookup y.1 = some .local ∨ ((defScope st).names.lookup y.1 = some .cell ∧ ((cellsFrom (s.heap.objs.size + 1) (defScope st).names []).lookup y.1).isSome = true) := fun ⟨n, v⟩ hy => by
    rcases S.par n (List.of_mem_zip hy).1 with z | z
    · exact .inl z
    · exact .inr ⟨z, PySem.W.cellsFrom_some _ _ _ (.inl z)⟩
  refine codeAny_call_function hr.depth (kIn _ _ lk) rfl S.co S.gen rfl (PySem.W.codeRec_of kIn hcd) (hb _ _ _ _ ?_)
  refine wpAny_newFunctionEnv_cells S.kind kinds fun env he s1 y => ?_
  subst he
  refine ⟨nolim.keeps y.toInCall.keep, codeAny_func ?_⟩
  obtain ⟨t, ht, hq⟩ := walk cdv A outer s H vs Q E gd (hr.deeper _) hs0
  have I0 : Inv (cxOf CX0 P w K mg base N qual (defScope st) f cdv A outer s H E) [] (start N vs) H s1 := inv_start S hr.hd e0 hl r y
  refine wpAny_mono (ht.nox.run [] s1 (start N vs) H _ I0 hq) (fun fl s' z => ?_) fun e s' z => z
  have out : ∀ {σ' : L2.St} {H' : Hp} {v : V} {u : Value}, Inv (cxOf CX0 P w K mg base N qual (defScope st) f cdv A outer s H E) [] σ' H' s' → RelV v u → Q v H' → CE outer P w H s Q u s' := fun {σ' H' v u} J rv q => ⟨v, H', J.os, J.bare, J.base, J.hok, rv, q⟩
  cases fl with
  | ret u =>
    obtain ⟨v, σ', H', J, rv, q⟩ := z
    exact out J rv q
  | next =>
    obtain ⟨σ', H', J, q⟩ := z
    exact out (v := V.non) (u := Value.none) J rfl q
  | brk =>
    obtain ⟨_, _, _, q⟩ := z
    exact q.elim
  | cont =>
    obtain ⟨_, _, _, q⟩ := z
    exact q.elim
end
/-- a def under its name, where nothing is being shown -/
structure CalG (P : Program) (w : World) (K : PySem.W.Frag) (mg : Str → Option Value) (base : Heap) (k : Nat) (x : Str) (sp : Sp) : Prop where
  ex : ∃ (f : Addr) (fd : FuncData) (ps : List Str), FnG P w K mg base k f fd ps sp ∧ mg x = some (.ref f) ∧ PySem.W.keepIn K (.ref f) = true ∧ Binds K fd ps []
section
variable {X : Cx} {k j : Nat} {x : Str} {sp : Sp} {p pos : Pos} {e : Expr} {es : List Expr} {t : TA}
theorem pe_cG (c : CalG X.prog X.w X.K X.mg X.base k x sp) (gd : X.A.guards = some []) (hr : Room j X.A) (hk : k ≤ j) (hg : Gl X x) (ha : PA X (e :: es) t) (hdb : (x == ("__debug__" : Str)) = false := by decide)
    (he : starEach (e :: es) X.env = (false, eval e X.env) :: starEach es X.env := by rfl) (hpl : (backTo pos (starEach es X.env)).any (·.1) = false := by rfl) : PE X (.Call (.Name x p) (e :: es) [] pos) (tCall sp [] E0 t) := by
  obtain ⟨f, fd, ps, F, hm, kp, b⟩ := c.ex
  refine ⟨fun pins s σ H Q I h => ?_⟩
  refine wpAny_Call_Name_kw (ld_glob I hg hm ?_ hdb)
  refine PySem.W.callWith_K (h₀ := X.base) I.ok.mod.kin kp (thn (ha.run pos pins s σ H _ I h) fun us s1 ⟨vs, H1, I1, r, q⟩ => ⟨I1.kIn, ?_⟩) he hpl
  have q2 : sp vs H1 Q E0 := by have z : sp (vs ++ []) H1 Q E0 := q; rw [List.append_nil] at z; exact z
  have hl : us.length = ps.length := by rw [← r.length]; exact F.len _ _ _ _ q2
  refine wpAny_call (codeAny_mono (F.run X.A X.stack s1 H1 ⟨us, []⟩ us vs Q E0 gd (hr.mono hk) I1.env0 (by have z := b s1 us I1.kIn (by rw [List.append_nil]; exact hl); rw [List.append_nil] at z; exact z) r q2) fun r' s' hq => ?_)
  cases r' with
  | error e => exact hq.elim
  | ok fl =>
    cases fl with
    | ret u => exact I1.after hq
    | next => exact hq.elim
    | brk => exact hq.elim
    | cont => exact hq.elim
/-- repr of data at any depth -/
def rReprD (K : PySem.W.Frag) : List V → Hp → VK → Prop := fun xs H Q => ∃ (a : Addr) (d : PyData), xs = [.ref a] ∧ Dp K H (.ref a) d ∧ d.showable = true ∧ d.hasDict = false ∧ d.depth ≤ 60 ∧ d.shown.length ≤ sizeLine ∧ Q (.str d.shown) H
theorem call_reprD (gd : X.A.guards = some []) (hu : X.A.units + 64 < cLine) : CallR X (.builtin "repr") (rReprD X.K) := by
  intro pins s σ H xs us Q I r h
  obtain ⟨a, d, rfl, hd, h1, h2, h3, h4, q⟩ := h
  obtain ⟨u, rfl, rx⟩ := vals1 r
  obtain ⟨as, rd⟩ := Dp.reads I d _ _ hd rx
  obtain rfl : u = Value.ref a := rx
  refine repr_of_reads' (h₀ := s.heap) rd h1 (fun z => by rw [h2] at z; cases z) gd (by omega) (fun _ _ e => e) (fun h' u tk hk => ?_) h4
  exact ⟨V.str _, H, I.kept (t' := tk) hk, ⟨_, rfl⟩, q⟩
end
end Fb
namespace Fb
open PySem PySem.W PySem.Calls PyProof.Rows L2
/-- the law's own call, where nothing is being shown -/
theorem law_G {P : Program} {w : World} {K : Frag} {mg mb : Str → Option Value} {k : Nat} {fa a : Addr} {fd : FuncData} {x : Str} {sp : Sp} {s₁ : Shared} {vs : List Value} {ns : List Int}
    (KX : K.In s₁.heap) (hns : s₁.heap.Ns mainGlobals mg) (hb : s₁.heap.Ns builtinsNs mb) (hbb : ∀ x : Str, x ≠ "__name__" → mb x = bootBuiltins x) (hlim : s₁.heap.NoLimit) (hg : s₁.gens = #[])
    (ha : s₁.heap.get? a = some { cls := .type "list", data := .seq vs.toArray }) (hi : IntsAre vs ns) (hl : ns.length ≤ sizeLine) (hr : Room k callerA)
    (F : ∀ base : Heap, K.In base → base.Ns mainGlobals mg → FnG P w K mg base k fa fd [x] sp) (hbind : ∀ (s : Shared) (u : Value), BindsTo s fd ⟨[u], []⟩ [(x, u)])
    (hsp : ∀ H : Hp, SqL K H a (ns.map V.int) → sp [.ref a] H (fun v _ => v = .bl true) fun _ _ _ => False) :
    codeAny (model P w) callerA (.call (.ref fa) ⟨[.ref a], []⟩) (fun r s' => r = .ok (.ret (.bool true)) ∧ OldK s₁.heap s'.heap ∧ s'.os = s₁.os ∧ AllBare s'.gens) s₁ := by
  have rv := vals_ints hi
  have lv := hi.length
  have core : ∀ H : Hp, Only H → SqL K H a (ns.map V.int) → HOk P w H s₁.heap → (∀ b, H b ≠ none → b = a) → (H a ≠ none → K.lookup a = none) →
      codeAny (model P w) callerA (.call (.ref fa) ⟨[.ref a], []⟩) (fun r s' => r = .ok (.ret (.bool true)) ∧ OldK s₁.heap s'.heap ∧ s'.os = s₁.os ∧ AllBare s'.gens) s₁ := by
    intro H0 hO hS hok hA hK
    have tracked : ∀ {b : Addr} {u : HO}, H0 b = some u → b = a := fun {b u} q => hA b (by rw [q]; simp)
    have hid : ∀ {b : Addr} {o : Obj}, s₁.heap.get? b = some o → H0 b = none → (hidT s₁.heap H0).get? b = some o := fun e n => hidT_get e n
    have noD : ∀ {b : Addr} {o : Obj} {es : Array DictEntry} {ep : Nat}, s₁.heap.get? b = some o → o.data = .dict es ep → H0 b = none := fun {b o es ep} e dt => by
      cases q : H0 b with
      | none => rfl
      | some u =>
        obtain rfl := tracked q
        rw [ha] at e; cases e
        have z : Data.seq vs.toArray _ = Data.dict es ep := dt
        cases z
    have nsK : ∀ {b : Addr} {m : Str → Option Value}, s₁.heap.Ns b m → (hidT s₁.heap H0).Ns b m := fun {b m} ⟨o, es, ep, e, dt, r⟩ => ⟨o, es, ep, hid e (noD e dt), dt, r⟩
    have kIn : K.In (hidT s₁.heap H0) := fun b o e => hid (KX b o e) (by
      cases q : H0 b with
      | none => rfl
      | some u =>
        obtain rfl := tracked q
        rw [hK (by rw [q]; simp)] at e; cases e)
    have md : Mod K mg (hidT s₁.heap H0) := ⟨kIn, nsK hns, ⟨mb, nsK hb, hbb⟩, let ⟨mc, h1, h2⟩ := hlim; ⟨mc, nsK h1, h2⟩⟩
    have env : Env0 P w K mg (hidT s₁.heap H0) callerA [] s₁ H0 := ⟨rfl, md, fun b o e => of_hidT e, Nat.le_of_eq (hidT_size _ _), trivial, fun b z => absurd (show b ∈ ([] : List Addr) from z) (by simp), hok, .of_eq hg⟩
    refine codeAny_mono ((F _ kIn (nsK hns)).run callerA [] s₁ H0 ⟨[.ref a], []⟩ [.ref a] [.ref a] _ _ rfl hr env (hbind s₁ (.ref a)) (.cons rfl .nil) (hsp H0 hS)) fun r s' h => ?_
    cases r with
    | error e => exact h.elim
    | ok fl =>
      cases fl with
      | next => exact h.elim
      | brk => exact h.elim
      | cont => exact h.elim
      | ret u =>
        obtain ⟨v, H', os, bare, un, ok2, rl, q⟩ := h
        obtain rfl : v = .bl true := q
        obtain rfl : u = Value.bool true := rl
        refine ⟨rfl, OldK.of_keep fun b o e => ?_, os, bare⟩
        cases q : H0 b with
        | none => exact un.keep b o e q (fun z => absurd (show b ∈ ([] : List Addr) from z) (by simp)) (by simp)
        | some u =>
          rcases hO b with z | ⟨ob, xs, z⟩
          · rw [q] at z; cases z
          · obtain ⟨e1, _⟩ := hok b _ z
            obtain ⟨e2, _⟩ := ok2 b _ (un.frzs b ob _ z)
            rw [e] at e1; cases e1
            exact e2
  cases hk : K.lookup a with
  | some o =>
    have e := KX a o hk
    rw [ha] at e
    cases e
    exact core (fun _ => none) (fun _ => .inl rfl) (.inr ⟨_, vs.toArray, _, hk, rfl, rfl, rfl, by rw [List.size_toArray, lv]; exact hl, by simpa using rv⟩) (fun b u z => by have y : (none : Option HO) = some u := z; cases y) (fun b z => absurd rfl z) fun z => absurd rfl z
  | none =>
    refine core (fun b => if b = a then some (.frz { cls := .type "list", data := .seq vs.toArray } (.lst (ns.map V.int))) else none) (fun b => ?_) (.inl (.inr ⟨{ cls := .type "list", data := .seq vs.toArray }, if_pos rfl⟩)) (fun b u z => ?_) (fun b z => ?_) fun _ => hk
    · by_cases q : b = a
      · exact .inr ⟨_, _, if_pos q⟩
      · exact .inl (if_neg q)
    · by_cases q : b = a
      · have y := (if_pos q).symm.trans z
        cases y
        subst q
        exact ⟨ha, by rw [List.length_map]; exact hl, vs, _, rv, ha⟩
      · have y := (if_neg q).symm.trans z
        cases y
    · by_cases q : b = a
      · exact q
      · exact absurd (if_neg q) z
theorem walk_G {l : OpenLaw} {n k : Nat} {q : Program} {loose : List Str} {XP : (Str → Option Value) → Heap → Prop} {YP : World → Heap → Prop} {d : DefRec} {K : Params → Frag} {sp : World → Sp} {x : Str}
    (hn : l.most = some n) (hn2 : n ≤ sizeLine) (hdf : d.params.defaults = []) (hr : Room k callerA) (hY : ∀ (w : World) (h : Heap), YP w h → (K w.params).In h)
    (F : ∀ (w : World) (mg : Str → Option Value) (fa : Addr) (h : Heap), (K w.params).In h → h.Ns mainGlobals mg → XP mg h → mg d.name = some (.ref fa) →
      ∃ fd : FuncData, (∀ (s : Shared) (u : Value), BindsTo s fd ⟨[u], []⟩ [(x, u)]) ∧ ∀ base : Heap, (K w.params).In base → base.Ns mainGlobals mg → FnG l.prog w (K w.params) mg base k fa fd [x] (sp w))
    (hsp : ∀ (w : World) (H : Hp) (a : Addr) (ns : List Int), ns.length ≤ n → SqL (K w.params) H a (ns.map V.int) → sp w [.ref a] H (fun v _ => v = .bl true) fun _ _ _ => False) :
    WalkO q loose XP YP l.row.toRowW d [] (fun f vs => PySem.call f vs) := by
  refine Att.attach_call hn hdf fun w s₀ s₁ mg mb fa o pm cd doc a vs ns G Y ho hd hcd hmg hobj hints hlen hg => ?_
  obtain ⟨fd, hb, hF⟩ := F w mg fa _ (hY w _ Y) G.T.g G.X hmg
  exact law_G (hY w _ Y) G.T.g G.T.b G.T.builtins G.T.nolimit hg hobj hints (Nat.le_trans hlen hn2) hr hF hb (fun H hS => hsp w H a ns hlen hS)
end Fb
set_option Elab.async false
set_option linter.all false
set_option maxRecDepth 100000
set_option maxHeartbeats 2000000
/-! ### dicts whose keys are None, numbers, texts; or tuples of these -/
namespace Fb
open PySem PySem.Spec PyProof.Rows L2
def lfV : Leaf → V
  | .none => .non
  | .num i => .int i
  | .text x => .str x
theorem lf_is {P : Program} {w : World} {k : Leaf} {u : Value} (r : RelV (lfV k) u) : (leafKind P w).is k u = true := by
  cases k with
  | none => obtain rfl : u = Value.none := r; rfl
  | num i => obtain ⟨t, rfl⟩ := (show ∃ t, u = Value.int i t from r); exact decide_eq_true rfl
  | text x =>
    obtain ⟨t, rfl⟩ := (show ∃ t, u = Value.str x t from r)
    show Value.isStrOf x (.str x t) = true
    simp [Value.isStrOf]
theorem lf_items {P : Program} {w : World} : ∀ {ks : List Leaf} {us : List Value}, Vals (ks.map lfV) us → ItemsAre (leafKind P w) ks us
  | [], _, r => by rw [List.map_nil] at r; cases r; exact .nil
  | k :: ks, _, r => by
    rw [List.map_cons] at r
    cases r with
    | cons h t => exact .cons (lf_is h) (lf_items t)
/-- keys None, numbers, texts -/
def ldO (P : Program) (w : World) (a : Addr) (kvs : List (Leaf × V)) : HO := .ext fun h => kvs.length ≤ sizeLine ∧ (a == sysModules) = false ∧ ∃ vs : List (Leaf × Value), KV kvs vs ∧ h.DictOf (leafKind P w) a vs
abbrev KN : List (List Leaf × Addr × V) → List (List Leaf × Addr × Value) → Prop := Paired fun p q => p.1 = q.1 ∧ p.2.1 = q.2.1 ∧ RelV p.2.2 q.2.2
/-- keys tuples of these: each with the tuple's place -/
def ntO (P : Program) (w : World) (a : Addr) (xs : List (List Leaf × Addr × V)) : HO := .ext fun h => xs.length ≤ sizeLine ∧ (a == sysModules) = false ∧ ∃ vs : List (List Leaf × Addr × Value), KN xs vs ∧
  ∃ o es ep, h.get? a = some o ∧ o.ExactDict ∧ o.data = .dict es ep ∧ es.toList = vs.map (entryOfKey (tupleKind (leafKind P w))) ∧ (vs.map (·.1)).Nodup
/-- the keys' tuples stand -/
def KTup (K : PySem.W.Frag) (H : Hp) (xs : List (List Leaf × Addr × V)) : Prop := ∀ x ∈ xs, SqT K H x.2.1 (x.1.map lfV)
def valN (xs : List (List Leaf × Addr × V)) (k : List Leaf) : Option V := (xs.find? fun x => decide (x.1 = k)).map (·.2.2)
def putNt (xs : List (List Leaf × Addr × V)) (k : List Leaf) (b : Addr) (v : V) : List (List Leaf × Addr × V) := if (valN xs k).isSome then xs.map (fun x => if x.1 = k then (x.1, x.2.1, v) else x) else xs ++ [(k, b, v)]
section
variable {P : Program} {w : World} {H H' : Hp} {h h' : Heap} {a : Addr}
theorem ld_of {kvs : List (Leaf × V)} (ok : HOk P w H h) (e : H a = some (ldO P w a kvs)) : kvs.length ≤ sizeLine ∧ (a == sysModules) = false ∧ ∃ vs : List (Leaf × Value), KV kvs vs ∧ h.DictOf (leafKind P w) a vs :=
  (show ObjOk P w H h a (ldO P w a kvs) from ok a _ e).1
theorem ld_new {kvs : List (Leaf × V)} {vs : List (Leaf × Value)} (z : kvs.length ≤ sizeLine) (hd : (a == sysModules) = false) (rel : KV kvs vs) (dd : h'.DictOf (leafKind P w) a vs) : ObjOk P w H' h' a (ldO P w a kvs) := by
  refine ⟨⟨z, hd, vs, rel, dd⟩, ?_, ?_⟩
  · obtain ⟨o, _, _, e, _⟩ := dd
    exact ⟨o, e⟩
  · rintro h1 h2 ⟨z, y, vs, r, ob, es, ep, e, c⟩ k
    exact ⟨z, y, vs, r, ob, es, ep, k _ e, c⟩
theorem nt_key {X : Cx} {pins : List (Addr × Obj)} {σ : L2.St} {s : Shared} {ks : List Leaf} (I : Inv X pins σ H s) (e : SqT X.K H a (ks.map lfV)) : (tupleKind (leafKind X.prog X.w)).is s.heap ks a := by
  obtain ⟨its, r, o, h1, h2, n, h3⟩ : ∃ its : List Value, Vals (ks.map lfV) its ∧ IsTup s.heap a its.toArray := by
    obtain ⟨its, r, p, _⟩ := I.tuple e
    exact ⟨its, r, p⟩
  exact ⟨o, its.toArray, n, h1, h2, h3, by simpa using lf_items r⟩
theorem KN.mem {xs : List (List Leaf × Addr × V)} {vs : List (List Leaf × Addr × Value)} (r : KN xs vs) : ∀ y ∈ vs, ∃ x ∈ xs, x.1 = y.1 ∧ x.2.1 = y.2.1 := by
  induction r with
  | nil => intro y hy; cases hy
  | @cons p q ps qs h t ih =>
    intro y hy
    rcases List.mem_cons.mp hy with e | e
    · rw [e]; exact ⟨p, List.mem_cons_self, h.1, h.2.1⟩
    · obtain ⟨x, hx, e1⟩ := ih y e
      exact ⟨x, List.mem_cons_of_mem _ hx, e1⟩
theorem nt_of {X : Cx} {pins : List (Addr × Obj)} {σ : L2.St} {s : Shared} {xs : List (List Leaf × Addr × V)} (I : Inv X pins σ H s) (e : H a = some (ntO X.prog X.w a xs)) (kt : KTup X.K H xs) : xs.length ≤ sizeLine ∧ (a == sysModules) = false ∧ ∃ vs, KN xs vs ∧ s.heap.DictOfH (tupleKind (leafKind X.prog X.w)) a vs := by
  obtain ⟨z, y, vs, r, o, es, ep, h1, h2, h3, h4, h5⟩ := (show ObjOk X.prog X.w H s.heap a (ntO X.prog X.w a xs) from I.hok a _ e).1
  refine ⟨z, y, vs, r, o, es, ep, h1, h2, h3, h4, fun x hx => ?_, h5⟩
  obtain ⟨p, hp, e1, e2⟩ := r.mem x hx
  rw [← e1, ← e2]
  exact nt_key I (kt p hp)
theorem nt_new {xs : List (List Leaf × Addr × V)} {vs : List (List Leaf × Addr × Value)} (z : xs.length ≤ sizeLine) (hd : (a == sysModules) = false) (rel : KN xs vs) (dd : h'.DictOfH (tupleKind (leafKind P w)) a vs) : ObjOk P w H' h' a (ntO P w a xs) := by
  obtain ⟨o, es, ep, h1, h2, h3, h4, _, h5⟩ := dd
  refine ⟨⟨z, hd, vs, rel, o, es, ep, h1, h2, h3, h4, h5⟩, ⟨o, h1⟩, ?_⟩
  rintro k1 k2 ⟨z, y, vs, r, ob, es, ep, e, c⟩ k
  exact ⟨z, y, vs, r, ob, es, ep, k _ e, c⟩
theorem KN.val {xs : List (List Leaf × Addr × V)} {vs : List (List Leaf × Addr × Value)} (r : KN xs vs) (k : List Leaf) : RelO (valN xs k) ((atKey vs k).map (·.2)) := by
  induction r with
  | nil => exact True.intro
  | @cons p q ps qs h t ih =>
    obtain ⟨h1, _, h2⟩ := h
    by_cases e : p.1 = k
    · have e' : q.1 = k := h1.symm.trans e
      have b : atKey (q :: qs) k = some q.2 := by simp [atKey, List.find?_cons, e']
      have c : valN (p :: ps) k = some p.2.2 := by simp [valN, List.find?_cons, e]
      rw [b, c]; exact h2
    · have e' : ¬ q.1 = k := fun z => e (h1.trans z)
      have b : atKey (q :: qs) k = atKey qs k := by simp [atKey, List.find?_cons, e']
      have c : valN (p :: ps) k = valN ps k := by simp [valN, List.find?_cons, e]
      rw [b, c]; exact ih
theorem KN.put {xs : List (List Leaf × Addr × V)} {vs : List (List Leaf × Addr × Value)} (r : KN xs vs) (k : List Leaf) {b : Addr} {y : V} {u : Value} (ry : RelV y u) : KN (putNt xs k b y) (storedH vs k b u) := by
  have e : (valN xs k).isSome = (atKey vs k).isSome := by rw [(r.val k).isSome_eq, Option.isSome_map]
  unfold putNt storedH
  rw [e]
  by_cases q : (atKey vs k).isSome = true
  · rw [if_pos q, if_pos q]
    clear q e
    induction r with
    | nil => exact .nil
    | @cons p q ps qs h t ih =>
      rw [List.map_cons, List.map_cons]
      refine .cons ?_ ih
      obtain ⟨h1, h2, h3⟩ := h
      unfold putAt
      by_cases e : p.1 = k
      · rw [if_pos e, if_pos (h1.symm.trans e)]; exact ⟨h1, h2, ry⟩
      · rw [if_neg e, if_neg (fun z => e (h1.trans z))]; exact ⟨h1, h2, h3⟩
  · rw [if_neg q, if_neg q]; exact Paired.snoc r ⟨rfl, rfl, ry⟩
theorem putNt_len (xs : List (List Leaf × Addr × V)) (k : List Leaf) (b : Addr) (v : V) : (putNt xs k b v).length ≤ xs.length + 1 := by
  unfold putNt
  split <;> simp
theorem KTup.put {K : PySem.W.Frag} {xs : List (List Leaf × Addr × V)} {k : List Leaf} {b : Addr} {v : V} (h : KTup K H xs) (hb : SqT K H b (k.map lfV)) : KTup K H (putNt xs k b v) := by
  unfold putNt
  intro x hx
  split at hx
  · obtain ⟨y, hy, rfl⟩ := List.mem_map.mp hx
    have := h y hy
    split <;> exact this
  · rcases List.mem_append.mp hx with z | z
    · exact h x z
    · rw [List.mem_singleton.mp z]; exact hb
end
/-- what the dict at a holds at the key y -/
def NGet (K : PySem.W.Frag) (P : Program) (w : World) (H : Hp) (a : Addr) (y : V) (r : Option V) : Prop :=
  (∃ kvs k, H a = some (ldO P w a kvs) ∧ y = lfV k ∧ r = valV kvs k) ∨ ∃ xs k b, H a = some (ntO P w a xs) ∧ KTup K H xs ∧ y = .ref b ∧ SqT K H b (k.map lfV) ∧ r = valN xs k
/-- the heap behind a[y] = v -/
def NPut (K : PySem.W.Frag) (P : Program) (w : World) (H : Hp) (a : Addr) (y v : V) (H' : Hp) : Prop :=
  (∃ kvs k, H a = some (ldO P w a kvs) ∧ y = lfV k ∧ kvs.length < sizeLine ∧ H' = upd H a (ldO P w a (putK kvs k v))) ∨
  ∃ xs k b, H a = some (ntO P w a xs) ∧ KTup K H xs ∧ y = .ref b ∧ SqT K H b (k.map lfV) ∧ xs.length < sizeLine ∧ H' = upd H a (ntO P w a (putNt xs k b v))
section
variable {X : Cx} {pins : List (Addr × Obj)} {σ : L2.St} {H : Hp} {s : Shared} {a : Addr} {y v : V} {u r : Value} {A : Around} {E : Value → Shared → Prop}
theorem n_getItem {Q : Value → Shared → Prop} (hu : A.units + 1 < cLine) (I : Inv X pins σ H s) (g : NGet X.K X.prog X.w H a y (some v)) (ry : RelV y u) (h : ∀ w' s', Inv X pins σ H s' → RelV v w' → Q w' s') :
    wpAny (model X.prog X.w) A (getItem (.ref a) u) Q E s := by
  rcases g with ⟨kvs, k, e, ey, l⟩ | ⟨xs, k, b, e, kt, ey, eb, l⟩
  · subst ey
    obtain ⟨z, hd, vs, rel, dd⟩ := ld_of I.hok e
    obtain ⟨w', hw, rw'⟩ := RelO.some_of (v := v) (o := valueAt vs k) (by rw [l]; exact rel.val k)
    exact wpAny_getItem_of (lf_is ry) dd.mapOf hw (h w' _ (I.tok _) rw')
  · subst ey
    cases (show u = Value.ref b from ry)
    obtain ⟨z, hd, vs, rel, dd⟩ := nt_of I e kt
    obtain ⟨w', hw, rw'⟩ := RelO.some_of (v := v) (o := (atKey vs k).map (·.2)) (by rw [l]; exact rel.val k)
    obtain ⟨p, hp, hp2⟩ := Option.map_eq_some_iff.mp hw
    refine wpAny_getItem_heap (tupleKind_room_in1 hu) (nt_key I eb) dd hp ?_
    rw [hp2]
    exact h w' _ (I.tok _) rw'
theorem n_setItem {H' : Hp} {Q : Unit → Shared → Prop} (hu : A.units + 1 < cLine) (I : Inv X pins σ H s) (g : NPut X.K X.prog X.w H a y v H') (ry : RelV y u) (rv : RelV v r) (h : ∀ s', Inv X pins σ H' s' → Q () s') :
    wpAny (model X.prog X.w) A (setItem (.ref a) u r) Q E s := by
  rcases g with ⟨kvs, k, e, ey, l, eH⟩ | ⟨xs, k, b, e, kt, ey, eb, l, eH⟩
  · subst ey eH
    obtain ⟨z, hd, vs, rel, dd⟩ := ld_of I.hok e
    have hz : vs.length ≤ sizeLine := by rw [← rel.length]; exact z
    have hl : (putK kvs k v).length ≤ sizeLine := by have := length_putK kvs k v; omega
    refine wpAny_setItem_pairs (hsz := hz) (lf_is ry) dd fun h' dd' hs => h _ ?_
    have he : ∃ q, h'.get? a = some q := let ⟨q, _, _, hq, _⟩ := dd'; ⟨q, hq⟩
    exact d_write I (by rw [e]; exact True.intro) hs he (ld_new hl hd (rel.put k rv) dd')
  · subst ey eH
    cases (show u = Value.ref b from ry)
    obtain ⟨z, hd, vs, rel, dd⟩ := nt_of I e kt
    have hz : vs.length ≤ sizeLine := by rw [← Paired.length rel]; exact z
    have hl : (putNt xs k b v).length ≤ sizeLine := by have := putNt_len xs k b v; omega
    refine wpAny_setItem_heap (hsz := hz) (tupleKind_room_in1 hu) (nt_key I eb) dd fun h' dd' hs => h _ ?_
    have he : ∃ q, h'.get? a = some q := let ⟨q, _, _, hq, _⟩ := dd'; ⟨q, hq⟩
    exact d_write I (by rw [e]; exact True.intro) hs he (nt_new hl hd (rel.put k rv) dd')
theorem n_typeIs {o : Option V} (I : Inv X pins σ H s) (g : NGet X.K X.prog X.w H a y o) : s.TypeIs (.ref a) "dict" := by
  rcases g with ⟨kvs, k, e, _, _⟩ | ⟨xs, k, b, e, kt, _, _, _⟩
  · obtain ⟨_, _, vs, _, dd⟩ := ld_of I.hok e
    exact dd.typeIs
  · obtain ⟨_, _, vs, _, dd⟩ := nt_of I e kt
    exact dd.typeIs
end
def tNGet (K : PySem.W.Frag) (P : Program) (w : World) (td ty : TE) : TE := fun σ H Q => td σ H fun x H1 => ty σ H1 fun y H2 => ∃ a v, x = .ref a ∧ NGet K P w H2 a y (some v) ∧ Q v H2
def sNPut (K : PySem.W.Frag) (P : Program) (w : World) (td ty tv : TE) : TS := fun D σ H => tv σ H fun v H1 => td σ H1 fun x H2 => ty σ H2 fun y H3 => ∃ a H4, x = .ref a ∧ NPut K P w H3 a y v H4 ∧ D.nx σ H4
section
variable {X : Cx} {o i e value : Expr} {pos pos' tpos : Pos} {td ty tv : TE}
theorem pe_nget (hu : X.A.units + 1 < cLine) (ho : PE X o td) (hi : PE X i ty) (hs : NoSl i) : PE X (.Subscript o i pos) (tNGet X.K X.prog X.w td ty) := by
  refine ⟨fun pins s σ H Q I h => ?_⟩
  refine subD_of PySem.F.slot_dict_getitem.lookup hs (thn (ho.run pins s σ H _ I h) fun u s1 ⟨x, H1, I1, rx, q1⟩ => thn (hi.run pins s1 σ H1 _ I1 q1) fun iv s2 ⟨y, H2, I2, ry, a, v, ex, g, q2⟩ => ?_)
  subst ex
  obtain rfl : u = Value.ref a := rx
  exact ⟨n_typeIs I2 g, n_getItem hu I2 g ry fun w' s3 I3 rw' => ⟨v, H2, I3, rw', q2⟩⟩
theorem ps_nput (hu : X.A.units + 1 < cLine) (ho : PE X o td) (hi : PE X i ty) (hv : PE X value tv) (hs : swapsWith value (some (.Subscript o i pos')) pos.line X.env = pure false) :
    PS X (.Assign [.Subscript o i pos'] value pos) (sNPut X.K X.prog X.w td ty tv) := by
  refine ⟨fun pins s σ H D I h => ?_⟩
  refine wpAny_Assign_Subscript (thn (hv.run pins s σ H _ I h) fun r s1 ⟨v, H1, I1, rv, q1⟩ => thn (ho.run pins s1 σ H1 _ I1 q1) fun u s2 ⟨x, H2, I2, rx, q2⟩ => thn (hi.run pins s2 σ H2 _ I2 q2) fun iv s3 ⟨y, H3, I3, ry, a, H4, ex, g, q3⟩ => ?_) hs
  subst ex
  obtain rfl : u = Value.ref a := rx
  exact n_setItem hu I3 g ry rv fun s4 I4 => ⟨σ, H4, I4, q3⟩
/-- {}, to be a dict whose keys are tuples -/
def tNNew (P : Program) (w : World) : TE := fun _ H Q => ∀ p, H p = none → Q (.ref p) (upd H p (ntO P w p []))
theorem pe_nnew : PE X (.Dict [] [] pos) (tNNew X.prog X.w) := ⟨fun pins s σ H Q I h =>
  wpAny_Dict_empty ⟨.ref s.heap.objs.size, _, I.laid (a := s.heap.objs.size) (o := ntO X.prog X.w s.heap.objs.size []) (t' := s.toks) (fun _ _ q => Heap.get?_push_of_some _ q) (Nat.le_refl _) (nt_new (Nat.zero_le _) (beq_eq_false_iff_ne.mpr (Ne.symm (Nat.ne_of_lt I.big))) .nil (Heap.DictOfH.new s.heap)), rfl, h _ (I.hok.fresh (Nat.le_refl _))⟩⟩
theorem ld_empty {P : Program} {w : World} {H : Hp} (h : Heap) (hb : sysModules < h.objs.size) : ObjOk P w H (h.push { cls := .type "dict", data := .dict #[] }) h.objs.size (ldO P w h.objs.size []) :=
  ld_new (Nat.zero_le _) (beq_eq_false_iff_ne.mpr (Ne.symm (Nat.ne_of_lt hb))) .nil (Heap.DictOf.new h)
def mergeL (kvs more : List (Leaf × V)) : List (Leaf × V) := more.foldl (fun acc kv => putK acc kv.1 kv.2) kvs
end
end Fb
namespace Fb
open PySem PySem.Spec PyProof.Rows L2
/-! ### {None: x, ..}: a display whose keys are None, numbers, texts -/
theorem length_mergeL : ∀ (more kvs : List (Leaf × V)), (mergeL kvs more).length ≤ kvs.length + more.length
  | [], kvs => by show kvs.length ≤ kvs.length + 0; omega
  | p :: r, kvs => by
    have h1 := length_mergeL r (putK kvs p.1 p.2)
    have h2 := length_putK kvs p.1 p.2
    show (mergeL (putK kvs p.1 p.2) r).length ≤ _
    rw [List.length_cons]; omega
theorem lf_carries {P : Program} {w : World} : ∀ {kvs : List (Leaf × V)} {ws : List (Value × Value)}, VV (kvs.map fun kv => (lfV kv.1, kv.2)) ws → ∃ rs, Carries (leafKind P w) ws rs ∧ KV kvs rs
  | [], _, r => by rw [List.map_nil] at r; cases r; exact ⟨[], True.intro, .nil⟩
  | p :: kvs, _, r => by
    rw [List.map_cons] at r
    cases r with
    | @cons a b as bs h t =>
      obtain ⟨rs, c, q⟩ := lf_carries (P := P) (w := w) t
      obtain ⟨b1, b2⟩ := b
      exact ⟨(p.1, b2) :: rs, ⟨lf_is h.1, rfl, c⟩, .cons ⟨rfl, h.2⟩ q⟩
theorem KV.mergeL : ∀ {more : List (Leaf × V)} {rs : List (Leaf × Value)} {kvs : List (Leaf × V)} {vs : List (Leaf × Value)}, KV more rs → KV kvs vs → KV (Fb.mergeL kvs more) (merged vs rs) := by
  intro more rs kvs vs r
  unfold KV at r
  induction r generalizing kvs vs with
  | nil => intro q; exact q
  | @cons p q ps qs h t ih =>
    intro r0
    have e : KV (putK kvs p.1 p.2) (stored vs q.1 q.2) := by
      have := r0.put p.1 h.2
      rw [← h.1]; exact this
    exact ih e
def tLDisp (P : Program) (w : World) (trs : List (TE × TE)) : TE := fun σ H Q => ∀ p, H p = none → tPairs trs σ (upd H p (ldO P w p [])) fun ps H2 => H2 p = some (ldO P w p []) ∧ ∃ kvs : List (Leaf × V), ps = kvs.map (fun kv => (lfV kv.1, kv.2)) ∧ kvs.length ≤ 15 ∧ Q (.ref p) (upd H2 p (ldO P w p (mergeL [] kvs)))
theorem pe_ldisp {X : Cx} {pos : Pos} {keys : List (Option Expr)} {values : List Expr} {trs : List (TE × TE)} (h : PPs X pos keys values trs) (hall : keys.all (·.isSome) = true) (hl : keys.length = values.length) (h0 : keys ≠ [])
    (h15 : keys.length ≤ 15) : PE X (.Dict keys values pos) (tLDisp X.prog X.w trs) := by
  refine ⟨fun pins s σ H Q I q => ?_⟩
  have hn := I.hok.fresh (Nat.le_refl s.heap.objs.size)
  have I1 := I.laid (a := s.heap.objs.size) (o := ldO X.prog X.w s.heap.objs.size []) (h' := s.heap.push { cls := .type "dict", data := .dict #[] }) (t' := s.toks) (fun _ _ q => Heap.get?_push_of_some _ q) (Nat.le_refl _) (ld_empty s.heap I.big)
  refine wpAny_Dict_walk (knd := leafKind X.prog X.w) hall hl h0 h15 (thn (h.run pins _ σ _ _ I1 (q _ hn)) fun ws s2 ⟨ps, H2, I2, rel, e, kvs, ep, lk, q2⟩ => ?_)
  subst ep
  obtain ⟨rs, c, rk⟩ := lf_carries (P := X.prog) (w := X.w) rel
  obtain ⟨z, hd, vs0, r0, dd⟩ := ld_of I2.hok e
  cases r0
  refine ⟨rs, c, dd, fun h' dd' hs => ⟨.ref s.heap.objs.size, _, ?_, rfl, q2⟩⟩
  have hz : (mergeL [] kvs).length ≤ sizeLine := by
    have h1 := length_mergeL kvs []
    rw [List.length_nil] at h1
    rw [sizeLine_eq]; omega
  have he : ∃ q, h'.get? s.heap.objs.size = some q := let ⟨q, _, _, hq, _⟩ := dd'; ⟨q, hq⟩
  exact d_write I2 (by rw [e]; exact True.intro) hs he (ld_new hz hd (KV.mergeL rk .nil) dd')
end Fb
set_option Elab.async false
set_option linter.all false
set_option maxRecDepth 100000
set_option maxHeartbeats 2000000
/-! A layer over the rules' readings that speaks of data, not of heaps: what is read and never changed is plain data; what a def changes is its own. -/
namespace VL
open PySem PySem.Spec PyProof.Rows L2
inductive D : Type
  | non | bl (b : Bool) | int (i : Int) | str (s : Str)
  | tup (l : List D) | lst (l : List D) | dct (ks : List Key) (l : List D) | obj (C : Addr) (fs : List Str) (l : List D)
  | ref (a : Addr) | mem (as : List Addr) (l : List D)
  | nd (P : Program) (w : World) (t : Bool) (ks : List (List Leaf)) (l : List D)
/-- how a thing is held: as it is (nobody changes it), or one's own list, dict, instance -/
inductive Sh : Type
  | s | l (e : Sh) | d (f : Key → Sh) | o (f : Str → Sh) | n
abbrev Env := List (Option D)
def Fx : HO → Prop
  | .tup _ => True
  | .frz _ _ => True
  | .xd _ => True
  | _ => False
def ExtT (H H' : Hp) : Prop := ∀ b o, H b = some o → Fx o → H' b = some o
theorem ExtT.refl (H : Hp) : ExtT H H := fun _ _ e _ => e
theorem ExtT.trans {H H1 H2 : Hp} (a : ExtT H H1) (b : ExtT H1 H2) : ExtT H H2 := fun c o e f => b c o (a c o e f) f
theorem ExtT.same {H H' : Hp} (s : Same H H') : ExtT H H' := fun b o e _ => s b o e
theorem ExtT.upd {H : Hp} {a : Addr} {o : HO} (h : ∀ u, H a = some u → ¬ Fx u) : ExtT H (L2.upd H a o) := fun b u e f => by
  rw [upd_ne (show b ≠ a from fun z => h u (by rw [← z]; exact e) f)]
  exact e
theorem same_new {H : Hp} {p : Addr} {o : HO} (h : H p = none) : Same H (L2.upd H p o) := fun b x e => by
  rw [upd_ne (ne_of_none e h)]
  exact e
theorem sqT_ext {K : PySem.W.Frag} {H H' : Hp} {a : Addr} {xs : List V} (e : ExtT H H') (h : SqT K H a xs) : SqT K H' a xs := by
  rcases h with (h | ⟨o, h⟩) | h
  · exact .inl (.inl (e _ _ h True.intro))
  · exact .inl (.inr ⟨o, e _ _ h True.intro⟩)
  · exact .inr h
/-- a list of the module's own -/
def KLs (K : PySem.W.Frag) (a : Addr) (vs : List V) : Prop := ∃ (its : List Value) (n : Nat), K.lookup a = some { cls := .type "list", data := .seq its.toArray n } ∧ its.length ≤ sizeLine ∧ Vals vs its
def LsR (K : PySem.W.Frag) (H : Hp) (a : Addr) (vs : List V) : Prop := Rd H a (.lst vs) ∨ KLs K a vs
/-- a list that is read and that nobody changes -/
def LsS (K : PySem.W.Frag) (ow : Addr → Prop) (H : Hp) (a : Addr) (vs : List V) : Prop := (Rd H a (.lst vs) ∧ ¬ ow a) ∨ KLs K a vs
theorem LsR.sq {K : PySem.W.Frag} {H : Hp} {a : Addr} {vs : List V} (h : LsR K H a vs) : SqL K H a vs := by
  rcases h with h | ⟨its, n, h, z, r⟩
  · exact .inl h
  · exact .inr ⟨_, its.toArray, n, h, rfl, rfl, rfl, by rw [List.size_toArray]; exact z, by simpa using r⟩
theorem LsS.r {K : PySem.W.Frag} {ow : Addr → Prop} {H : Hp} {a : Addr} {vs : List V} (h : LsS K ow H a vs) : LsR K H a vs := by
  rcases h with h | h
  · exact .inl h.1
  · exact .inr h
theorem LsS.sq {K : PySem.W.Frag} {ow : Addr → Prop} {H : Hp} {a : Addr} {vs : List V} (h : LsS K ow H a vs) : SqL K H a vs := h.r.sq
/-- a dict at a whose keys are None, numbers, texts (t false; each key alone in its list) or tuples of these (t true) -/
def NDa (K : PySem.W.Frag) (H : Hp) (P : Program) (w : World) (t : Bool) (a : Addr) (ks : List (List Leaf)) (vs : List V) : Prop :=
  match t with
  | false => ∃ ls : List Leaf, ks = ls.map (fun x => [x]) ∧ H a = some (Fb.ldO P w a (ls.zip vs))
  | true => ∃ bs : List Addr, bs.length = ks.length ∧ H a = some (Fb.ntO P w a (ks.zip (bs.zip vs))) ∧ ∀ p ∈ ks.zip bs, SqT K H p.2 (p.1.map Fb.lfV)
mutual
def RS (K : PySem.W.Frag) (ow : Addr → Prop) (H : Hp) : D → V → Prop
  | .non, v => v = .non
  | .bl b, v => v = .bl b
  | .int i, v => v = .int i
  | .str s, v => v = .str s
  | .tup l, v => ∃ a vs, v = .ref a ∧ SqT K H a vs ∧ RSs K ow H l vs
  | .lst l, v => ∃ a vs, v = .ref a ∧ LsS K ow H a vs ∧ RSs K ow H l vs
  | .dct ks l, v => ∃ a vs, v = .ref a ∧ Rd H a (.dK (ks.zip vs)) ∧ ¬ ow a ∧ ks.length = vs.length ∧ RSs K ow H l vs
  | .obj C fs l, v => ∃ a dx vs, v = .ref a ∧ H a = some (.ins C dx (fs.zip vs)) ∧ ¬ ow a ∧ fs.length = vs.length ∧ RSs K ow H l vs
  | .ref a, v => v = .ref a
  | .mem _ _, _ => False
  | .nd P w t ks l, v => ∃ a vs, v = .ref a ∧ NDa K H P w t a ks vs ∧ ¬ ow a ∧ ks.length = vs.length ∧ RSs K ow H l vs
def RSs (K : PySem.W.Frag) (ow : Addr → Prop) (H : Hp) : List D → List V → Prop
  | [], vs => vs = []
  | d :: ds, vs => ∃ v r, vs = v :: r ∧ RS K ow H d v ∧ RSs K ow H ds r
end
mutual
def RO (K : PySem.W.Frag) (ow : Addr → Prop) (H : Hp) : D → Sh → V → List Addr → Prop
  | d, .s, v, fp => fp = [] ∧ RS K ow H d v
  | .lst l, .l e, v, fp => ∃ a vs fps, v = .ref a ∧ H a = some (.lst vs) ∧ ROs K ow H l (l.map fun _ => e) vs fps ∧ fp = a :: fps
  | .dct ks l, .d f, v, fp => ∃ a vs fps, v = .ref a ∧ H a = some (.dK (ks.zip vs)) ∧ ks.length = vs.length ∧ ROs K ow H l (ks.map f) vs fps ∧ fp = a :: fps
  | .obj C fs l, .o f, v, fp => ∃ a dx vs fps, v = .ref a ∧ H a = some (.ins C dx (fs.zip vs)) ∧ fs.length = vs.length ∧ ROs K ow H l (fs.map f) vs fps ∧ fp = a :: fps
  | .nd P w t ks l, .n, v, fp => ∃ a vs fps, v = .ref a ∧ NDa K H P w t a ks vs ∧ ks.length = vs.length ∧ ROs K ow H l (l.map fun _ => .s) vs fps ∧ fp = a :: fps
  | _, _, _, _ => False
def ROs (K : PySem.W.Frag) (ow : Addr → Prop) (H : Hp) : List D → List Sh → List V → List Addr → Prop
  | [], shs, vs, fp => shs = [] ∧ vs = [] ∧ fp = []
  | d :: ds, shs, vs, fp => ∃ sh shs' v vs' f1 f2, shs = sh :: shs' ∧ vs = v :: vs' ∧ fp = f1 ++ f2 ∧ RO K ow H d sh v f1 ∧ ROs K ow H ds shs' vs' f2
end
section
variable {K : PySem.W.Frag} {ow ow' : Addr → Prop} {H H' : Hp}
theorem RO_s {d : D} {v : V} {fp : List Addr} : RO K ow H d .s v fp ↔ fp = [] ∧ RS K ow H d v := by
  cases d <;> simp only [RO]
/-! ### lists of data -/
theorem RSs.len : ∀ {ds : List D} {vs : List V}, RSs K ow H ds vs → vs.length = ds.length
  | [], _, h => by simp only [RSs] at h; rw [h]; rfl
  | d :: ds, _, h => by
    simp only [RSs] at h
    obtain ⟨v, r, rfl, _, h⟩ := h
    rw [List.length_cons, List.length_cons, RSs.len h]
theorem RSs.nil : RSs K ow H [] [] := by simp only [RSs]
theorem RSs.cons {d : D} {v : V} {ds : List D} {vs : List V} (h : RS K ow H d v) (t : RSs K ow H ds vs) : RSs K ow H (d :: ds) (v :: vs) := by
  simp only [RSs]
  exact ⟨v, vs, rfl, h, t⟩
theorem RSs.uncons {d : D} {v : V} {ds : List D} {vs : List V} (h : RSs K ow H (d :: ds) (v :: vs)) : RS K ow H d v ∧ RSs K ow H ds vs := by
  simp only [RSs] at h
  obtain ⟨v', r, e, h1, h2⟩ := h
  cases e
  exact ⟨h1, h2⟩
theorem RSs.app {es : List D} {ws : List V} (h2 : RSs K ow H es ws) : ∀ {ds : List D} {vs : List V}, RSs K ow H ds vs → RSs K ow H (ds ++ es) (vs ++ ws)
  | [], _, h => by simp only [RSs] at h; rw [h]; exact h2
  | d :: ds, _, h => by
    simp only [RSs] at h
    obtain ⟨v, r, rfl, h, t⟩ := h
    exact .cons h (RSs.app h2 t)
theorem RSs.take : ∀ {ds : List D} {vs : List V} (n : Nat), RSs K ow H ds vs → RSs K ow H (ds.take n) (vs.take n)
  | _, _, 0, _ => by rw [List.take_zero, List.take_zero]; exact .nil
  | [], _, n + 1, h => by simp only [RSs] at h; rw [h]; exact .nil
  | d :: ds, _, n + 1, h => by
    simp only [RSs] at h
    obtain ⟨v, r, rfl, h, t⟩ := h
    exact .cons h (RSs.take n t)
theorem RSs.drop : ∀ {ds : List D} {vs : List V} (n : Nat), RSs K ow H ds vs → RSs K ow H (ds.drop n) (vs.drop n)
  | _, _, 0, h => h
  | [], _, n + 1, h => by simp only [RSs] at h; rw [h]; exact .nil
  | d :: ds, _, n + 1, h => by
    simp only [RSs] at h
    obtain ⟨v, r, rfl, h, t⟩ := h
    exact RSs.drop n t
theorem RSs.get : ∀ {ds : List D} {vs : List V} {i : Nat} {d : D}, RSs K ow H ds vs → ds[i]? = some d → ∃ v, vs[i]? = some v ∧ RS K ow H d v
  | [], _, i, d, _, e => by simp at e
  | d0 :: ds, _, 0, d, h, e => by
    simp only [RSs] at h
    obtain ⟨v, r, rfl, h, t⟩ := h
    simp only [List.getElem?_cons_zero, Option.some.injEq] at e
    subst e
    exact ⟨v, rfl, h⟩
  | d0 :: ds, _, i + 1, d, h, e => by
    simp only [RSs] at h
    obtain ⟨v, r, rfl, h, t⟩ := h
    simp only [List.getElem?_cons_succ] at e
    obtain ⟨u, h1, h2⟩ := RSs.get t e
    exact ⟨u, by simpa using h1, h2⟩
theorem RSs.getV {ds : List D} {vs : List V} {i : Nat} {v : V} (h : RSs K ow H ds vs) (e : vs[i]? = some v) : ∃ d, ds[i]? = some d ∧ RS K ow H d v := by
  have hl := h.len
  have hi : i < ds.length := by
    have := (List.getElem?_eq_some_iff.mp e).1
    omega
  obtain ⟨u, h1, h2⟩ := h.get (List.getElem?_eq_getElem hi)
  rw [e] at h1
  cases h1
  exact ⟨_, List.getElem?_eq_getElem hi, h2⟩
theorem RSs.set : ∀ {ds : List D} {vs : List V} {d : D} {v : V} (i : Nat), RSs K ow H ds vs → RS K ow H d v → RSs K ow H (ds.set i d) (vs.set i v)
  | [], _, _, _, _, h, _ => by simp only [RSs] at h; rw [h]; exact .nil
  | d0 :: ds, _, _, _, 0, h, r => by
    simp only [RSs] at h
    obtain ⟨v, r', rfl, h, t⟩ := h
    exact .cons r t
  | d0 :: ds, _, _, _, i + 1, h, r => by
    simp only [RSs] at h
    obtain ⟨v, r', rfl, h, t⟩ := h
    exact .cons h (RSs.set i t r)
/-! ### what stays -/
structure Fr (ow : Addr → Prop) (H H' : Hp) : Prop where
  kp : ∀ b o, H b = some o → ¬ ow b → H' b = some o
  tp : ExtT H H'
theorem Fr.rd {a : Addr} {u : HO} (F : Fr ow H H') (h : Rd H a u) (n : ¬ ow a) : Rd H' a u := by
  rcases h with h | ⟨o, h⟩
  · exact .inl (F.kp _ _ h n)
  · exact .inr ⟨o, F.kp _ _ h n⟩
theorem Rd.some {a : Addr} {u : HO} (h : Rd H a u) : H a ≠ none := by
  rcases h with h | ⟨o, h⟩ <;> (rw [h]; simp)
theorem NDa.ex {P : Program} {w : World} {t : Bool} {a : Addr} {ks : List (List Leaf)} {vs : List V} (h : NDa K H P w t a ks vs) : ∃ o, H a = some o := by
  cases t with
  | false => obtain ⟨_, _, e⟩ := h; exact ⟨_, e⟩
  | true => obtain ⟨_, _, e, _⟩ := h; exact ⟨_, e⟩
theorem NDa.fx {P : Program} {w : World} {t : Bool} {a : Addr} {ks : List (List Leaf)} {vs : List V} (h : NDa K H P w t a ks vs) : ∃ o, H a = some o ∧ ¬ Fx o := by
  cases t with
  | false => obtain ⟨_, _, e⟩ := h; exact ⟨_, e, id⟩
  | true => obtain ⟨_, _, e, _⟩ := h; exact ⟨_, e, id⟩
theorem NDa.keep {P : Program} {w : World} {t : Bool} {a : Addr} {ks : List (List Leaf)} {vs : List V} (h : NDa K H P w t a ks vs) (k : ∀ o, H a = some o → H' a = some o) (hT : ExtT H H') : NDa K H' P w t a ks vs := by
  cases t with
  | false => obtain ⟨ls, e1, e⟩ := h; exact ⟨ls, e1, k _ e⟩
  | true => obtain ⟨bs, e1, e, q⟩ := h; exact ⟨bs, e1, k _ e, fun p hp => sqT_ext hT (q p hp)⟩
mutual
theorem RS.fr (F : Fr ow H H') (how : ∀ a, ow' a → ow a ∨ H a = none) : ∀ (d : D) (v : V), RS K ow H d v → RS K ow' H' d v
  | .non, _, h => by simp only [RS] at h ⊢; exact h
  | .bl b, _, h => by simp only [RS] at h ⊢; exact h
  | .int i, _, h => by simp only [RS] at h ⊢; exact h
  | .str s, _, h => by simp only [RS] at h ⊢; exact h
  | .tup l, _, h => by
    simp only [RS] at h ⊢
    obtain ⟨a, vs, e, q, t⟩ := h
    exact ⟨a, vs, e, sqT_ext F.tp q, RSs.fr F how l vs t⟩
  | .lst l, _, h => by
    simp only [RS] at h ⊢
    obtain ⟨a, vs, e, q, t⟩ := h
    refine ⟨a, vs, e, ?_, RSs.fr F how l vs t⟩
    rcases q with ⟨q, n⟩ | q
    · exact .inl ⟨F.rd q n, fun z => (how a z).elim n (Rd.some q)⟩
    · exact .inr q
  | .dct ks l, _, h => by
    simp only [RS] at h ⊢
    obtain ⟨a, vs, e, q, n, k, t⟩ := h
    exact ⟨a, vs, e, F.rd q n, fun z => (how a z).elim n (Rd.some q), k, RSs.fr F how l vs t⟩
  | .obj C fs l, _, h => by
    simp only [RS] at h ⊢
    obtain ⟨a, dx, vs, e, q, n, k, t⟩ := h
    exact ⟨a, dx, vs, e, F.kp _ _ q n, fun z => (how a z).elim n (by rw [q]; simp), k, RSs.fr F how l vs t⟩
  | .ref a, _, h => by simp only [RS] at h ⊢; exact h
  | .mem _ _, _, h => by simp only [RS] at h
  | .nd P w t ks l, _, h => by
    simp only [RS] at h ⊢
    obtain ⟨a, vs, e, q, n, k, r⟩ := h
    obtain ⟨o, qo⟩ := q.ex
    exact ⟨a, vs, e, q.keep (fun o' z => F.kp _ _ z n) F.tp, fun z => (how a z).elim n (by rw [qo]; simp), k, RSs.fr F how l vs r⟩
theorem RSs.fr (F : Fr ow H H') (how : ∀ a, ow' a → ow a ∨ H a = none) : ∀ (ds : List D) (vs : List V), RSs K ow H ds vs → RSs K ow' H' ds vs
  | [], _, h => by simp only [RSs] at h ⊢; exact h
  | d :: ds, _, h => by
    simp only [RSs] at h
    obtain ⟨v, r, rfl, h, t⟩ := h
    exact .cons (RS.fr F how d v h) (RSs.fr F how ds r t)
end
theorem Fr.refl (ow : Addr → Prop) (H : Hp) : Fr ow H H := ⟨fun _ _ e _ => e, ExtT.refl H⟩
theorem Fr.same (s : Same H H') : Fr ow H H' := ⟨fun b o e _ => s b o e, ExtT.same s⟩
/-- fewer are avoided -/
theorem RS.less {d : D} {v : V} (h : RS K ow H d v) (how : ∀ a, ow' a → ow a) : RS K ow' H d v := RS.fr (Fr.refl _ _) (fun a z => .inl (how a z)) d v h
theorem RSs.less {ds : List D} {vs : List V} (h : RSs K ow H ds vs) (how : ∀ a, ow' a → ow a) : RSs K ow' H ds vs := RSs.fr (Fr.refl _ _) (fun a z => .inl (how a z)) ds vs h
mutual
theorem RO.fr (hk : ∀ b o, H b = some o → ¬ ow b → H' b = some o) (hT : ExtT H H') (how : ∀ a, ow' a → ow a ∨ H a = none) : ∀ (d : D) (sh : Sh) (v : V) (fp : List Addr), RO K ow H d sh v fp → (∀ b ∈ fp, ∀ o, H b = some o → H' b = some o) → RO K ow' H' d sh v fp
  | d, .s, v, fp, h, _ => by
    rw [RO_s] at h ⊢
    exact ⟨h.1, RS.fr ⟨hk, hT⟩ how d v h.2⟩
  | .lst l, .l e, v, fp, h, k => by
    simp only [RO] at h ⊢
    obtain ⟨a, vs, fps, rfl, q, t, rfl⟩ := h
    exact ⟨a, vs, fps, rfl, k a List.mem_cons_self _ q, ROs.fr hk hT how l _ vs fps t (fun b z => k b (List.mem_cons_of_mem _ z)), rfl⟩
  | .dct ks l, .d f, v, fp, h, k => by
    simp only [RO] at h ⊢
    obtain ⟨a, vs, fps, rfl, q, n, t, rfl⟩ := h
    exact ⟨a, vs, fps, rfl, k a List.mem_cons_self _ q, n, ROs.fr hk hT how l _ vs fps t (fun b z => k b (List.mem_cons_of_mem _ z)), rfl⟩
  | .obj C fs l, .o f, v, fp, h, k => by
    simp only [RO] at h ⊢
    obtain ⟨a, dx, vs, fps, rfl, q, n, t, rfl⟩ := h
    exact ⟨a, dx, vs, fps, rfl, k a List.mem_cons_self _ q, n, ROs.fr hk hT how l _ vs fps t (fun b z => k b (List.mem_cons_of_mem _ z)), rfl⟩
  | .nd P w t ks l, .n, v, fp, h, k => by
    simp only [RO] at h ⊢
    obtain ⟨a, vs, fps, rfl, q, n, t, rfl⟩ := h
    exact ⟨a, vs, fps, rfl, q.keep (fun o' z => k a List.mem_cons_self _ z) hT, n, ROs.fr hk hT how l _ vs fps t (fun b z => k b (List.mem_cons_of_mem _ z)), rfl⟩
  | .non, .n, _, _, h, _ | .bl _, .n, _, _, h, _ | .int _, .n, _, _, h, _ | .str _, .n, _, _, h, _ | .tup _, .n, _, _, h, _ | .lst _, .n, _, _, h, _ | .dct _ _, .n, _, _, h, _ | .obj _ _ _, .n, _, _, h, _ | .ref _, .n, _, _, h, _ | .mem _ _, .n, _, _, h, _ => by simp only [RO] at h
  | .nd _ _ _ _ _, .l _, _, _, h, _ | .non, .l _, _, _, h, _ | .bl _, .l _, _, _, h, _ | .int _, .l _, _, _, h, _ | .str _, .l _, _, _, h, _ | .tup _, .l _, _, _, h, _ | .dct _ _, .l _, _, _, h, _ | .obj _ _ _, .l _, _, _, h, _ | .ref _, .l _, _, _, h, _ | .mem _ _, .l _, _, _, h, _ => by simp only [RO] at h
  | .non, .d _, _, _, h, _ | .bl _, .d _, _, _, h, _ | .int _, .d _, _, _, h, _ | .str _, .d _, _, _, h, _ | .tup _, .d _, _, _, h, _ | .lst _, .d _, _, _, h, _ | .obj _ _ _, .d _, _, _, h, _ | .ref _, .d _, _, _, h, _ | .nd _ _ _ _ _, .d _, _, _, h, _ | .mem _ _, .d _, _, _, h, _ => by simp only [RO] at h
  | .non, .o _, _, _, h, _ | .bl _, .o _, _, _, h, _ | .int _, .o _, _, _, h, _ | .str _, .o _, _, _, h, _ | .tup _, .o _, _, _, h, _ | .lst _, .o _, _, _, h, _ | .dct _ _, .o _, _, _, h, _ | .ref _, .o _, _, _, h, _ | .nd _ _ _ _ _, .o _, _, _, h, _ | .mem _ _, .o _, _, _, h, _ => by simp only [RO] at h
theorem ROs.fr (hk : ∀ b o, H b = some o → ¬ ow b → H' b = some o) (hT : ExtT H H') (how : ∀ a, ow' a → ow a ∨ H a = none) : ∀ (ds : List D) (shs : List Sh) (vs : List V) (fp : List Addr), ROs K ow H ds shs vs fp → (∀ b ∈ fp, ∀ o, H b = some o → H' b = some o) → ROs K ow' H' ds shs vs fp
  | [], _, _, _, h, _ => by simp only [ROs] at h ⊢; exact h
  | d :: ds, _, _, _, h, k => by
    simp only [ROs] at h ⊢
    obtain ⟨sh, shs', v, vs', f1, f2, e1, e2, e3, h1, h2⟩ := h
    subst e3
    exact ⟨sh, shs', v, vs', f1, f2, e1, e2, rfl, RO.fr hk hT how d sh v f1 h1 (fun b z => k b (List.mem_append_left _ z)), ROs.fr hk hT how ds shs' vs' f2 h2 (fun b z => k b (List.mem_append_right _ z))⟩
end
/-! what is one's own stands, and is no tuple -/
mutual
theorem RO.at : ∀ (d : D) (sh : Sh) (v : V) (fp : List Addr), RO K ow H d sh v fp → ∀ a ∈ fp, ∃ o, H a = some o ∧ ¬ Fx o
  | d, .s, v, fp, h => by
    rw [RO_s] at h
    rw [h.1]
    intro a z
    cases z
  | .lst l, .l e, v, fp, h => by
    simp only [RO] at h
    obtain ⟨a, vs, fps, rfl, q, t, rfl⟩ := h
    intro b z
    rcases List.mem_cons.mp z with e | e
    · rw [e]; exact ⟨_, q, id⟩
    · exact ROs.at l _ vs fps t b e
  | .dct ks l, .d f, v, fp, h => by
    simp only [RO] at h
    obtain ⟨a, vs, fps, rfl, q, n, t, rfl⟩ := h
    intro b z
    rcases List.mem_cons.mp z with e | e
    · rw [e]; exact ⟨_, q, id⟩
    · exact ROs.at l _ vs fps t b e
  | .obj C fs l, .o f, v, fp, h => by
    simp only [RO] at h
    obtain ⟨a, dx, vs, fps, rfl, q, n, t, rfl⟩ := h
    intro b z
    rcases List.mem_cons.mp z with e | e
    · rw [e]; exact ⟨_, q, id⟩
    · exact ROs.at l _ vs fps t b e
  | .nd P w t ks l, .n, v, fp, h => by
    simp only [RO] at h
    obtain ⟨a, vs, fps, rfl, q, n, t, rfl⟩ := h
    intro b z
    rcases List.mem_cons.mp z with e | e
    · rw [e]; exact q.fx
    · exact ROs.at l _ vs fps t b e
  | .non, .n, _, _, h | .bl _, .n, _, _, h | .int _, .n, _, _, h | .str _, .n, _, _, h | .tup _, .n, _, _, h | .lst _, .n, _, _, h | .dct _ _, .n, _, _, h | .obj _ _ _, .n, _, _, h | .ref _, .n, _, _, h | .mem _ _, .n, _, _, h => by simp only [RO] at h
  | .nd _ _ _ _ _, .l _, _, _, h | .non, .l _, _, _, h | .bl _, .l _, _, _, h | .int _, .l _, _, _, h | .str _, .l _, _, _, h | .tup _, .l _, _, _, h | .dct _ _, .l _, _, _, h | .obj _ _ _, .l _, _, _, h | .ref _, .l _, _, _, h | .mem _ _, .l _, _, _, h => by simp only [RO] at h
  | .non, .d _, _, _, h | .bl _, .d _, _, _, h | .int _, .d _, _, _, h | .str _, .d _, _, _, h | .tup _, .d _, _, _, h | .lst _, .d _, _, _, h | .obj _ _ _, .d _, _, _, h | .ref _, .d _, _, _, h | .nd _ _ _ _ _, .d _, _, _, h | .mem _ _, .d _, _, _, h => by simp only [RO] at h
  | .non, .o _, _, _, h | .bl _, .o _, _, _, h | .int _, .o _, _, _, h | .str _, .o _, _, _, h | .tup _, .o _, _, _, h | .lst _, .o _, _, _, h | .dct _ _, .o _, _, _, h | .ref _, .o _, _, _, h | .nd _ _ _ _ _, .o _, _, _, h | .mem _ _, .o _, _, _, h => by simp only [RO] at h
theorem ROs.at : ∀ (ds : List D) (shs : List Sh) (vs : List V) (fp : List Addr), ROs K ow H ds shs vs fp → ∀ a ∈ fp, ∃ o, H a = some o ∧ ¬ Fx o
  | [], _, _, _, h => by
    simp only [ROs] at h
    rw [h.2.2]
    intro a z
    cases z
  | d :: ds, _, _, _, h => by
    simp only [ROs] at h
    obtain ⟨sh, shs', v, vs', f1, f2, e1, e2, e3, h1, h2⟩ := h
    subst e3
    intro a z
    rcases List.mem_append.mp z with e | e
    · exact RO.at d sh v f1 h1 a e
    · exact ROs.at ds shs' vs' f2 h2 a e
end
/-! one's own let go: from now on nobody changes it -/
mutual
theorem RO.let : ∀ (d : D) (sh : Sh) (v : V) (fp : List Addr), RO K ow H d sh v fp → (∀ a, ow' a → ow a ∧ a ∉ fp) → RS K ow' H d v
  | d, .s, v, fp, h, k => by
    rw [RO_s] at h
    exact h.2.less fun a z => (k a z).1
  | .lst l, .l e, v, fp, h, k => by
    simp only [RO] at h
    obtain ⟨a, vs, fps, rfl, q, t, rfl⟩ := h
    simp only [RS]
    exact ⟨a, vs, rfl, .inl ⟨.inl q, fun z => (k a z).2 List.mem_cons_self⟩, ROs.let l _ vs fps t fun b z => ⟨(k b z).1, fun y => (k b z).2 (List.mem_cons_of_mem _ y)⟩⟩
  | .dct ks l, .d f, v, fp, h, k => by
    simp only [RO] at h
    obtain ⟨a, vs, fps, rfl, q, n, t, rfl⟩ := h
    simp only [RS]
    exact ⟨a, vs, rfl, .inl q, fun z => (k a z).2 List.mem_cons_self, n, ROs.let l _ vs fps t fun b z => ⟨(k b z).1, fun y => (k b z).2 (List.mem_cons_of_mem _ y)⟩⟩
  | .obj C fs l, .o f, v, fp, h, k => by
    simp only [RO] at h
    obtain ⟨a, dx, vs, fps, rfl, q, n, t, rfl⟩ := h
    simp only [RS]
    exact ⟨a, dx, vs, rfl, q, fun z => (k a z).2 List.mem_cons_self, n, ROs.let l _ vs fps t fun b z => ⟨(k b z).1, fun y => (k b z).2 (List.mem_cons_of_mem _ y)⟩⟩
  | .nd P w t ks l, .n, v, fp, h, k => by
    simp only [RO] at h
    obtain ⟨a, vs, fps, rfl, q, n, t, rfl⟩ := h
    simp only [RS]
    exact ⟨a, vs, rfl, q, fun z => (k a z).2 List.mem_cons_self, n, ROs.let l _ vs fps t fun b z => ⟨(k b z).1, fun y => (k b z).2 (List.mem_cons_of_mem _ y)⟩⟩
  | .non, .n, _, _, h, _ | .bl _, .n, _, _, h, _ | .int _, .n, _, _, h, _ | .str _, .n, _, _, h, _ | .tup _, .n, _, _, h, _ | .lst _, .n, _, _, h, _ | .dct _ _, .n, _, _, h, _ | .obj _ _ _, .n, _, _, h, _ | .ref _, .n, _, _, h, _ | .mem _ _, .n, _, _, h, _ => by simp only [RO] at h
  | .nd _ _ _ _ _, .l _, _, _, h, _ | .non, .l _, _, _, h, _ | .bl _, .l _, _, _, h, _ | .int _, .l _, _, _, h, _ | .str _, .l _, _, _, h, _ | .tup _, .l _, _, _, h, _ | .dct _ _, .l _, _, _, h, _ | .obj _ _ _, .l _, _, _, h, _ | .ref _, .l _, _, _, h, _ | .mem _ _, .l _, _, _, h, _ => by simp only [RO] at h
  | .non, .d _, _, _, h, _ | .bl _, .d _, _, _, h, _ | .int _, .d _, _, _, h, _ | .str _, .d _, _, _, h, _ | .tup _, .d _, _, _, h, _ | .lst _, .d _, _, _, h, _ | .obj _ _ _, .d _, _, _, h, _ | .ref _, .d _, _, _, h, _ | .nd _ _ _ _ _, .d _, _, _, h, _ | .mem _ _, .d _, _, _, h, _ => by simp only [RO] at h
  | .non, .o _, _, _, h, _ | .bl _, .o _, _, _, h, _ | .int _, .o _, _, _, h, _ | .str _, .o _, _, _, h, _ | .tup _, .o _, _, _, h, _ | .lst _, .o _, _, _, h, _ | .dct _ _, .o _, _, _, h, _ | .ref _, .o _, _, _, h, _ | .nd _ _ _ _ _, .o _, _, _, h, _ | .mem _ _, .o _, _, _, h, _ => by simp only [RO] at h
theorem ROs.let : ∀ (ds : List D) (shs : List Sh) (vs : List V) (fp : List Addr), ROs K ow H ds shs vs fp → (∀ a, ow' a → ow a ∧ a ∉ fp) → RSs K ow' H ds vs
  | [], _, _, _, h, _ => by
    simp only [ROs] at h
    rw [h.2.1]
    exact .nil
  | d :: ds, _, _, _, h, k => by
    simp only [ROs] at h
    obtain ⟨sh, shs', v, vs', f1, f2, e1, e2, e3, h1, h2⟩ := h
    subst e2 e3
    exact .cons (RO.let d sh v f1 h1 fun b z => ⟨(k b z).1, fun y => (k b z).2 (List.mem_append_left _ y)⟩) (ROs.let ds shs' vs' f2 h2 fun b z => ⟨(k b z).1, fun y => (k b z).2 (List.mem_append_right _ y)⟩)
end
end
end VL
set_option Elab.async false
set_option linter.all false
set_option maxRecDepth 100000
set_option maxHeartbeats 2000000
namespace VL
open PySem PySem.Spec PyProof.Rows L2
/-! ### where a def stands: what it holds in hand, its names, the heap -/
abbrev Tm := Sh × V × D
structure Vc where
  K : PySem.W.Frag
  H0 : Hp
  io : Addr → Prop
  av : Addr → Prop
  M : List Sh
  rt : List (Nat × V)
section
variable (K : PySem.W.Frag) (ow : Addr → Prop) (H : Hp)
def RT : List Tm → List Addr → Prop
  | [], fp => fp = []
  | t :: T, fp => ∃ f1 f2, fp = f1 ++ f2 ∧ RO K ow H t.2.2 t.1 t.2.1 f1 ∧ RT T f2
def Slot (sh : Sh) (x : Option V) (y : Option D) (fp : List Addr) : Prop :=
  match y with
  | none => fp = []
  | some d => ∃ v, x = some v ∧ RO K ow H d sh v fp
def RV : List Sh → L2.St → Env → List Addr → Prop
  | [], σ, e, fp => σ = [] ∧ e = [] ∧ fp = []
  | sh :: M, σ, e, fp => ∃ x σ' y e' f1 f2, σ = x :: σ' ∧ e = y :: e' ∧ fp = f1 ++ f2 ∧ Slot K ow H sh x y f1 ∧ RV M σ' e' f2
/-- the things that several hold: a place behind the names -/
def cellSh : D → Sh
  | .lst _ => .l .s
  | .dct _ _ => .d fun _ => .s
  | .obj _ _ _ => .o fun _ => .s
  | .nd _ _ _ _ _ => .n
  | _ => .s
def RM : List Addr → List D → Prop
  | [], [] => True
  | a :: as, d :: l => RO K ow H d (cellSh d) (.ref a) [a] ∧ RM as l
  | _, _ => False
def Tail (e : Env) (fp : List Addr) : Prop :=
  match e with
  | [] => fp = []
  | [none] => fp = []
  | [some (.mem as l)] => fp = as ∧ RM K ow H as l
  | _ => False
def RVT (M : List Sh) (σ : L2.St) (e : Env) (fp : List Addr) : Prop := ∃ e0 tl f0 ft, e = e0 ++ tl ∧ fp = f0 ++ ft ∧ RV K ow H M σ e0 f0 ∧ Tail K ow H tl ft
end
section
variable {K : PySem.W.Frag} {ow ow' : Addr → Prop} {H H' : Hp}
theorem RT.fr (hk : ∀ b o, H b = some o → ¬ ow b → H' b = some o) (hT : ExtT H H') (how : ∀ a, ow' a → ow a ∨ H a = none) : ∀ {T : List Tm} {fp : List Addr}, RT K ow H T fp → (∀ b ∈ fp, ∀ o, H b = some o → H' b = some o) → RT K ow' H' T fp
  | [], _, h, _ => h
  | t :: T, _, ⟨f1, f2, e, h1, h2⟩, k => by
    subst e
    exact ⟨f1, f2, rfl, RO.fr hk hT how _ _ _ _ h1 (fun b z => k b (List.mem_append_left _ z)), RT.fr hk hT how h2 (fun b z => k b (List.mem_append_right _ z))⟩
theorem Slot.fr (hk : ∀ b o, H b = some o → ¬ ow b → H' b = some o) (hT : ExtT H H') (how : ∀ a, ow' a → ow a ∨ H a = none) {sh : Sh} {x : Option V} {y : Option D} {fp : List Addr} (h : Slot K ow H sh x y fp) (k : ∀ b ∈ fp, ∀ o, H b = some o → H' b = some o) : Slot K ow' H' sh x y fp := by
  cases y with
  | none => exact h
  | some d =>
    obtain ⟨v, e, r⟩ := h
    exact ⟨v, e, RO.fr hk hT how _ _ _ _ r k⟩
theorem RV.fr (hk : ∀ b o, H b = some o → ¬ ow b → H' b = some o) (hT : ExtT H H') (how : ∀ a, ow' a → ow a ∨ H a = none) : ∀ {M : List Sh} {σ : L2.St} {e : Env} {fp : List Addr}, RV K ow H M σ e fp → (∀ b ∈ fp, ∀ o, H b = some o → H' b = some o) → RV K ow' H' M σ e fp
  | [], _, _, _, h, _ => h
  | sh :: M, _, _, _, ⟨x, σ', y, e', f1, f2, e1, e2, e3, h1, h2⟩, k => by
    subst e3
    exact ⟨x, σ', y, e', f1, f2, e1, e2, rfl, h1.fr hk hT how (fun b z => k b (List.mem_append_left _ z)), RV.fr hk hT how h2 (fun b z => k b (List.mem_append_right _ z))⟩
theorem RT.at : ∀ {T : List Tm} {fp : List Addr}, RT K ow H T fp → ∀ a ∈ fp, ∃ o, H a = some o ∧ ¬ Fx o
  | [], _, h, a, z => by
    have h : _ = [] := h
    rw [h] at z
    cases z
  | t :: T, _, ⟨f1, f2, e, h1, h2⟩, a, z => by
    subst e
    rcases List.mem_append.mp z with q | q
    · exact RO.at _ _ _ _ h1 a q
    · exact RT.at h2 a q
theorem Slot.at {sh : Sh} {x : Option V} {y : Option D} {fp : List Addr} (h : Slot K ow H sh x y fp) : ∀ a ∈ fp, ∃ o, H a = some o ∧ ¬ Fx o := by
  cases y with
  | none =>
    have h : fp = [] := h
    rw [h]
    intro a z
    cases z
  | some d =>
    obtain ⟨v, e, r⟩ := h
    exact RO.at _ _ _ _ r
theorem RV.at : ∀ {M : List Sh} {σ : L2.St} {e : Env} {fp : List Addr}, RV K ow H M σ e fp → ∀ a ∈ fp, ∃ o, H a = some o ∧ ¬ Fx o
  | [], _, _, _, h, a, z => by
    rw [h.2.2] at z
    cases z
  | sh :: M, _, _, _, ⟨x, σ', y, e', f1, f2, e1, e2, e3, h1, h2⟩, a, z => by
    subst e3
    rcases List.mem_append.mp z with q | q
    · exact h1.at a q
    · exact RV.at h2 a q
/-- one name among the others -/
theorem RV.split : ∀ {M : List Sh} {σ : L2.St} {e : Env} {fV : List Addr} {i : Nat} {sh : Sh}, RV K ow H M σ e fV → M[i]? = some sh →
    ∃ f1 fp f2 x y, σ[i]? = some x ∧ e[i]? = some y ∧ fV = f1 ++ (fp ++ f2) ∧ Slot K ow H sh x y fp ∧
      ∀ {H' : Hp} {ow' : Addr → Prop} {x' : Option V} {y' : Option D} {fp' : List Addr}, (∀ b o, H b = some o → ¬ ow b → H' b = some o) → ExtT H H' → (∀ a, ow' a → ow a ∨ H a = none) → (∀ b ∈ f1 ++ f2, ∀ o, H b = some o → H' b = some o) → Slot K ow' H' sh x' y' fp' →
        RV K ow' H' M (σ.set i x') (e.set i y') (f1 ++ (fp' ++ f2))
  | [], _, _, _, i, _, _, hM => by simp at hM
  | sh0 :: M, _, _, _, 0, sh, ⟨x, σ', y, e', f1, f2, e1, e2, e3, h1, h2⟩, hM => by
    subst e1 e2 e3
    simp only [List.getElem?_cons_zero, Option.some.injEq] at hM
    subst hM
    refine ⟨[], f1, f2, x, y, rfl, rfl, rfl, h1, fun {H' ow' x' y' fp'} hk hT how k s => ?_⟩
    exact ⟨x', σ', y', e', fp', f2, rfl, rfl, rfl, s, RV.fr hk hT how h2 (fun b z => k b z)⟩
  | sh0 :: M, _, _, _, i + 1, sh, ⟨x, σ', y, e', f1, f2, e1, e2, e3, h1, h2⟩, hM => by
    subst e1 e2 e3
    simp only [List.getElem?_cons_succ] at hM
    obtain ⟨g1, fp, g2, x2, y2, a1, a2, a3, a4, a5⟩ := RV.split h2 hM
    subst a3
    refine ⟨f1 ++ g1, fp, g2, x2, y2, by simpa using a1, by simpa using a2, by simp, a4, fun {H' ow' x' y' fp'} hk hT how k s => ?_⟩
    refine ⟨x, σ'.set i x', y, e'.set i y', f1, g1 ++ (fp' ++ g2), rfl, rfl, by simp, h1.fr hk hT how (fun b z => k b (by simp [z])), ?_⟩
    exact a5 hk hT how (fun b z => k b (by
      rcases List.mem_append.mp z with q | q
      · simp [q]
      · simp [q])) s
theorem RM.fr (hk : ∀ b o, H b = some o → ¬ ow b → H' b = some o) (hT : ExtT H H') (how : ∀ a, ow' a → ow a ∨ H a = none) : ∀ {as : List Addr} {l : List D}, RM K ow H as l → (∀ b ∈ as, ∀ o, H b = some o → H' b = some o) → RM K ow' H' as l
  | [], [], h, _ => h
  | a :: as, d :: l, ⟨h, t⟩, k => ⟨RO.fr hk hT how _ _ _ _ h (fun b z => k b (by rw [List.mem_singleton.mp z]; exact List.mem_cons_self)), RM.fr hk hT how t (fun b z => k b (List.mem_cons_of_mem _ z))⟩
  | [], _ :: _, h, _ => h.elim
  | _ :: _, [], h, _ => h.elim
theorem RM.at : ∀ {as : List Addr} {l : List D}, RM K ow H as l → ∀ a ∈ as, ∃ o, H a = some o ∧ ¬ Fx o
  | [], [], _, a, z => by cases z
  | a :: as, d :: l, ⟨h, t⟩, b, z => by
    rcases List.mem_cons.mp z with e | e
    · rw [e]; exact RO.at _ _ _ _ h a List.mem_cons_self
    · exact RM.at t b e
  | [], _ :: _, h, _, _ => h.elim
  | _ :: _, [], h, _, _ => h.elim
theorem Tail.cs {e : Env} {fp : List Addr} (h : Tail K ow H e fp) : (e = [] ∧ fp = []) ∨ (e = [none] ∧ fp = []) ∨ ∃ as l, e = [some (.mem as l)] ∧ fp = as ∧ RM K ow H as l := by
  unfold Tail at h
  split at h
  · exact .inl ⟨rfl, h⟩
  · exact .inr (.inl ⟨rfl, h⟩)
  · exact .inr (.inr ⟨_, _, rfl, h⟩)
  · exact h.elim
theorem Tail.fr (hk : ∀ b o, H b = some o → ¬ ow b → H' b = some o) (hT : ExtT H H') (how : ∀ a, ow' a → ow a ∨ H a = none) {e : Env} {fp : List Addr} (h : Tail K ow H e fp) (k : ∀ b ∈ fp, ∀ o, H b = some o → H' b = some o) : Tail K ow' H' e fp := by
  rcases h.cs with ⟨rfl, rfl⟩ | ⟨rfl, rfl⟩ | ⟨as, l, rfl, rfl, r⟩
  · rfl
  · rfl
  · exact ⟨rfl, r.fr hk hT how k⟩
theorem Tail.at {e : Env} {fp : List Addr} (h : Tail K ow H e fp) : ∀ a ∈ fp, ∃ o, H a = some o ∧ ¬ Fx o := by
  rcases h.cs with ⟨rfl, rfl⟩ | ⟨rfl, rfl⟩ | ⟨as, l, rfl, rfl, r⟩
  · intro a z
    cases z
  · intro a z
    cases z
  · exact r.at
theorem Tail.le {e : Env} {fp : List Addr} (h : Tail K ow H e fp) : e.length ≤ 1 := by
  rcases h.cs with ⟨rfl, rfl⟩ | ⟨rfl, rfl⟩ | ⟨as, l, rfl, rfl, r⟩ <;> simp
theorem RV.len : ∀ {M : List Sh} {σ : L2.St} {e : Env} {fp : List Addr}, RV K ow H M σ e fp → σ.length = M.length ∧ e.length = M.length
  | [], _, _, _, h => by rw [h.1, h.2.1]; exact ⟨rfl, rfl⟩
  | sh :: M, _, _, _, ⟨x, σ', y, e', f1, f2, e1, e2, e3, h1, h2⟩ => by
    subst e1 e2
    obtain ⟨a, b⟩ := RV.len h2
    exact ⟨by rw [List.length_cons, List.length_cons, a], by rw [List.length_cons, List.length_cons, b]⟩
section
variable {M : List Sh} {σ : L2.St} {e : Env} {fp : List Addr}
theorem RVT.of (h : RV K ow H M σ e fp) : RVT K ow H M σ e fp := ⟨e, [], fp, [], by simp, by simp, h, rfl⟩
theorem RVT.len (h : RVT K ow H M σ e fp) : σ.length = M.length ∧ M.length ≤ e.length ∧ e.length ≤ M.length + 1 := by
  obtain ⟨e0, tl, f0, ft, rfl, rfl, r, t⟩ := h
  have a := r.len
  have b := t.le
  rw [List.length_append]
  omega
theorem RVT.strict (h : RVT K ow H M σ e fp) (hl : e.length = M.length) : RV K ow H M σ e fp := by
  obtain ⟨e0, tl, f0, ft, rfl, rfl, r, t⟩ := h
  have a := r.len
  rw [List.length_append] at hl
  have z : tl = [] := List.length_eq_zero_iff.mp (by omega)
  subst z
  have t : ft = [] := t
  subst t
  simpa using r
theorem RVT.fr (hk : ∀ b o, H b = some o → ¬ ow b → H' b = some o) (hT : ExtT H H') (how : ∀ a, ow' a → ow a ∨ H a = none) (h : RVT K ow H M σ e fp) (k : ∀ b ∈ fp, ∀ o, H b = some o → H' b = some o) : RVT K ow' H' M σ e fp := by
  obtain ⟨e0, tl, f0, ft, rfl, rfl, r, t⟩ := h
  exact ⟨e0, tl, f0, ft, rfl, rfl, r.fr hk hT how (fun b z => k b (List.mem_append_left _ z)), t.fr hk hT how (fun b z => k b (List.mem_append_right _ z))⟩
theorem RVT.at (h : RVT K ow H M σ e fp) : ∀ a ∈ fp, ∃ o, H a = some o ∧ ¬ Fx o := by
  obtain ⟨e0, tl, f0, ft, rfl, rfl, r, t⟩ := h
  intro a z
  rcases List.mem_append.mp z with z | z
  · exact r.at a z
  · exact t.at a z
theorem RVT.split {i : Nat} {sh : Sh} (h : RVT K ow H M σ e fp) (hM : M[i]? = some sh) :
    ∃ f1 fq f2 x y, σ[i]? = some x ∧ e[i]? = some y ∧ fp = f1 ++ (fq ++ f2) ∧ Slot K ow H sh x y fq ∧
      ∀ {H' : Hp} {ow' : Addr → Prop} {x' : Option V} {y' : Option D} {fp' : List Addr}, (∀ b o, H b = some o → ¬ ow b → H' b = some o) → ExtT H H' → (∀ a, ow' a → ow a ∨ H a = none) → (∀ b ∈ f1 ++ f2, ∀ o, H b = some o → H' b = some o) → Slot K ow' H' sh x' y' fp' →
        RVT K ow' H' M (σ.set i x') (e.set i y') (f1 ++ (fp' ++ f2)) := by
  obtain ⟨e0, tl, f0, ft, rfl, rfl, r, t⟩ := h
  have hl := r.len
  obtain ⟨f1, fq, f2, x, y, a1, a2, a3, a4, a5⟩ := r.split hM
  subst a3
  have hi : i < e0.length := (List.getElem?_eq_some_iff.mp a2).1
  refine ⟨f1, fq, f2 ++ ft, x, y, a1, by rw [List.getElem?_append_left hi]; exact a2, by simp, a4, fun {H' ow' x' y' fp'} hk hT how k s => ?_⟩
  refine ⟨e0.set i y', tl, f1 ++ (fp' ++ f2), ft, by rw [List.set_append_left i y' hi], by simp, a5 hk hT how (fun b z => k b ?_) s, t.fr hk hT how (fun b z => k b (by simp [z]))⟩
  rcases List.mem_append.mp z with z | z <;> simp [z]
end
end
def owOf (c : Vc) (fT fV : List Addr) : Addr → Prop := fun a => a ∈ fT ++ fV ∨ c.av a
structure RX (c : Vc) (fT fV : List Addr) (T : List Tm) (σ : L2.St) (e : Env) (H : Hp) : Prop where
  tm : RT c.K (owOf c fT fV) H T fT
  vr : RVT c.K (owOf c fT fV) H c.M σ e fV
  nd : (fT ++ fV).Nodup
  fr : ∀ a ∈ fT ++ fV, c.io a ∨ c.H0 a = none
  kp : ∀ b o, c.H0 b = some o → ¬ c.io b → H b = some o
  tp : ExtT c.H0 H
  al : ∀ b, c.H0 b ≠ none → H b ≠ none
  ok : ∀ a, c.av a → c.H0 a ≠ none ∧ ¬ c.io a
  rt : ∀ p ∈ c.rt, σ[p.1]? = some (some p.2)
def R (c : Vc) (T : List Tm) (σ : L2.St) (e : Env) (H : Hp) : Prop := ∃ fT fV, RX c fT fV T σ e H
section
variable {c : Vc} {fT fV : List Addr} {T : List Tm} {σ : L2.St} {e : Env} {H H' : Hp}
theorem RX.at (h : RX c fT fV T σ e H) : ∀ a ∈ fT ++ fV, ∃ o, H a = some o ∧ ¬ Fx o := fun a z => by
  rcases List.mem_append.mp z with q | q
  · exact h.tm.at a q
  · exact h.vr.at a q
/-- what is new is not one's own yet -/
theorem RX.new (h : RX c fT fV T σ e H) {p : Addr} (hp : H p = none) : p ∉ fT ++ fV ∧ c.H0 p = none := by
  refine ⟨fun z => ?_, ?_⟩
  · obtain ⟨o, e, _⟩ := h.at p z
    rw [hp] at e
    cases e
  · cases q : c.H0 p with
    | none => rfl
    | some o => exact absurd hp (h.al p (by rw [q]; simp))
theorem RX.avn (h : RX c fT fV T σ e H) {a : Addr} (z : c.av a) : H a ≠ none := h.al a (h.ok a z).1
/-- what is avoided stands in the heap -/
theorem RX.owS (h : RX c fT fV T σ e H) {a : Addr} (z : owOf c fT fV a) : H a ≠ none := by
  rcases z with z | z
  · obtain ⟨o, q, _⟩ := h.at a z
    rw [q]
    simp
  · exact h.avn z
/-- nothing that stood is otherwise -/
theorem RX.same (h : RX c fT fV T σ e H) (s : Same H H') : RX c fT fV T σ e H' := by
  have hT := ExtT.same s
  exact ⟨h.tm.fr (fun b o q _ => s b o q) hT (fun _ z => .inl z) (fun b _ o q => s b o q), h.vr.fr (fun b o q _ => s b o q) hT (fun _ z => .inl z) (fun b _ o q => s b o q), h.nd, h.fr,
    fun b o q n => s b o (h.kp b o q n), h.tp.trans hT, fun b q z => (h.al b q) (by
      cases y : H b with
      | none => rfl
      | some o => rw [s b o y] at z; cases z), h.ok, h.rt⟩
theorem RX.pushS (h : RX c fT fV T σ e H) {v : V} {d : D} (r : RS c.K (owOf c fT fV) H d v) : RX c fT fV ((.s, v, d) :: T) σ e H :=
  ⟨⟨[], fT, rfl, RO_s.mpr ⟨rfl, r⟩, h.tm⟩, h.vr, h.nd, h.fr, h.kp, h.tp, h.al, h.ok, h.rt⟩
theorem ow_grow {fp : List Addr} (hf : ∀ a ∈ fp, H a = none) : ∀ a, owOf c (fp ++ fT) fV a → owOf c fT fV a ∨ H a = none := fun a z => by
  rcases z with z | z
  · simp only [List.append_assoc, List.mem_append] at z
    rcases z with z | z | z
    · exact .inr (hf a z)
    · exact .inl (.inl (List.mem_append_left _ z))
    · exact .inl (.inl (List.mem_append_right _ z))
  · exact .inl (.inr z)
/-- a new thing, one's own -/
theorem RX.pushO (h : RX c fT fV T σ e H) (s : Same H H') {sh : Sh} {v : V} {d : D} {fp : List Addr} (nd : fp.Nodup) (hf : ∀ a ∈ fp, H a = none) (r : RO c.K (owOf c (fp ++ fT) fV) H' d sh v fp) : RX c (fp ++ fT) fV ((sh, v, d) :: T) σ e H' := by
  have h' := h.same s
  have hT := ExtT.same s
  have how := ow_grow (c := c) (fT := fT) (fV := fV) hf
  refine ⟨⟨fp, fT, rfl, r, h.tm.fr (fun b o q _ => s b o q) hT how (fun b _ o q => s b o q)⟩, h.vr.fr (fun b o q _ => s b o q) hT how (fun b _ o q => s b o q), ?_, fun a z => ?_, h'.kp, h'.tp, h'.al, h.ok, h.rt⟩
  · rw [List.append_assoc]
    exact List.nodup_append.mpr ⟨nd, h.nd, fun a z b y q => by subst q; exact (h.new (hf a z)).1 y⟩
  · rw [List.append_assoc] at z
    rcases List.mem_append.mp z with z | z
    · exact .inr (h.new (hf a z)).2
    · exact h.fr a z
theorem ow_less {f1 : List Addr} : ∀ a, owOf c fT fV a → owOf c (f1 ++ fT) fV a := fun a z => by
  rcases z with z | z
  · exact .inl (by
      rw [List.append_assoc]
      exact List.mem_append_right _ z)
  · exact .inr z
theorem RX.pop {t : Tm} (h : RX c fT fV (t :: T) σ e H) : ∃ fT', RX c fT' fV T σ e H := by
  obtain ⟨f1, f2, e1, h1, h2⟩ := h.tm
  subst e1
  have n := h.nd
  rw [List.append_assoc] at n
  have how : ∀ a, owOf c f2 fV a → owOf c (f1 ++ f2) fV a ∨ H a = none := fun a z => .inl (ow_less a z)
  exact ⟨f2, h2.fr (fun _ _ q _ => q) (ExtT.refl H) how (fun _ _ _ q => q), h.vr.fr (fun _ _ q _ => q) (ExtT.refl H) how (fun _ _ _ q => q), (List.nodup_append.mp n).2.1, fun a z => h.fr a (by rw [List.append_assoc]; exact List.mem_append_right _ z), h.kp, h.tp, h.al, h.ok, h.rt⟩
theorem R.pop {t : Tm} (h : R c (t :: T) σ e H) : R c T σ e H := by
  obtain ⟨fT, fV, h⟩ := h
  obtain ⟨fT', h⟩ := h.pop
  exact ⟨fT', fV, h⟩
/-- .. let go -/
theorem RX.let {sh : Sh} {v : V} {d : D} (h : RX c fT fV ((sh, v, d) :: T) σ e H) : ∃ fT', RX c fT' fV ((.s, v, d) :: T) σ e H := by
  obtain ⟨fT', hp⟩ := h.pop
  obtain ⟨f1, f2, e1, h1, h2⟩ := h.tm
  subst e1
  have n := h.nd
  rw [List.append_assoc] at n
  obtain ⟨n1, n2, n3⟩ := List.nodup_append.mp n
  have how : ∀ a, owOf c f2 fV a → owOf c (f1 ++ f2) fV a ∨ H a = none := fun a z => .inl (ow_less a z)
  have hp : RX c f2 fV T σ e H := ⟨h2.fr (fun _ _ q _ => q) (ExtT.refl H) how (fun _ _ _ q => q), h.vr.fr (fun _ _ q _ => q) (ExtT.refl H) how (fun _ _ _ q => q), n2, fun a z => h.fr a (by rw [List.append_assoc]; exact List.mem_append_right _ z), h.kp, h.tp, h.al, h.ok, h.rt⟩
  refine ⟨f2, hp.pushS (RO.let _ _ _ _ h1 fun a z => ⟨ow_less a z, fun y => ?_⟩)⟩
  rcases z with z | z
  · exact n3 a y a z rfl
  · rcases h.fr a (List.mem_append_left _ (List.mem_append_left _ y)) with q | q
    · exact (h.ok a z).2 q
    · exact (h.ok a z).1 q
theorem R.let {sh : Sh} {v : V} {d : D} (h : R c ((sh, v, d) :: T) σ e H) : R c ((.s, v, d) :: T) σ e H := by
  obtain ⟨fT, fV, h⟩ := h
  obtain ⟨fT', h⟩ := h.let
  exact ⟨fT', fV, h⟩
/-- what is on top is given a name -/
theorem R.set {sh : Sh} {v : V} {d : D} {i : Nat} (h : R c ((sh, v, d) :: T) σ e H) (hM : c.M[i]? = some sh) (hr : ∀ p ∈ c.rt, p.1 ≠ i) : R c T (σ.set i (some v)) (e.set i (some d)) H := by
  obtain ⟨fT, fV, h⟩ := h
  obtain ⟨f1, f2, e1, h1, h2⟩ := h.tm
  subst e1
  obtain ⟨g1, fp, g2, x, y, a1, a2, a3, a4, a5⟩ := h.vr.split hM
  subst a3
  have n := h.nd
  have sub : ∀ a, a ∈ f2 ++ (g1 ++ (f1 ++ g2)) → a ∈ f1 ++ f2 ++ (g1 ++ (fp ++ g2)) := fun a z => by
    simp only [List.mem_append] at z ⊢
    rcases z with z | z | z | z <;> simp [z]
  have how : ∀ a, owOf c f2 (g1 ++ (f1 ++ g2)) a → owOf c (f1 ++ f2) (g1 ++ (fp ++ g2)) a ∨ H a = none := fun a z => by
    rcases z with z | z
    · exact .inl (.inl (sub a z))
    · exact .inl (.inr z)
  refine ⟨f2, g1 ++ (f1 ++ g2), h2.fr (fun _ _ q _ => q) (ExtT.refl H) how (fun _ _ _ q => q), a5 (fun _ _ q _ => q) (ExtT.refl H) how (fun _ _ _ q => q) ⟨v, rfl, RO.fr (fun _ _ q _ => q) (ExtT.refl H) how _ _ _ _ h1 (fun _ _ _ q => q)⟩, ?_, fun a z => h.fr a (sub a z), h.kp, h.tp, h.al, h.ok, fun p hp => ?_⟩
  · have n' : (f1 ++ (f2 ++ (g1 ++ (fp ++ g2)))).Nodup := by simpa using n
    have p1 : List.Perm (f1 ++ (f2 ++ (g1 ++ (fp ++ g2)))) (fp ++ (f2 ++ (g1 ++ (f1 ++ g2)))) := by
      rw [List.perm_iff_count]
      intro a
      simp only [List.count_append]
      omega
    exact (List.nodup_append.mp (p1.nodup n')).2.1
  · rw [List.getElem?_set_ne (by exact fun z => hr p hp z.symm)]
    exact h.rt p hp
/-- a name's own thing is changed -/
theorem RX.upd {i : Nat} {sh : Sh} {d : D} (h : RX c fT fV T σ e H) (hM : c.M[i]? = some sh) (hd : e[i]? = some (some d)) :
    ∃ v fp, σ[i]? = some (some v) ∧ RO c.K (owOf c fT fV) H d sh v fp ∧ (∀ a ∈ fp, a ∈ fT ++ fV) ∧ fp.Nodup ∧
      ∀ (H' : Hp) (d' : D) (fp' : List Addr), (∀ b o, H b = some o → b ∉ fp → H' b = some o) → ExtT H H' → (∀ b, H b ≠ none → H' b ≠ none) → fp'.Nodup → (∀ a ∈ fp', a ∈ fp ∨ H a = none) →
        (∀ ow', (∀ a, ow' a → owOf c fT fV a ∨ H a = none) → RO c.K ow' H' d' sh v fp') → ∃ fV', RX c fT fV' T σ (e.set i (some d')) H' := by
  obtain ⟨f1, fp, f2, x, y, a1, a2, a3, a4, a5⟩ := h.vr.split hM
  subst a3
  rw [hd] at a2
  cases a2
  obtain ⟨v, rfl, ro⟩ := a4
  have n := h.nd
  have hsub : ∀ a ∈ fp, a ∈ fT ++ (f1 ++ (fp ++ f2)) := fun a z => by simp [z]
  have nd1 : (fp ++ (fT ++ (f1 ++ f2))).Nodup := by
    have p1 : List.Perm (fT ++ (f1 ++ (fp ++ f2))) (fp ++ (fT ++ (f1 ++ f2))) := by
      rw [List.perm_iff_count]
      intro a
      simp only [List.count_append]
      omega
    exact p1.nodup n
  obtain ⟨nf, nr, nx⟩ := List.nodup_append.mp nd1
  refine ⟨v, fp, a1, ro, hsub, nf, fun H' d' fp' hk hT hal nd' hf' hro => ⟨f1 ++ (fp' ++ f2), ?_⟩⟩
  have how : ∀ a, owOf c fT (f1 ++ (fp' ++ f2)) a → owOf c fT (f1 ++ (fp ++ f2)) a ∨ H a = none := fun a z => by
    rcases z with z | z
    · simp only [List.mem_append] at z
      rcases z with z | z | z | z
      · exact .inl (.inl (by simp [z]))
      · exact .inl (.inl (by simp [z]))
      · rcases hf' a z with q | q
        · exact .inl (.inl (by simp [q]))
        · exact .inr q
      · exact .inl (.inl (by simp [z]))
    · exact .inl (.inr z)
  have kow : ∀ b o, H b = some o → ¬ owOf c fT (f1 ++ (fp ++ f2)) b → H' b = some o := fun b o q n => hk b o q fun z => n (.inl (hsub b z))
  have koth : ∀ b ∈ fT ++ (f1 ++ f2), ∀ o, H b = some o → H' b = some o := fun b z o q => hk b o q fun y => nx b y b z rfl
  have hs : σ.set i (some v) = σ := by
    apply List.ext_getElem?
    intro j
    by_cases e : i = j
    · subst e
      rw [a1]
      have : i < σ.length := (List.getElem?_eq_some_iff.mp a1).1
      simp [this]
    · rw [List.getElem?_set_ne e]
  have vr' := a5 (H' := H') (ow' := owOf c fT (f1 ++ (fp' ++ f2))) (x' := some v) (y' := some d') (fp' := fp') kow hT how (fun b z => koth b (List.mem_append_right _ z)) ⟨v, rfl, hro _ how⟩
  rw [hs] at vr'
  refine ⟨h.tm.fr kow hT how (fun b z => koth b (List.mem_append_left _ z)), vr', ?_, fun a z => ?_, fun b o q n => ?_, h.tp.trans hT, fun b q => hal b (h.al b q), h.ok, h.rt⟩
  · have nn : (fp' ++ (fT ++ (f1 ++ f2))).Nodup := List.nodup_append.mpr ⟨nd', nr, fun a z b y q => by
      subst q
      rcases hf' a z with q | q
      · exact nx a q a y rfl
      · obtain ⟨o, w, _⟩ := h.at a (by
          simp only [List.mem_append] at y ⊢
          rcases y with y | y | y <;> simp [y])
        rw [q] at w
        cases w⟩
    have p1 : List.Perm (fp' ++ (fT ++ (f1 ++ f2))) (fT ++ (f1 ++ (fp' ++ f2))) := by
      rw [List.perm_iff_count]
      intro a
      simp only [List.count_append]
      omega
    exact p1.nodup nn
  · simp only [List.mem_append] at z
    rcases z with z | z | z | z
    · exact h.fr a (by simp [z])
    · exact h.fr a (by simp [z])
    · rcases hf' a z with q | q
      · exact h.fr a (by simp [q])
      · exact .inr (h.new q).2
    · exact h.fr a (by simp [z])
  · refine hk b o (h.kp b o q n) fun z => ?_
    rcases h.fr b (hsub b z) with y | y
    · exact n y
    · rw [y] at q
      cases q
/-- a name that is only read -/
theorem RX.var {i : Nat} {d : D} (h : RX c fT fV T σ e H) (hM : c.M[i]? = some .s) (hd : e[i]? = some (some d)) : ∃ v, σ[i]? = some (some v) ∧ RS c.K (owOf c fT fV) H d v := by
  obtain ⟨v, fp, a1, ro, _⟩ := h.upd hM hd
  exact ⟨v, a1, (RO_s.mp ro).2⟩
end
end VL
set_option Elab.async false
set_option linter.all false
set_option maxRecDepth 100000
set_option maxHeartbeats 2000000
namespace VL
open PySem PySem.Spec PyProof.Rows L2
/-! ### readings over data -/
structure Exn where
  C : Addr
  fs : List Str
  ds : List D
abbrev QV := D → Env → Prop
abbrev QX := Exn → Env → Prop
abbrev VT := Env → QV → QX → Prop
abbrev VTB := Env → (Bool → Env → Prop) → QX → Prop
abbrev VTA := Env → (List D → Env → Prop) → QX → Prop
abbrev VTO := Env → (Option Int → Env → Prop) → QX → Prop
structure VEnds where
  nx : Env → Prop
  rt : D → Env → Prop
  bk : Env → Prop
  ct : Env → Prop
  ex : QX
abbrev VTS := VEnds → Env → Prop
abbrev XW := Value → Option Addr → L2.St → Hp → Prop
def scV : D → V
  | .bl b => .bl b
  | .int i => .int i
  | .str s => .str s
  | _ => .non
def isSc : D → Bool
  | .non | .bl _ | .int _ | .str _ => true
  | _ => false
def XAt (H : Hp) (x : Exn) (d : Option Addr) : Prop := (x.fs = [] ∧ x.ds = [] ∧ d = none) ∨ ∃ dd, d = some dd ∧ H dd = some (.xd (x.fs.zip (x.ds.map scV))) ∧ x.fs.length = x.ds.length ∧ x.ds.all isSc = true
inductive Md | n | e
def Post (m : Md) (H H' : Hp) (e e' : Env) : Prop := m = .n → Same H H'
theorem Post.refl (m : Md) (H : Hp) (e : Env) : Post m H H e e := fun _ => fun _ _ q => q
theorem Post.trans {m : Md} {H H1 H2 : Hp} {e e1 e2 : Env} (a : Post m H H1 e e1) (b : Post m H1 H2 e1 e2) : Post m H H2 e e2 := fun q => (a q).trans (b q)
theorem Post.same {m : Md} {H H' : Hp} {e e' : Env} (s : Same H H') : Post m H H' e e' := fun _ => s
theorem Post.e {H H' : Hp} {e e' : Env} : Post .e H H' e e' := fun q => by cases q
def VE (c : Vc) (W : XW) (m : Md) (te : TE) (sh : Sh) (f : VT) : Prop := ∀ (T : List Tm) (σ : L2.St) (e : Env) (H : Hp) (Q : VK) (Qv : QV) (Qx : QX), R c T σ e H → f e Qv Qx →
  (∀ v d e' H', R c ((sh, v, d) :: T) σ e' H' → Post m H H' e e' → Qv d e' → Q v H') → (∀ x d e' H', R c T σ e' H' → XAt H' x d → Qx x e' → W (.ref x.C) d σ H') → te σ H Q
/-- read on the spot: what is on top may be one's own, what is in it nobody changes -/
def RB (K : PySem.W.Frag) (ow : Addr → Prop) (H : Hp) : D → V → Prop
  | .lst l, v => ∃ a vs, v = .ref a ∧ LsR K H a vs ∧ RSs K ow H l vs
  | .dct ks l, v => ∃ a vs, v = .ref a ∧ Rd H a (.dK (ks.zip vs)) ∧ ks.length = vs.length ∧ RSs K ow H l vs
  | .obj C fs l, v => ∃ a dx vs, v = .ref a ∧ H a = some (.ins C dx (fs.zip vs)) ∧ fs.length = vs.length ∧ RSs K ow H l vs
  | .nd P w t ks l, v => ∃ a vs, v = .ref a ∧ NDa K H P w t a ks vs ∧ ks.length = vs.length ∧ RSs K ow H l vs
  | d, v => RS K ow H d v
theorem RS.b {K : PySem.W.Frag} {ow : Addr → Prop} {H : Hp} {d : D} {v : V} (h : RS K ow H d v) : RB K ow H d v := by
  cases d with
  | lst l =>
    simp only [RS] at h
    obtain ⟨a, vs, e, q, t⟩ := h
    exact ⟨a, vs, e, q.r, t⟩
  | dct ks l =>
    simp only [RS] at h
    obtain ⟨a, vs, e, q, _, n, t⟩ := h
    exact ⟨a, vs, e, q, n, t⟩
  | obj C fs l =>
    simp only [RS] at h
    obtain ⟨a, dx, vs, e, q, _, n, t⟩ := h
    exact ⟨a, dx, vs, e, q, n, t⟩
  | nd P w t ks l =>
    simp only [RS] at h
    obtain ⟨a, vs, e, q, _, n, t⟩ := h
    exact ⟨a, vs, e, q, n, t⟩
  | _ => exact h
def VB (c : Vc) (te : TE) (f : VT) : Prop := ∀ (fT fV : List Addr) (T : List Tm) (σ : L2.St) (e : Env) (H : Hp) (Q : VK) (Qv : QV) (Qx : QX), RX c fT fV T σ e H → f e Qv Qx → (∀ v d, RB c.K (owOf c fT fV) H d v → Qv d e → Q v H) → te σ H Q
def VQ (c : Vc) (te : TE) (f : VT) : Prop := ∀ (fT fV : List Addr) (T : List Tm) (σ : L2.St) (e : Env) (H : Hp) (Q : VK) (Qv : QV) (Qx : QX), RX c fT fV T σ e H → f e Qv Qx → (∀ v d, RS c.K (owOf c fT fV) H d v → Qv d e → Q v H) → te σ H Q
def VBt (c : Vc) (W : XW) (m : Md) (tt : TT) (f : VTB) : Prop := ∀ (T : List Tm) (σ : L2.St) (e : Env) (H : Hp) (Q : Bool → Hp → Prop) (Qv : Bool → Env → Prop) (Qx : QX), R c T σ e H → f e Qv Qx →
  (∀ b e' H', R c T σ e' H' → Post m H H' e e' → Qv b e' → Q b H') → (∀ x d e' H', R c T σ e' H' → XAt H' x d → Qx x e' → W (.ref x.C) d σ H') → tt σ H Q
def VA (c : Vc) (W : XW) (m : Md) (ta : TA) (f : VTA) : Prop := ∀ (T : List Tm) (σ : L2.St) (e : Env) (H : Hp) (Q : List V → Hp → Prop) (Qv : List D → Env → Prop) (Qx : QX), R c T σ e H → f e Qv Qx →
  (∀ fT fV vs ds e' H', RX c fT fV T σ e' H' → RSs c.K (owOf c fT fV) H' ds vs → Post m H H' e e' → Qv ds e' → Q vs H') → (∀ x d e' H', R c T σ e' H' → XAt H' x d → Qx x e' → W (.ref x.C) d σ H') → ta σ H Q
def VBA (c : Vc) (ta : TA) (f : VTA) : Prop := ∀ (fT fV : List Addr) (T : List Tm) (σ : L2.St) (e : Env) (H : Hp) (Q : List V → Hp → Prop) (Qv : List D → Env → Prop) (Qx : QX), RX c fT fV T σ e H → f e Qv Qx → (∀ vs ds, Paired (RB c.K (owOf c fT fV) H) ds vs → Qv ds e → Q vs H) → ta σ H Q
def VO (c : Vc) (W : XW) (m : Md) (to : TO) (f : VTO) : Prop := ∀ (T : List Tm) (σ : L2.St) (e : Env) (H : Hp) (Q : Option Int → Hp → Prop) (Qv : Option Int → Env → Prop) (Qx : QX), R c T σ e H → f e Qv Qx →
  (∀ o e' H', R c T σ e' H' → Post m H H' e e' → Qv o e' → Q o H') → (∀ x d e' H', R c T σ e' H' → XAt H' x d → Qx x e' → W (.ref x.C) d σ H') → to σ H Q
section
variable {c : Vc} {W : XW} {m : Md}
theorem RX.topS {fT fV : List Addr} {T : List Tm} {σ : L2.St} {e : Env} {H : Hp} {v : V} {d : D} (h : RX c fT fV ((.s, v, d) :: T) σ e H) : RS c.K (owOf c fT fV) H d v ∧ RX c fT fV T σ e H := by
  obtain ⟨f1, f2, e1, h1, h2⟩ := h.tm
  have h1 := RO_s.mp h1
  have z : f1 = [] := h1.1
  subst z
  have z : fT = f2 := e1
  subst z
  exact ⟨h1.2, h2, h.vr, h.nd, h.fr, h.kp, h.tp, h.al, h.ok, h.rt⟩
theorem VQ.b {te : TE} {f : VT} (h : VQ c te f) : VB c te f := fun fT fV T σ e H Q Qv Qx hR hf hq => h fT fV T σ e H Q Qv Qx hR hf fun v d r q => hq v d r.b q
theorem VQ.e {te : TE} {f : VT} (h : VQ c te f) : VE c W m te .s f := fun T σ e H Q Qv Qx ⟨fT, fV, hR⟩ hf hn hx => h fT fV T σ e H Q Qv Qx hR hf fun v d r q => hn v d e H ⟨fT, fV, hR.pushS r⟩ (Post.refl _ _ _) q
/-- whatever it is, from now on nobody changes it -/
theorem VE.s {te : TE} {sh : Sh} {f : VT} (h : VE c W m te sh f) : VE c W m te .s f := fun T σ e H Q Qv Qx hR hf hn hx => h T σ e H Q Qv Qx hR hf (fun v d e' H' r p q => hn v d e' H' r.let p q) hx
/-! names, constants -/
def vVar (i : Nat) : VT := fun e Q _ => ∃ d, e[i]? = some (some d) ∧ Q d e
def vC (d : D) : VT := fun e Q _ => Q d e
theorem q_var {i : Nat} (hM : c.M[i]? = some .s) : VQ c (tVar i) (vVar i) := fun fT fV T σ e H Q Qv Qx hR ⟨d, hd, q⟩ hn => by
  obtain ⟨v, hv, r⟩ := hR.var hM hd
  exact ⟨v, hv, hn v d r q⟩
theorem q_int {i : Int} : VQ c (tC (.int i)) (vC (.int i)) := fun fT fV T σ e H Q Qv Qx hR q hn => hn _ _ (by simp only [RS]) q
theorem q_str {x : Str} : VQ c (tC (.str x)) (vC (.str x)) := fun fT fV T σ e H Q Qv Qx hR q hn => hn _ _ (by simp only [RS]) q
theorem q_bl {b : Bool} : VQ c (tC (.bl b)) (vC (.bl b)) := fun fT fV T σ e H Q Qv Qx hR q hn => hn _ _ (by simp only [RS]) q
theorem q_non : VQ c (tC .non) (vC .non) := fun fT fV T σ e H Q Qv Qx hR q hn => hn _ _ (by simp only [RS]) q
/-- a name of one's own list, read on the spot -/
theorem RO.bl {K : PySem.W.Frag} {ow : Addr → Prop} {H : Hp} {d : D} {v : V} {fp : List Addr} (h : RO K ow H d (.l .s) v fp) : RB K ow H d v ∧ ∃ l, d = .lst l := by
  cases d with
  | lst l =>
    simp only [RO] at h
    obtain ⟨a, vs, fps, rfl, q, t, rfl⟩ := h
    have r : RSs K ow H l vs := by
      clear q
      induction l generalizing vs fps with
      | nil =>
        simp only [List.map_nil, ROs] at t
        rw [t.2.1]
        exact .nil
      | cons x r ih =>
        simp only [List.map_cons, ROs] at t
        obtain ⟨sh, shs', v, vs', f1, f2, e1, e2, e3, h1, h2⟩ := t
        cases e1
        subst e2
        exact .cons (RO_s.mp h1).2 (ih vs' f2 h2)
    exact ⟨⟨a, vs, rfl, .inl (.inl q), r⟩, l, rfl⟩
  | _ => simp only [RO] at h
theorem b_varL {i : Nat} (hM : c.M[i]? = some (.l .s)) : VB c (tVar i) (vVar i) := fun fT fV T σ e H Q Qv Qx hR ⟨d, hd, q⟩ hn => by
  obtain ⟨v, fp, hv, r, _⟩ := hR.upd hM hd
  exact ⟨v, hv, hn v d r.bl.1 q⟩
/-! operators -/
abbrev G2 := D → D → (D → Prop) → Prop
abbrev GA := List D → (D → Prop) → Prop
abbrev G2L := D → D → (List D → Prop) → Prop
abbrev GAL := List D → (List D → Prop) → Prop
def OpD (K : PySem.W.Frag) (r : R2) (g : G2) : Prop := ∀ (ow : Addr → Prop) (H : Hp) (x y : V) (dx dy : D) (Q : VK) (Qd : D → Prop), RB K ow H dx x → RB K ow H dy y → g dx dy Qd → (∀ z v, RS K ow H z v → Qd z → Q v H) → r x y H Q
def OpL (K : PySem.W.Frag) (r : R2) (g : G2L) : Prop := ∀ (ow : Addr → Prop) (H : Hp) (x y : V) (dx dy : D) (Q : VK) (Qd : List D → Prop), RB K ow H dx x → RB K ow H dy y → g dx dy Qd → (∀ zs vs p, RSs K ow H zs vs → Qd zs → H p = none → Q (.ref p) (upd H p (.lst vs))) → r x y H Q
def OpT (K : PySem.W.Frag) (r : R2) (g : G2L) : Prop := ∀ (ow : Addr → Prop) (H : Hp) (x y : V) (dx dy : D) (Q : VK) (Qd : List D → Prop), RB K ow H dx x → RB K ow H dy y → g dx dy Qd → (∀ zs vs p H', RSs K ow H zs vs → Qd zs → Same H H' → SqT K H' p vs → Q (.ref p) H') → r x y H Q
def CaD (K : PySem.W.Frag) (r : List V → Hp → VK → Prop) (g : GA) : Prop := ∀ (ow : Addr → Prop) (H : Hp) (vs : List V) (ds : List D) (Q : VK) (Qd : D → Prop), Paired (RB K ow H) ds vs → g ds Qd → (∀ z v, RS K ow H z v → Qd z → Q v H) → r vs H Q
def CaL (K : PySem.W.Frag) (r : List V → Hp → VK → Prop) (g : GAL) : Prop := ∀ (ow : Addr → Prop) (H : Hp) (vs : List V) (ds : List D) (Q : VK) (Qd : List D → Prop), Paired (RB K ow H) ds vs → g ds Qd → (∀ zs ws p, RSs K ow H zs ws → Qd zs → H p = none → Q (.ref p) (upd H p (.lst ws))) → r vs H Q
def CaT (K : PySem.W.Frag) (r : List V → Hp → VK → Prop) (g : GAL) : Prop := ∀ (ow : Addr → Prop) (H : Hp) (vs : List V) (ds : List D) (Q : VK) (Qd : List D → Prop), Paired (RB K ow H) ds vs → g ds Qd → (∀ zs ws p H', RSs K ow H zs ws → Qd zs → Same H H' → SqT K H' p ws → Q (.ref p) H') → r vs H Q
theorem RSs.pb {K : PySem.W.Frag} {ow : Addr → Prop} {H : Hp} : ∀ {ds : List D} {vs : List V}, RSs K ow H ds vs → Paired (RB K ow H) ds vs
  | [], _, h => by simp only [RSs] at h; rw [h]; exact .nil
  | d :: ds, _, h => by
    simp only [RSs] at h
    obtain ⟨v, r, rfl, h, t⟩ := h
    exact .cons h.b (RSs.pb t)
def vOp2 (g : G2) (fa fb : VT) : VT := fun e Q Qx => fa e (fun x e1 => fb e1 (fun y e2 => g x y fun z => Q z e2) Qx) Qx
def vOp2L (g : G2L) (fa fb : VT) : VT := fun e Q Qx => fa e (fun x e1 => fb e1 (fun y e2 => g x y fun z => Q (.lst z) e2) Qx) Qx
def vOp2T (g : G2L) (fa fb : VT) : VT := fun e Q Qx => fa e (fun x e1 => fb e1 (fun y e2 => g x y fun z => Q (.tup z) e2) Qx) Qx
def vCa (g : GA) (fa : VTA) : VT := fun e Q Qx => fa e (fun xs e1 => g xs fun z => Q z e1) Qx
def vCaL (g : GAL) (fa : VTA) : VT := fun e Q Qx => fa e (fun xs e1 => g xs fun z => Q (.lst z) e1) Qx
def vCaT (g : GAL) (fa : VTA) : VT := fun e Q Qx => fa e (fun xs e1 => g xs fun z => Q (.tup z) e1) Qx
variable {ta tb te : TE} {fa fb f : VT} {tA : TA} {fA : VTA}
/-- two values, one behind the other -/
theorem two (ha : VE c W m ta .s fa) (hb : VE c W m tb .s fb) {T : List Tm} {σ : L2.St} {e : Env} {H : Hp} {Q : V → V → Hp → Prop} {Qv : D → D → Env → Prop} {Qx : QX} (hR : R c T σ e H) (hf : fa e (fun x e1 => fb e1 (fun y e2 => Qv x y e2) Qx) Qx)
    (hn : ∀ fT fV x y dx dy e' H', RX c fT fV T σ e' H' → RS c.K (owOf c fT fV) H' dx x → RS c.K (owOf c fT fV) H' dy y → Post m H H' e e' → Qv dx dy e' → Q x y H') (hx : ∀ x d e' H', R c T σ e' H' → XAt H' x d → Qx x e' → W (.ref x.C) d σ H') :
    ta σ H fun x H1 => tb σ H1 fun y H2 => Q x y H2 := by
  refine ha T σ e H _ _ Qx hR hf (fun x dx e1 H1 R1 P1 h1 => ?_) hx
  refine hb ((.s, x, dx) :: T) σ e1 H1 _ _ Qx R1 h1 (fun y dy e2 H2 R2 P2 h2 => ?_) (fun xn d e' H' R' X' q' => hx xn d e' H' R'.pop X' q')
  obtain ⟨fT, fV, R2⟩ := R2
  obtain ⟨ry, R2⟩ := R2.topS
  obtain ⟨rx, R2⟩ := R2.topS
  exact hn fT fV x y dx dy e2 H2 R2 rx ry (P1.trans P2) h2
theorem v_op {r : R2} {g : G2} (ha : VE c W m ta .s fa) (hb : VE c W m tb .s fb) (ho : OpD c.K r g) : VE c W m (tOp r ta tb) .s (vOp2 g fa fb) := fun T σ e H Q Qv Qx hR hf hn hx =>
  two ha hb hR hf (fun fT fV x y dx dy e' H' hR rx ry p q => ho _ H' x y dx dy Q _ rx.b ry.b q fun z v rz qz => hn v z e' H' ⟨fT, fV, hR.pushS rz⟩ p qz) hx
theorem q_op {r : R2} {g : G2} (ha : VB c ta fa) (hb : VB c tb fb) (ho : OpD c.K r g) : VQ c (tOp r ta tb) (vOp2 g fa fb) := fun fT fV T σ e H Q Qv Qx hR hf hn =>
  ha fT fV T σ e H _ _ Qx hR hf fun x dx rx h1 => hb fT fV T σ e H _ _ Qx hR h1 fun y dy ry h2 => ho _ H x y dx dy Q _ rx ry h2 fun z v rz qz => hn v z rz qz
/-- a new list on top -/
theorem RX.newL {fT fV : List Addr} {T : List Tm} {σ : L2.St} {e : Env} {H : Hp} {p : Addr} {zs : List D} {vs : List V} (h : RX c fT fV T σ e H) (hp : H p = none) (r : RSs c.K (owOf c fT fV) H zs vs) : R c ((.l .s, .ref p, .lst zs) :: T) σ e (L2.upd H p (.lst vs)) := by
  refine ⟨[p] ++ fT, fV, h.pushO (same_new hp) (by simp) (fun a z => by rw [List.mem_singleton.mp z]; exact hp) ?_⟩
  simp only [RO]
  refine ⟨p, vs, [], rfl, upd_same, ?_, rfl⟩
  have r' : RSs c.K (owOf c ([p] ++ fT) fV) (L2.upd H p (.lst vs)) zs vs := RSs.fr (Fr.same (same_new hp)) (ow_grow (fp := [p]) (fun a z => by rw [List.mem_singleton.mp z]; exact hp)) _ _ r
  clear r
  generalize L2.upd H p (HO.lst vs) = H2 at r'
  generalize owOf c ([p] ++ fT) fV = ow at r'
  clear h hp
  induction zs generalizing vs with
  | nil =>
    simp only [RSs] at r'
    simp only [List.map_nil, ROs]
    exact ⟨trivial, r', trivial⟩
  | cons z zs ih =>
    simp only [RSs] at r'
    obtain ⟨v, w, rfl, h1, h2⟩ := r'
    simp only [List.map_cons, ROs]
    exact ⟨.s, _, v, w, [], [], rfl, rfl, rfl, RO_s.mpr ⟨rfl, h1⟩, ih h2⟩
theorem RX.newT {fT fV : List Addr} {T : List Tm} {σ : L2.St} {e : Env} {H H' : Hp} {p : Addr} {zs : List D} {vs : List V} (h : RX c fT fV T σ e H) (s : Same H H') (q : SqT c.K H' p vs) (r : RSs c.K (owOf c fT fV) H zs vs) : R c ((.s, .ref p, .tup zs) :: T) σ e H' := by
  refine ⟨fT, fV, (h.same s).pushS ?_⟩
  simp only [RS]
  exact ⟨p, vs, rfl, q, RSs.fr (Fr.same s) (fun _ z => .inl z) _ _ r⟩
theorem v_opL {r : R2} {g : G2L} (ha : VE c W m ta .s fa) (hb : VE c W m tb .s fb) (ho : OpL c.K r g) : VE c W m (tOp r ta tb) (.l .s) (vOp2L g fa fb) := fun T σ e H Q Qv Qx hR hf hn hx =>
  two ha hb hR hf (fun fT fV x y dx dy e' H' hR rx ry p q => ho _ H' x y dx dy Q _ rx.b ry.b q fun zs vs a rz qz ha => hn _ _ e' _ (hR.newL ha rz) (p.trans (Post.same (same_new ha))) qz) hx
theorem v_opLq {r : R2} {g : G2L} (ha : VB c ta fa) (hb : VB c tb fb) (ho : OpL c.K r g) : VE c W m (tOp r ta tb) (.l .s) (vOp2L g fa fb) := fun T σ e H Q Qv Qx ⟨fT, fV, hR⟩ hf hn hx =>
  ha fT fV T σ e H _ _ Qx hR hf fun x dx rx h1 => hb fT fV T σ e H _ _ Qx hR h1 fun y dy ry h2 => ho _ H x y dx dy Q _ rx ry h2 fun zs vs a rz qz ha => hn _ _ e _ (hR.newL ha rz) (Post.same (same_new ha)) qz
theorem v_opT {r : R2} {g : G2L} (ha : VE c W m ta .s fa) (hb : VE c W m tb .s fb) (ho : OpT c.K r g) : VE c W m (tOp r ta tb) .s (vOp2T g fa fb) := fun T σ e H Q Qv Qx hR hf hn hx =>
  two ha hb hR hf (fun fT fV x y dx dy e' H' hR rx ry p q => ho _ H' x y dx dy Q _ rx.b ry.b q fun zs vs a H2 rz qz s sq => hn _ _ e' _ (hR.newT s sq rz) (p.trans (Post.same s)) qz) hx
/-! arguments -/
def vNil : VTA := fun e Q _ => Q [] e
def vCons (fa : VT) (fr : VTA) : VTA := fun e Q Qx => fa e (fun x e1 => fr e1 (fun xs e2 => Q (x :: xs) e2) Qx) Qx
theorem va_nil : VA c W m tNil vNil := fun T σ e H Q Qv Qx ⟨fT, fV, hR⟩ hf hn hx => hn fT fV [] [] e H hR .nil (Post.refl _ _ _) hf
theorem va_cons (ha : VE c W m ta .s fa) (hr : VA c W m tA fA) : VA c W m (tCons ta tA) (vCons fa fA) := fun T σ e H Q Qv Qx hR hf hn hx => by
  refine ha T σ e H _ _ Qx hR hf (fun x dx e1 H1 R1 P1 h1 => ?_) hx
  refine hr ((.s, x, dx) :: T) σ e1 H1 _ _ Qx R1 h1 (fun fT fV vs ds e2 H2 R2 rs P2 h2 => ?_) (fun xn d e' H' R' X' q' => hx xn d e' H' R'.pop X' q')
  obtain ⟨rx, R2⟩ := R2.topS
  exact hn fT fV _ _ e2 H2 R2 (.cons rx rs) (P1.trans P2) h2
theorem vba_nil : VBA c tNil vNil := fun fT fV T σ e H Q Qv Qx hR hf hn => hn [] [] .nil hf
theorem vba_cons (ha : VB c ta fa) (hr : VBA c tA fA) : VBA c (tCons ta tA) (vCons fa fA) := fun fT fV T σ e H Q Qv Qx hR hf hn =>
  ha fT fV T σ e H _ _ Qx hR hf fun x dx rx h1 => hr fT fV T σ e H _ _ Qx hR h1 fun vs ds rs h2 => hn _ _ (.cons rx rs) h2
theorem v_ca {r : List V → Hp → VK → Prop} {g : GA} (ha : VA c W m tA fA) (ho : CaD c.K r g) : VE c W m (tCB r tA) .s (vCa g fA) := fun T σ e H Q Qv Qx hR hf hn hx =>
  ha T σ e H _ _ Qx hR hf (fun fT fV vs ds e1 H1 R1 rs p q => ho _ H1 vs ds Q _ rs.pb q fun z v rz qz => hn v z e1 H1 ⟨fT, fV, R1.pushS rz⟩ p qz) hx
theorem q_ca {r : List V → Hp → VK → Prop} {g : GA} (ha : VBA c tA fA) (ho : CaD c.K r g) : VQ c (tCB r tA) (vCa g fA) := fun fT fV T σ e H Q Qv Qx hR hf hn =>
  ha fT fV T σ e H _ _ Qx hR hf fun vs ds rs q => ho _ H vs ds Q _ rs q fun z v rz qz => hn v z rz qz
theorem v_caL {r : List V → Hp → VK → Prop} {g : GAL} (ha : VA c W m tA fA) (ho : CaL c.K r g) : VE c W m (tCB r tA) (.l .s) (vCaL g fA) := fun T σ e H Q Qv Qx hR hf hn hx =>
  ha T σ e H _ _ Qx hR hf (fun fT fV vs ds e1 H1 R1 rs p q => ho _ H1 vs ds Q _ rs.pb q fun zs ws a rz qz ha => hn _ _ e1 _ (R1.newL ha rz) (p.trans (Post.same (same_new ha))) qz) hx
theorem v_caLq {r : List V → Hp → VK → Prop} {g : GAL} (ha : VBA c tA fA) (ho : CaL c.K r g) : VE c W m (tCB r tA) (.l .s) (vCaL g fA) := fun T σ e H Q Qv Qx ⟨fT, fV, hR⟩ hf hn hx =>
  ha fT fV T σ e H _ _ Qx hR hf fun vs ds rs q => ho _ H vs ds Q _ rs q fun zs ws a rz qz ha => hn _ _ e _ (hR.newL ha rz) (Post.same (same_new ha)) qz
theorem v_caT {r : List V → Hp → VK → Prop} {g : GAL} (ha : VA c W m tA fA) (ho : CaT c.K r g) : VE c W m (tCB r tA) .s (vCaT g fA) := fun T σ e H Q Qv Qx hR hf hn hx =>
  ha T σ e H _ _ Qx hR hf (fun fT fV vs ds e1 H1 R1 rs p q => ho _ H1 vs ds Q _ rs.pb q fun zs ws a H2 rz qz s sq => hn _ _ e1 _ (R1.newT s sq rz) (p.trans (Post.same s)) qz) hx
theorem v_caTq {r : List V → Hp → VK → Prop} {g : GAL} (ha : VBA c tA fA) (ho : CaT c.K r g) : VE c W m (tCB r tA) .s (vCaT g fA) := fun T σ e H Q Qv Qx ⟨fT, fV, hR⟩ hf hn hx =>
  ha fT fV T σ e H _ _ Qx hR hf fun vs ds rs q => ho _ H vs ds Q _ rs q fun zs ws a H2 rz qz s sq => hn _ _ e _ (hR.newT s sq rz) (Post.same s) qz
/-! displays -/
def vTup (fA : VTA) : VT := fun e Q Qx => fA e (fun xs e1 => xs.length ≤ sizeLine ∧ Q (.tup xs) e1) Qx
def vLst (fA : VTA) : VT := fun e Q Qx => fA e (fun xs e1 => xs.length ≤ sizeLine ∧ Q (.lst xs) e1) Qx
theorem v_tup (ha : VA c W m tA fA) : VE c W m (tTup tA) .s (vTup fA) := fun T σ e H Q Qv Qx hR hf hn hx =>
  ha T σ e H _ _ Qx hR hf (fun fT fV vs ds e1 H1 R1 rs p ⟨hl, q⟩ => ⟨by rw [rs.len]; exact hl, fun a ha => hn _ _ e1 _ (R1.newT (same_new ha) (SqT.of upd_same) rs) (p.trans (Post.same (same_new ha))) q⟩) hx
theorem v_lst (ha : VA c W m tA fA) : VE c W m (tLst tA) (.l .s) (vLst fA) := fun T σ e H Q Qv Qx hR hf hn hx =>
  ha T σ e H _ _ Qx hR hf (fun fT fV vs ds e1 H1 R1 rs p ⟨hl, q⟩ => ⟨by rw [rs.len]; exact hl, fun a ha => hn _ _ e1 _ (R1.newL ha rs) (p.trans (Post.same (same_new ha))) q⟩) hx
/-! tests -/
def vTest (f : VT) : VTB := fun e Q Qx => f e (fun d e1 => ∃ b, d = .bl b ∧ Q b e1) Qx
theorem RS.bl_of {K : PySem.W.Frag} {ow : Addr → Prop} {H : Hp} {b : Bool} {v : V} (h : RS K ow H (.bl b) v) : v = .bl b := by simpa only [RS] using h
theorem vt_test (h : VE c W m te .s f) : VBt c W m (tTest te) (vTest f) := fun T σ e H Q Qv Qx hR hf hn hx =>
  h T σ e H _ _ Qx hR hf (fun v d e1 H1 R1 p ⟨b, hb, q⟩ => by
    subst hb
    obtain ⟨fT, fV, R1⟩ := R1
    obtain ⟨r, R1⟩ := R1.topS
    exact ⟨b, r.bl_of, hn b e1 H1 ⟨fT, fV, R1⟩ p q⟩) hx
theorem vt_b (h : VE c W m te .s f) : VBt c W m (tB te) (vTest f) := vt_test h
variable {t1 t2 : TT} {g1 g2 : VTB}
def vAnd (g1 g2 : VTB) : VTB := fun e Q Qx => g1 e (fun b e1 => if b = true then g2 e1 Q Qx else Q false e1) Qx
def vOr (g1 g2 : VTB) : VTB := fun e Q Qx => g1 e (fun b e1 => if b = true then Q true e1 else g2 e1 Q Qx) Qx
def vNot (g1 : VTB) : VTB := fun e Q Qx => g1 e (fun b e1 => Q (!b) e1) Qx
theorem vt_and (h1 : VBt c W m t1 g1) (h2 : VBt c W m t2 g2) : VBt c W m (tAnd t1 t2) (vAnd g1 g2) := fun T σ e H Q Qv Qx hR hf hn hx =>
  h1 T σ e H _ _ Qx hR hf (fun b e1 H1 R1 p q => by
    cases b with
    | true => exact h2 T σ e1 H1 Q Qv Qx R1 q (fun b2 e2 H2 R2 p2 q2 => hn b2 e2 H2 R2 (p.trans p2) q2) hx
    | false => exact hn false e1 H1 R1 p q) hx
theorem vt_or (h1 : VBt c W m t1 g1) (h2 : VBt c W m t2 g2) : VBt c W m (tOr t1 t2) (vOr g1 g2) := fun T σ e H Q Qv Qx hR hf hn hx =>
  h1 T σ e H _ _ Qx hR hf (fun b e1 H1 R1 p q => by
    cases b with
    | false => exact h2 T σ e1 H1 Q Qv Qx R1 q (fun b2 e2 H2 R2 p2 q2 => hn b2 e2 H2 R2 (p.trans p2) q2) hx
    | true => exact hn true e1 H1 R1 p q) hx
theorem vt_not (h1 : VBt c W m t1 g1) : VBt c W m (tNot t1) (vNot g1) := fun T σ e H Q Qv Qx hR hf hn hx =>
  h1 T σ e H _ _ Qx hR hf (fun b e1 H1 R1 p q => hn (!b) e1 H1 R1 p q) hx
def vIf (g1 : VTB) (fa fb : VT) : VT := fun e Q Qx => g1 e (fun b e1 => if b = true then fa e1 Q Qx else fb e1 Q Qx) Qx
theorem v_if {sh : Sh} (h1 : VBt c W m t1 g1) (ha : VE c W m ta sh fa) (hb : VE c W m tb sh fb) : VE c W m (tIf t1 ta tb) sh (vIf g1 fa fb) := fun T σ e H Q Qv Qx hR hf hn hx =>
  h1 T σ e H _ _ Qx hR hf (fun b e1 H1 R1 p q => by
    cases b with
    | true => exact ha T σ e1 H1 Q Qv Qx R1 q (fun v d e2 H2 R2 p2 q2 => hn v d e2 H2 R2 (p.trans p2) q2) hx
    | false => exact hb T σ e1 H1 Q Qv Qx R1 q (fun v d e2 H2 R2 p2 q2 => hn v d e2 H2 R2 (p.trans p2) q2) hx) hx
def vAndV (fa fb : VT) : VT := fun e Q Qx => fa e (fun x e1 => ∃ b, x = .bl b ∧ if b = true then fb e1 Q Qx else Q (.bl false) e1) Qx
def vOrV (fa fb : VT) : VT := fun e Q Qx => fa e (fun x e1 => ∃ b, x = .bl b ∧ if b = true then Q (.bl true) e1 else fb e1 Q Qx) Qx
def vNotV (fa : VT) : VT := fun e Q Qx => fa e (fun x e1 => ∃ b, x = .bl b ∧ Q (.bl (!b)) e1) Qx
theorem R.pushBl {T : List Tm} {σ : L2.St} {e : Env} {H : Hp} {b : Bool} (h : R c T σ e H) : R c ((.s, .bl b, .bl b) :: T) σ e H := by
  obtain ⟨fT, fV, h⟩ := h
  exact ⟨fT, fV, h.pushS (by simp only [RS])⟩
theorem R.topBl {T : List Tm} {σ : L2.St} {e : Env} {H : Hp} {b : Bool} {v : V} (h : R c ((.s, v, .bl b) :: T) σ e H) : v = .bl b ∧ R c T σ e H := by
  obtain ⟨fT, fV, h⟩ := h
  obtain ⟨r, h⟩ := h.topS
  exact ⟨r.bl_of, fT, fV, h⟩
theorem v_and (ha : VE c W m ta .s fa) (hb : VE c W m tb .s fb) : VE c W m (tAndV ta tb) .s (vAndV fa fb) := fun T σ e H Q Qv Qx hR hf hn hx =>
  ha T σ e H _ _ Qx hR hf (fun v d e1 H1 R1 p ⟨b, hb', q⟩ => by
    subst hb'
    obtain ⟨hv, R2⟩ := R1.topBl
    subst hv
    refine ⟨b, rfl, ?_⟩
    cases b with
    | true => exact hb T σ e1 H1 Q Qv Qx R2 q (fun v d e2 H2 R2 p2 q2 => hn v d e2 H2 R2 (p.trans p2) q2) hx
    | false => exact hn _ _ e1 H1 R2.pushBl p q) hx
theorem v_or (ha : VE c W m ta .s fa) (hb : VE c W m tb .s fb) : VE c W m (tOrV ta tb) .s (vOrV fa fb) := fun T σ e H Q Qv Qx hR hf hn hx =>
  ha T σ e H _ _ Qx hR hf (fun v d e1 H1 R1 p ⟨b, hb', q⟩ => by
    subst hb'
    obtain ⟨hv, R2⟩ := R1.topBl
    subst hv
    refine ⟨b, rfl, ?_⟩
    cases b with
    | false => exact hb T σ e1 H1 Q Qv Qx R2 q (fun v d e2 H2 R2 p2 q2 => hn v d e2 H2 R2 (p.trans p2) q2) hx
    | true => exact hn _ _ e1 H1 R2.pushBl p q) hx
theorem v_not (ha : VE c W m ta .s fa) : VE c W m (tNotV ta) .s (vNotV fa) := fun T σ e H Q Qv Qx hR hf hn hx =>
  ha T σ e H _ _ Qx hR hf (fun v d e1 H1 R1 p ⟨b, hb', q⟩ => by
    subst hb'
    obtain ⟨hv, R2⟩ := R1.topBl
    subst hv
    exact ⟨b, rfl, hn _ _ e1 H1 R2.pushBl p q⟩) hx
/-! slices -/
def vNo : VTO := fun e Q _ => Q none e
def vPart (f : VT) : VTO := fun e Q Qx => f e (fun d e1 => ∃ i, d = .int i ∧ Q (some i) e1) Qx
theorem vo_none : VO c W m tNoPart vNo := fun T σ e H Q Qv Qx hR hf hn hx => hn none e H hR (Post.refl _ _ _) hf
theorem vo_some (h : VE c W m te .s f) : VO c W m (tPart te) (vPart f) := fun T σ e H Q Qv Qx hR hf hn hx =>
  h T σ e H _ _ Qx hR hf (fun v d e1 H1 R1 p ⟨i, hi, q⟩ => by
    subst hi
    obtain ⟨fT, fV, R1⟩ := R1
    obtain ⟨r, R1⟩ := R1.topS
    simp only [RS] at r
    exact ⟨i, r, hn (some i) e1 H1 ⟨fT, fV, R1⟩ p q⟩) hx
abbrev RSl := V → Option Int → Option Int → Hp → VK → Prop
def SlD (K : PySem.W.Frag) (r : RSl) (g : D → Option Int → Option Int → (D → Prop) → Prop) : Prop := ∀ (ow : Addr → Prop) (H : Hp) (x : V) (dx : D) (lo hi : Option Int) (Q : VK) (Qd : D → Prop), RB K ow H dx x → g dx lo hi Qd → (∀ z v, RS K ow H z v → Qd z → Q v H) → r x lo hi H Q
def SlL (K : PySem.W.Frag) (r : RSl) (g : D → Option Int → Option Int → (List D → Prop) → Prop) : Prop := ∀ (ow : Addr → Prop) (H : Hp) (x : V) (dx : D) (lo hi : Option Int) (Q : VK) (Qd : List D → Prop), RB K ow H dx x → g dx lo hi Qd → (∀ zs vs p, RSs K ow H zs vs → Qd zs → H p = none → Q (.ref p) (upd H p (.lst vs))) → r x lo hi H Q
def SlT (K : PySem.W.Frag) (r : RSl) (g : D → Option Int → Option Int → (List D → Prop) → Prop) : Prop := ∀ (ow : Addr → Prop) (H : Hp) (x : V) (dx : D) (lo hi : Option Int) (Q : VK) (Qd : List D → Prop), RB K ow H dx x → g dx lo hi Qd → (∀ zs vs p H', RSs K ow H zs vs → Qd zs → Same H H' → SqT K H' p vs → Q (.ref p) H') → r x lo hi H Q
def vSl (g : D → Option Int → Option Int → (D → Prop) → Prop) (f : VT) (fl fh : VTO) : VT := fun e Q Qx => f e (fun x e1 => fl e1 (fun lo e2 => fh e2 (fun hi e3 => g x lo hi fun z => Q z e3) Qx) Qx) Qx
def vSlL (g : D → Option Int → Option Int → (List D → Prop) → Prop) (f : VT) (fl fh : VTO) : VT := fun e Q Qx => f e (fun x e1 => fl e1 (fun lo e2 => fh e2 (fun hi e3 => g x lo hi fun z => Q (.lst z) e3) Qx) Qx) Qx
def vSlT (g : D → Option Int → Option Int → (List D → Prop) → Prop) (f : VT) (fl fh : VTO) : VT := fun e Q Qx => f e (fun x e1 => fl e1 (fun lo e2 => fh e2 (fun hi e3 => g x lo hi fun z => Q (.tup z) e3) Qx) Qx) Qx
variable {tl th : TO} {fl fh : VTO}
theorem sl3 (h : VE c W m te .s f) (hl : VO c W m tl fl) (hh : VO c W m th fh) {T : List Tm} {σ : L2.St} {e : Env} {H : Hp} {Q : V → Option Int → Option Int → Hp → Prop} {Qv : D → Option Int → Option Int → Env → Prop} {Qx : QX} (hR : R c T σ e H)
    (hf : f e (fun x e1 => fl e1 (fun lo e2 => fh e2 (fun hi e3 => Qv x lo hi e3) Qx) Qx) Qx) (hn : ∀ fT fV x dx lo hi e' H', RX c fT fV T σ e' H' → RS c.K (owOf c fT fV) H' dx x → Post m H H' e e' → Qv dx lo hi e' → Q x lo hi H') (hx : ∀ x d e' H', R c T σ e' H' → XAt H' x d → Qx x e' → W (.ref x.C) d σ H') :
    te σ H fun x H1 => tl σ H1 fun lo H2 => th σ H2 fun hi H3 => Q x lo hi H3 := by
  refine h T σ e H _ _ Qx hR hf (fun x dx e1 H1 R1 P1 h1 => ?_) hx
  have hx' : ∀ xn d e' H', R c ((.s, x, dx) :: T) σ e' H' → XAt H' xn d → Qx xn e' → W (.ref xn.C) d σ H' := fun xn d e' H' R' X' q' => hx xn d e' H' R'.pop X' q'
  refine hl _ σ e1 H1 _ _ Qx R1 h1 (fun lo e2 H2 R2 P2 h2 => hh _ σ e2 H2 _ _ Qx R2 h2 (fun hi e3 H3 R3 P3 h3 => ?_) hx') hx'
  obtain ⟨fT, fV, R3⟩ := R3
  obtain ⟨rx, R3⟩ := R3.topS
  exact hn fT fV x dx lo hi e3 H3 R3 rx (P1.trans (P2.trans P3)) h3
theorem v_sl {r : RSl} {g : D → Option Int → Option Int → (D → Prop) → Prop} (h : VE c W m te .s f) (hl : VO c W m tl fl) (hh : VO c W m th fh) (ho : SlD c.K r g) : VE c W m (tSl r te tl th) .s (vSl g f fl fh) := fun T σ e H Q Qv Qx hR hf hn hx =>
  sl3 h hl hh hR hf (fun fT fV x dx lo hi e' H' R' rx p q => ho _ H' x dx lo hi Q _ rx.b q fun z v rz qz => hn v z e' H' ⟨fT, fV, R'.pushS rz⟩ p qz) hx
theorem v_slL {r : RSl} {g : D → Option Int → Option Int → (List D → Prop) → Prop} (h : VE c W m te .s f) (hl : VO c W m tl fl) (hh : VO c W m th fh) (ho : SlL c.K r g) : VE c W m (tSl r te tl th) (.l .s) (vSlL g f fl fh) := fun T σ e H Q Qv Qx hR hf hn hx =>
  sl3 h hl hh hR hf (fun fT fV x dx lo hi e' H' R' rx p q => ho _ H' x dx lo hi Q _ rx.b q fun zs vs a rz qz ha => hn _ _ e' _ (R'.newL ha rz) (p.trans (Post.same (same_new ha))) qz) hx
theorem v_slT {r : RSl} {g : D → Option Int → Option Int → (List D → Prop) → Prop} (h : VE c W m te .s f) (hl : VO c W m tl fl) (hh : VO c W m th fh) (ho : SlT c.K r g) : VE c W m (tSl r te tl th) .s (vSlT g f fl fh) := fun T σ e H Q Qv Qx hR hf hn hx =>
  sl3 h hl hh hR hf (fun fT fV x dx lo hi e' H' R' rx p q => ho _ H' x dx lo hi Q _ rx.b q fun zs vs a H2 rz qz s sq => hn _ _ e' _ (R'.newT s sq rz) (p.trans (Post.same s)) qz) hx
end
end VL
set_option Elab.async false
set_option linter.all false
set_option maxRecDepth 100000
set_option maxHeartbeats 2000000
namespace VL
open PySem PySem.Spec PyProof.Rows L2
/-! ### lists of whatever sort, put together -/
section
variable {X : Cx} {pins : List (Addr × Obj)} {σ : L2.St} {H : Hp} {s : Shared} {a : Addr} {xs : List V}
theorem lsR_at (I : Inv X pins σ H s) (h : LsR X.K H a xs) : xs.length ≤ sizeLine ∧ ∃ (its : List Value) (n : Nat), Vals xs its ∧ xs.length = its.length ∧ s.heap.get? a = some { cls := .type "list", data := .seq its.toArray n } := by
  rcases h with h | ⟨its, n, h, z, r⟩
  · obtain ⟨z, its, n, r, e⟩ := h.ok I.hok
    exact ⟨z, its, n, r, r.length, e⟩
  · exact ⟨by rw [r.length]; exact z, its, n, r, r.length, I.kIn a _ h⟩
def rCatR (K : PySem.W.Frag) : R2 := fun x y H Q => ∃ l b xs zs, x = .ref l ∧ y = .ref b ∧ LsR K H l xs ∧ LsR K H b zs ∧ xs.length + zs.length ≤ sizeLine ∧ ∀ p, H p = none → Q (.ref p) (upd H p (.lst (xs ++ zs)))
theorem catR (K0 : PySem.W.Frag) (hK : X.K = K0) : OpR X (binaryOp .Add) (rCatR K0) := by
  subst hK
  intro pins s σ H x y v u Q I rx ry h
  obtain ⟨l, b, xs, zs, rfl, rfl, hH, hB, hz, q⟩ := h
  cases rx
  cases ry
  obtain ⟨z, its, n, r, hl, e⟩ := lsR_at I hH
  obtain ⟨z2, its2, n2, r2, hl2, e2⟩ := lsR_at I hB
  refine PySem.P.add_list e e2 ?_ (by rw [List.size_toArray, List.size_toArray]; omega)
  have ea : its.toArray ++ its2.toArray = (its ++ its2).toArray := by simp
  rw [ea]
  exact ⟨.ref _, _, I.lnew (t' := s.toks) (r.append r2) (by rw [List.length_append]; omega), rfl, q _ I.fresh⟩
def rExtR (K : PySem.W.Frag) : V → List V → Hp → VK → Prop := fun x vs H Q => ∃ l b xs zs, x = .ref l ∧ vs = [.ref b] ∧ H l = some (.lst xs) ∧ LsR K H b zs ∧ xs.length + zs.length ≤ sizeLine ∧ Q .non (upd H l (.lst (xs ++ zs)))
theorem extR (K0 : PySem.W.Frag) (hK : X.K = K0) : MtM X "list.extend" (rExtR K0) := by
  subst hK
  intro pins s σ H x vs v us Q I rx rv h
  obtain ⟨l, b, xs, zs, rfl, rfl, hH, hB, hz, q⟩ := h
  cases rx
  obtain ⟨u, rfl, ru⟩ := rv.one
  cases ru
  obtain ⟨z, its, n, r, hl, e⟩ := I.lstM hH
  obtain ⟨z2, its2, n2, r2, hl2, e2⟩ := lsR_at I hB
  have hsz : its.toArray.size + its2.toArray.size ≤ sizeLine := by rw [List.size_toArray, List.size_toArray]; omega
  have hlong : ¬ (!its.toArray.isEmpty && Builtin.List.listTooLong (its.toArray.size + its2.toArray.size)) = true := by
    rw [notLongL hsz, Bool.and_false]
    exact Bool.false_ne_true
  refine call_meets F.slot_list_extend ⟨_, e, rfl⟩ F.entry_list_extend (F.args_list_extend_2 _ _)
    (AutoSeq1.list_extend_list_list_0 l its.toArray n b its2.toArray n2 hlong (by rw [List.size_toArray]; omega) (by omega)) ⟨e, e2, ?_⟩
  refine ⟨.non, _, I.lset (its' := its ++ its2) hH e (by simp) (r.append r2) ?_, rfl, q⟩
  rw [List.length_append]
  omega
/-- t + u, whatever they are -/
def rCatU (K : PySem.W.Frag) : R2 := fun x y H Q => ∃ a b xs ys, x = .ref a ∧ y = .ref b ∧ SqT K H a xs ∧ SqT K H b ys ∧ xs.length + ys.length ≤ sizeLine ∧ ∀ p H', SqT K H' p (xs ++ ys) → Same H H' → Q (.ref p) H'
theorem catU (K0 : PySem.W.Frag) (hK : X.K = K0) : OpR X (binaryOp .Add) (rCatU K0) := by
  subst hK
  intro pins s σ H x y v u Q I rx ry h
  obtain ⟨a, b, xs, ys, rfl, rfl, ha, hb, hz, q⟩ := h
  refine op_catA pins s σ H _ _ v u Q I rx ry ⟨a, b, xs, ys, rfl, rfl, ha, hb, hz, fun e => ?_, fun _ e => ?_, fun _ _ p np => q p _ (SqT.of upd_same) (same_new np)⟩
  · subst e
    exact q b H hb fun _ _ e => e
  · subst e
    exact q a H (by rw [List.append_nil]; exact ha) fun _ _ e => e
/-- t[lo:hi], whatever it is -/
def rSlU (K : PySem.W.Frag) : V → Option Int → Option Int → Hp → VK → Prop := fun x lo hi H Q => ∃ a xs, x = .ref a ∧ SqT K H a xs ∧ ∀ p H', SqT K H' p (cutV xs lo hi) → Same H H' → Q (.ref p) H'
theorem slU (K0 : PySem.W.Frag) (hK : X.K = K0) : SlR X (rSlU K0) := by
  subst hK
  intro pins s σ H x v vl vu lo hi sl Q I rx hs pl pu h
  obtain ⟨a, xs, rfl, hx, q⟩ := h
  refine sl_tupA pins s σ H _ v vl vu lo hi sl Q I rx hs pl pu ⟨a, xs, rfl, hx, fun e => q a H ?_ fun _ _ e => e, fun _ p np => q p _ (SqT.of upd_same) (same_new np)⟩
  unfold cutV
  rw [e.1, e.2, List.drop_zero, Nat.sub_zero, List.take_length]
  exact hx
end
/-! rules that name the written part (for the blocks of comprehensions) -/
section
variable {X : Cx} (K0 : PySem.W.Frag) (hK : X.K = K0)
include hK
theorem ixL : IxR X (rIxL K0) := by subst hK; exact ix_list
theorem ixT : IxR X (rIxT K0) := by subst hK; exact ix_tup
theorem slL : SlR X (rSlL K0) := by subst hK; exact sl_list
theorem lenK : CallR X (.builtin "len") (fun xs H Q => ∃ p ys, xs = [.ref p] ∧ (SqL K0 H p ys ∨ SqT K0 H p ys) ∧ Q (.int ys.length) H) := by subst hK; exact call_len_seq
theorem inK : OpR X (compareOp .In) (rIn K0 false) := by subst hK; exact op_in_seq
theorem notInK : OpR X (compareOp .NotIn) (rIn K0 true) := by subst hK; exact op_notIn_seq
theorem sumK (hc : X.calm = true) : CallR X (.builtin "sum") (rSum K0) := by subst hK; exact cr_sum hc
theorem allK (hc : X.calm = true) : CallR X (.builtin "all") (rAll K0) := by subst hK; exact cr_all hc
theorem anyK (hc : X.calm = true) : CallR X (.builtin "any") (rAny K0) := by subst hK; exact cr_any hc
theorem listK : CallR X (.type "list") (fun xs H Q => ∃ p ys, xs = [.ref p] ∧ (SqL K0 H p ys ∨ SqT K0 H p ys) ∧ ∀ l, H l = none → Q (.ref l) (upd H l (.lst ys))) := by subst hK; exact call_list_of
theorem tupleK : CallR X (.type "tuple") (fun xs H Q => ∃ p ys, xs = [.ref p] ∧ ((SqL K0 H p ys ∧ ∀ l, H l = none → Q (.ref l) (upd H l (.tup ys))) ∨ (SqT K0 H p ys ∧ Q (.ref p) H))) := by subst hK; exact call_tuple_of
theorem eqDK (hu : X.A.units + 64 < cLine) : OpR X (compareOp .Eq) (rEqD K0) := by subst hK; exact op_eqD hu
theorem neDK (hu : X.A.units + 64 < cLine) : OpR X (compareOp .NotEq) (rNeD K0) := by subst hK; exact op_neD hu
theorem inDK (hu : X.A.units + 65 < cLine) : OpR X (compareOp .In) (rInD K0) := by subst hK; exact op_inD hu
theorem notInDK (hu : X.A.units + 65 < cLine) : OpR X (compareOp .NotIn) (rNotInD K0) := by subst hK; exact op_notInD hu
theorem indexDK (hu : X.A.units + 65 < cLine) : MtR X "list.index" (rIndexD K0) := by subst hK; exact mt_indexD hu
theorem reprK (gd : X.A.guards = some []) (hu : X.A.units + 64 < cLine) : CallR X (.builtin "repr") (Fb.rReprD K0) := by subst hK; exact Fb.call_reprD gd hu
theorem piLK {tg l : Expr} {tl : TE} (hl : PE X l tl) : PI X tg l (iList K0 tl) := by subst hK; exact pi_list hl
theorem piTK {tg l : Expr} {tl : TE} (hl : PE X l tl) : PI X tg l (iTup K0 tl) := by subst hK; exact pi_tup hl
theorem fldK {e : Expr} {ta : TE} {f : Str} {pos : Pos} (he : PE X e ta) (hb : attributeBase e f X.env (eval e X.env) = eval e X.env) : PE X (.Attribute e f pos) (tFld K0 ta f) := by subst hK; exact pe_fld he hb
theorem tupTK {es : List Expr} {k : Nat} {pos : Pos} {n : Nat} {t : TGs} (hc : X.calm = true) (h : PGs X es t) (hn : (assignEach es X.env).length = n := by rfl) (hst : (assignEach es X.env).findIdx? (·.1) = none := by rfl) : PG X (.Tuple es k pos) (gTup K0 n t) := by subst hK; exact pg_tup hc h hn hst
end
/-! ### what is read off data -/
section
variable {K : PySem.W.Frag} {ow : Addr → Prop} {H : Hp} {x : V}
theorem RB.int {i : Int} (h : RB K ow H (.int i) x) : x = .int i := by simpa only [RB, RS] using h
theorem RB.str {i : Str} (h : RB K ow H (.str i) x) : x = .str i := by simpa only [RB, RS] using h
theorem RB.bl {i : Bool} (h : RB K ow H (.bl i) x) : x = .bl i := by simpa only [RB, RS] using h
theorem RB.non (h : RB K ow H .non x) : x = .non := by simpa only [RB, RS] using h
theorem RB.tup {l : List D} (h : RB K ow H (.tup l) x) : ∃ a vs, x = .ref a ∧ SqT K H a vs ∧ RSs K ow H l vs := by simpa only [RB, RS] using h
theorem RB.lst {l : List D} (h : RB K ow H (.lst l) x) : ∃ a vs, x = .ref a ∧ LsR K H a vs ∧ RSs K ow H l vs := h
theorem RB.dct {ks : List Key} {l : List D} (h : RB K ow H (.dct ks l) x) : ∃ a vs, x = .ref a ∧ Rd H a (.dK (ks.zip vs)) ∧ ks.length = vs.length ∧ RSs K ow H l vs := h
theorem rs_int {i : Int} : RS K ow H (.int i) (.int i) := by simp only [RS]
theorem rs_str {i : Str} : RS K ow H (.str i) (.str i) := by simp only [RS]
theorem rs_bl {i : Bool} : RS K ow H (.bl i) (.bl i) := by simp only [RS]
theorem rs_non : RS K ow H .non .non := by simp only [RS]
theorem RB.sc {d : D} (h : RB K ow H d x) (s : isSc d = true) : x = scV d := by
  cases d with
  | non => exact h.non
  | bl b => exact h.bl
  | int i => exact h.int
  | str z => exact h.str
  | _ => cases s
theorem rs_sc {d : D} (s : isSc d = true) : RS K ow H d (scV d) := by
  cases d with
  | non => exact rs_non
  | bl b => exact rs_bl
  | int i => exact rs_int
  | str z => exact rs_str
  | _ => cases s
theorem RSs.sc : ∀ {ds : List D} {vs : List V}, RSs K ow H ds vs → ds.all isSc = true → vs = ds.map scV
  | [], _, h, _ => by simp only [RSs] at h; rw [h]; rfl
  | d :: ds, _, h, s => by
    simp only [RSs] at h
    obtain ⟨v, r, rfl, h, t⟩ := h
    rw [List.all_cons, Bool.and_eq_true] at s
    rw [List.map_cons, RSs.sc t s.2, h.b.sc s.1]
theorem RSs.at {l : List D} {vs : List V} {i : Int} {d : D} (h : RSs K ow H l vs) (e : atI l i = some d) : ∃ v, atI vs i = some v ∧ RS K ow H d v := by
  unfold atI at e ⊢
  rw [h.len]
  cases q : ixN l.length i with
  | none =>
    rw [q] at e
    cases e
  | some j =>
    rw [q] at e
    exact h.get e
theorem RSs.cut {l : List D} {vs : List V} (h : RSs K ow H l vs) (lo hi : Option Int) : RSs K ow H ((l.drop (HT.sIx l.length 0 lo)).take (HT.sIx l.length l.length hi - HT.sIx l.length 0 lo)) (cutV vs lo hi) := by
  unfold cutV
  rw [h.len]
  exact (h.drop _).take _
end
def cuD (l : List D) (lo hi : Option Int) : List D := (l.drop (HT.sIx l.length 0 lo)).take (HT.sIx l.length l.length hi - HT.sIx l.length 0 lo)
/-! whole numbers, texts -/
def gI (C : Int → Int → Prop) (h : Int → Int → D) : G2
  | .int i, .int j, Q => C i j ∧ Q (h i j)
  | _, _, _ => False
def gI0 (h : Int → Int → D) : G2
  | .int i, .int j, Q => Q (h i j)
  | _, _, _ => False
section
variable {K : PySem.W.Frag}
theorem od_i {C : Int → Int → Prop} {k : Int → Int → Int} : OpD K (rI C fun i j => .int (k i j)) (gI C fun i j => .int (k i j)) := fun ow H x y dx dy Q Qd rx ry hg hn => by
  cases dx <;> first | exact hg.elim | skip
  cases dy <;> first | exact hg.elim | skip
  exact ⟨_, _, rx.int, ry.int, hg.1, hn _ _ rs_int hg.2⟩
theorem od_i0 {k : Int → Int → Int} : OpD K (rI0 fun i j => .int (k i j)) (gI0 fun i j => .int (k i j)) := fun ow H x y dx dy Q Qd rx ry hg hn => by
  cases dx <;> first | exact hg.elim | skip
  cases dy <;> first | exact hg.elim | skip
  exact ⟨_, _, rx.int, ry.int, hn _ _ rs_int hg⟩
theorem od_b0 {k : Int → Int → Bool} : OpD K (rI0 fun i j => .bl (k i j)) (gI0 fun i j => .bl (k i j)) := fun ow H x y dx dy Q Qd rx ry hg hn => by
  cases dx <;> first | exact hg.elim | skip
  cases dy <;> first | exact hg.elim | skip
  exact ⟨_, _, rx.int, ry.int, hn _ _ rs_bl hg⟩
def gAddS : G2
  | .str a, .str b, Q => a.length + b.length ≤ sizeLine ∧ Q (.str (a ++ b))
  | _, _, _ => False
theorem od_addS : OpD K (fun x y H Q => ∃ i j, x = .str i ∧ y = .str j ∧ i.length + j.length ≤ sizeLine ∧ Q (.str (i ++ j)) H) gAddS := fun ow H x y dx dy Q Qd rx ry hg hn => by
  cases dx <;> first | exact hg.elim | skip
  cases dy <;> first | exact hg.elim | skip
  exact ⟨_, _, rx.str, ry.str, hg.1, hn _ _ rs_str hg.2⟩
def gS (p : Str → Str → Bool) : G2
  | .str a, .str b, Q => Q (.bl (p a b))
  | _, _, _ => False
theorem od_s {p : Str → Str → Bool} : OpD K (fun x y H Q => ∃ i j, x = .str i ∧ y = .str j ∧ Q (.bl (p i j)) H) (gS p) := fun ow H x y dx dy Q Qd rx ry hg hn => by
  cases dx <;> first | exact hg.elim | skip
  cases dy <;> first | exact hg.elim | skip
  exact ⟨_, _, rx.str, ry.str, hn _ _ rs_bl hg⟩
def gSg (p : Nat → Str → Bool) : G2
  | .str a, .str b, Q => ∃ c, a = ⟨#[c]⟩ ∧ Q (.bl (p c b))
  | _, _, _ => False
theorem od_sg {p : Nat → Str → Bool} : OpD K (fun x y H Q => ∃ (c : Nat) (z : Str), x = .str ⟨#[c]⟩ ∧ y = .str z ∧ Q (.bl (p c z)) H) (gSg p) := fun ow H x y dx dy Q Qd rx ry hg hn => by
  cases dx <;> first | exact hg.elim | skip
  cases dy <;> first | exact hg.elim | skip
  obtain ⟨c, rfl, q⟩ := hg
  exact ⟨c, _, rx.str, ry.str, hn _ _ rs_bl q⟩
/-! ==, !=, is None -/
def scalD (x y : D) : Bool := isSc x && isSc y && scal (scV x) (scV y)
def eqD : D → D → Bool
  | .non, .non => true
  | .bl a, .bl b => decide (a = b)
  | .int a, .int b => decide (a = b)
  | .str a, .str b => decide (a = b)
  | _, _ => false
def gEq : G2 := fun x y Q => scalD x y = true ∧ Q (.bl (eqD x y))
def gNe : G2 := fun x y Q => scalD x y = true ∧ Q (.bl (!eqD x y))
theorem eqD_dec {x y : D} (h : scalD x y = true) : decide (scV x = scV y) = eqD x y := by
  unfold scalD at h
  rw [Bool.and_eq_true, Bool.and_eq_true] at h
  cases x <;> first | (simp [isSc] at h; done) | skip
  all_goals (cases y <;> first | (simp [isSc] at h; done) | simp [scV, eqD])
theorem od_eq : OpD K rEq gEq := fun ow H x y dx dy Q Qd rx ry hg hn => by
  obtain ⟨h, q⟩ := hg
  have z := h
  unfold scalD at z
  rw [Bool.and_eq_true, Bool.and_eq_true] at z
  rw [rx.sc z.1.1, ry.sc z.1.2]
  exact ⟨z.2, by rw [eqD_dec h]; exact hn _ _ rs_bl q⟩
theorem od_ne : OpD K rNe gNe := fun ow H x y dx dy Q Qd rx ry hg hn => by
  obtain ⟨h, q⟩ := hg
  have z := h
  unfold scalD at z
  rw [Bool.and_eq_true, Bool.and_eq_true] at z
  rw [rx.sc z.1.1, ry.sc z.1.2]
  exact ⟨z.2, by rw [eqD_dec h]; exact hn _ _ rs_bl q⟩
def isNon : D → Bool
  | .non => true
  | _ => false
theorem RB.isNon {ow : Addr → Prop} {H : Hp} {d : D} {x : V} (h : RB K ow H d x) : decide (x = .non) = VL.isNon d := by
  cases d with
  | non => rw [h.non]; rfl
  | bl b => rw [h.bl]; rfl
  | int i => rw [h.int]; rfl
  | str z => rw [h.str]; rfl
  | tup l => obtain ⟨a, vs, rfl, _⟩ := h.tup; rfl
  | lst l => obtain ⟨a, vs, rfl, _⟩ := h.lst; rfl
  | dct ks l => obtain ⟨a, vs, rfl, _⟩ := h.dct; rfl
  | obj C fs l =>
    obtain ⟨a, dx, vs, rfl, _⟩ := h
    rfl
  | ref a =>
    have z : x = .ref a := by simpa only [RB, RS] using h
    rw [z]; rfl
  | mem as l =>
    simp only [RB, RS] at h
  | nd P w t ks l =>
    obtain ⟨a, vs, rfl, _⟩ := h
    rfl
def gIsN : G2
  | x, .non, Q => Q (.bl (isNon x))
  | _, _, _ => False
def gNotN : G2
  | x, .non, Q => Q (.bl (!isNon x))
  | _, _, _ => False
theorem od_isN : OpD K (fun x y H Q => y = .non ∧ Q (.bl (decide (x = .non))) H) gIsN := fun ow H x y dx dy Q Qd rx ry hg hn => by
  cases dy <;> first | (simp [gIsN] at hg; done) | skip
  exact ⟨ry.non, by rw [rx.isNon]; exact hn _ _ rs_bl (by simpa only [gIsN] using hg)⟩
theorem od_notN : OpD K (fun x y H Q => y = .non ∧ Q (.bl (!decide (x = .non))) H) gNotN := fun ow H x y dx dy Q Qd rx ry hg hn => by
  cases dy <;> first | (simp [gNotN] at hg; done) | skip
  exact ⟨ry.non, by rw [rx.isNon]; exact hn _ _ rs_bl (by simpa only [gNotN] using hg)⟩
/-! items -/
def gIxL : G2
  | .lst l, .int i, Q => ∃ d, atI l i = some d ∧ Q d
  | _, _, _ => False
def gIxT : G2
  | .tup l, .int i, Q => ∃ d, atI l i = some d ∧ Q d
  | _, _, _ => False
def gIxS : G2
  | .str z, .int i, Q => z.length ≤ sizeLine ∧ ∃ c, atI z.cps.toList i = some c ∧ Q (.str ⟨#[c]⟩)
  | _, _, _ => False
theorem od_ixL : OpD K (rIxL K) gIxL := fun ow H x y dx dy Q Qd rx ry hg hn => by
  cases dx <;> first | exact hg.elim | skip
  cases dy <;> first | exact hg.elim | skip
  obtain ⟨d, e, q⟩ := hg
  obtain ⟨a, vs, rfl, s, r⟩ := rx.lst
  obtain ⟨v, ev, rv⟩ := r.at e
  exact ⟨a, vs, _, v, rfl, ry.int, s.sq, ev, hn _ _ rv q⟩
theorem od_ixT : OpD K (rIxT K) gIxT := fun ow H x y dx dy Q Qd rx ry hg hn => by
  cases dx <;> first | exact hg.elim | skip
  cases dy <;> first | exact hg.elim | skip
  obtain ⟨d, e, q⟩ := hg
  obtain ⟨a, vs, rfl, s, r⟩ := rx.tup
  obtain ⟨v, ev, rv⟩ := r.at e
  exact ⟨a, vs, _, v, rfl, ry.int, s, ev, hn _ _ rv q⟩
theorem od_ixS : OpD K rIxS gIxS := fun ow H x y dx dy Q Qd rx ry hg hn => by
  cases dx <;> first | exact hg.elim | skip
  cases dy <;> first | exact hg.elim | skip
  obtain ⟨hz, c, e, q⟩ := hg
  exact ⟨_, _, c, rx.str, ry.int, hz, e, hn _ _ rs_str q⟩
/-! in, of flat things -/
def gIn (neg : Bool) : G2
  | x, .lst l, Q => isSc x = true ∧ l.all isSc = true ∧ Q (.bl (if neg then !inV (scV x) (l.map scV) else inV (scV x) (l.map scV)))
  | x, .tup l, Q => isSc x = true ∧ l.all isSc = true ∧ Q (.bl (if neg then !inV (scV x) (l.map scV) else inV (scV x) (l.map scV)))
  | _, _, _ => False
theorem flat_sc (d : D) : flatV (scV d) = true := by cases d <;> rfl
theorem flats_sc (l : List D) : (l.map scV).all flatV = true := by
  rw [List.all_eq_true]
  intro v hv
  obtain ⟨d, _, rfl⟩ := List.mem_map.mp hv
  exact flat_sc d
theorem od_in {neg : Bool} : OpD K (rIn K neg) (gIn neg) := fun ow H x y dx dy Q Qd rx ry hg hn => by
  cases dy <;> first | (simp only [gIn] at hg; done) | skip
  · simp only [gIn] at hg
    obtain ⟨h1, h2, q⟩ := hg
    obtain ⟨a, vs, rfl, s, r⟩ := ry.tup
    have e := r.sc h2
    subst e
    rw [rx.sc h1]
    exact ⟨a, _, rfl, .inr s, flat_sc _, flats_sc _, hn _ _ rs_bl q⟩
  · simp only [gIn] at hg
    obtain ⟨h1, h2, q⟩ := hg
    obtain ⟨a, vs, rfl, s, r⟩ := ry.lst
    have e := r.sc h2
    subst e
    rw [rx.sc h1]
    exact ⟨a, _, rfl, .inl s.sq, flat_sc _, flats_sc _, hn _ _ rs_bl q⟩
/-! lists, tuples put together, cut -/
def gCat : G2L
  | .lst a, .lst b, Q => a.length + b.length ≤ sizeLine ∧ Q (a ++ b)
  | _, _, _ => False
theorem ol_cat : OpL K (rCatR K) gCat := fun ow H x y dx dy Q Qd rx ry hg hn => by
  cases dx <;> first | exact hg.elim | skip
  cases dy <;> first | exact hg.elim | skip
  obtain ⟨a, vs, rfl, s, r⟩ := rx.lst
  obtain ⟨b, ws, rfl, s2, r2⟩ := ry.lst
  exact ⟨a, b, vs, ws, rfl, rfl, s, s2, by rw [r.len, r2.len]; exact hg.1, fun p hp => hn _ _ p (RSs.app r2 r) hg.2 hp⟩
def gCatT : G2L
  | .tup a, .tup b, Q => a.length + b.length ≤ sizeLine ∧ Q (a ++ b)
  | _, _, _ => False
theorem ot_cat : OpT K (rCatU K) gCatT := fun ow H x y dx dy Q Qd rx ry hg hn => by
  cases dx <;> first | exact hg.elim | skip
  cases dy <;> first | exact hg.elim | skip
  obtain ⟨a, vs, rfl, s, r⟩ := rx.tup
  obtain ⟨b, ws, rfl, s2, r2⟩ := ry.tup
  exact ⟨a, b, vs, ws, rfl, rfl, s, s2, by rw [r.len, r2.len]; exact hg.1, fun p H' sq sm => hn _ _ p H' (RSs.app r2 r) hg.2 sm sq⟩
def gSlL : D → Option Int → Option Int → (List D → Prop) → Prop
  | .lst l, lo, hi, Q => Q (cuD l lo hi)
  | _, _, _, _ => False
def gSlT : D → Option Int → Option Int → (List D → Prop) → Prop
  | .tup l, lo, hi, Q => Q (cuD l lo hi)
  | _, _, _, _ => False
def gSlS : D → Option Int → Option Int → (D → Prop) → Prop
  | .str z, lo, hi, Q => z.length ≤ sizeLine ∧ Q (.str (cutS z lo hi))
  | _, _, _, _ => False
theorem ol_sl : SlL K (rSlL K) gSlL := fun ow H x dx lo hi Q Qd rx hg hn => by
  cases dx <;> first | exact hg.elim | skip
  obtain ⟨a, vs, rfl, s, r⟩ := rx.lst
  exact ⟨a, vs, rfl, s.sq, fun p hp => hn _ _ p (r.cut lo hi) hg hp⟩
theorem ot_sl : SlT K (rSlU K) gSlT := fun ow H x dx lo hi Q Qd rx hg hn => by
  cases dx <;> first | exact hg.elim | skip
  obtain ⟨a, vs, rfl, s, r⟩ := rx.tup
  exact ⟨a, vs, rfl, s, fun p H' sq sm => hn _ _ p H' (r.cut lo hi) hg sm sq⟩
theorem od_sl : SlD K rSlS gSlS := fun ow H x dx lo hi Q Qd rx hg hn => by
  cases dx <;> first | exact hg.elim | skip
  exact ⟨_, rx.str, hg.1, hn _ _ rs_str hg.2⟩
/-! data of any depth -/
mutual
def py : D → PyData
  | .non => .none
  | .bl b => .bool b
  | .int i => .int i
  | .str s => .str s
  | .tup l => .tuple (pys l)
  | .lst l => .list (pys l)
  | .dct _ _ => .none
  | .obj _ _ _ => .none
  | .ref _ => .none
  | .mem _ _ => .none
  | .nd _ _ _ _ _ => .none
def pys : List D → List PyData
  | [] => []
  | d :: ds => py d :: pys ds
end
mutual
def plain : D → Bool
  | .tup l => plains l
  | .lst l => plains l
  | .dct _ _ => false
  | .obj _ _ _ => false
  | .ref _ => false
  | .mem _ _ => false
  | .nd _ _ _ _ _ => false
  | _ => true
def plains : List D → Bool
  | [] => true
  | d :: ds => plain d && plains ds
end
theorem pys_map : ∀ l : List D, pys l = l.map py
  | [] => by rw [pys]; rfl
  | d :: r => by rw [pys, pys_map r]; rfl
mutual
theorem RS.dp {ow : Addr → Prop} {H : Hp} : ∀ (d : D) (v : V), RS K ow H d v → plain d = true → Dp K H v (py d)
  | .non, _, h, _ => by simp only [RS] at h; rw [h, py]; exact .non
  | .bl b, _, h, _ => by simp only [RS] at h; rw [h, py]; exact .bl b
  | .int i, _, h, _ => by simp only [RS] at h; rw [h, py]; exact .int i
  | .str s, _, h, _ => by simp only [RS] at h; rw [h, py]; exact .str s
  | .tup l, _, h, p => by
    simp only [RS] at h
    obtain ⟨a, vs, rfl, q, t⟩ := h
    rw [py]
    exact .tup q (RSs.dp l vs t (by simpa only [plain] using p))
  | .lst l, _, h, p => by
    simp only [RS] at h
    obtain ⟨a, vs, rfl, q, t⟩ := h
    rw [py]
    exact .lst q.sq (RSs.dp l vs t (by simpa only [plain] using p))
  | .dct _ _, _, _, p => by simp [plain] at p
  | .obj _ _ _, _, _, p => by simp [plain] at p
  | .ref _, _, _, p => by simp [plain] at p
  | .mem _ _, _, _, p => by simp [plain] at p
  | .nd _ _ _ _ _, _, _, p => by simp [plain] at p
theorem RSs.dp {ow : Addr → Prop} {H : Hp} : ∀ (ds : List D) (vs : List V), RSs K ow H ds vs → plains ds = true → DpAll K H vs (pys ds)
  | [], _, h, _ => by simp only [RSs] at h; rw [h, pys]; exact .nil
  | d :: ds, _, h, p => by
    simp only [RSs] at h
    obtain ⟨v, r, rfl, h, t⟩ := h
    simp only [plains, Bool.and_eq_true] at p
    rw [pys]
    exact .cons (RS.dp d v h p.1) (RSs.dp ds r t p.2)
end
theorem RB.dp {ow : Addr → Prop} {H : Hp} {d : D} {v : V} (h : RB K ow H d v) (p : plain d = true) : Dp K H v (py d) := by
  cases d with
  | lst l =>
    obtain ⟨a, vs, rfl, s, r⟩ := h.lst
    rw [py]
    exact .lst s.sq (RSs.dp l vs r (by simpa only [plain] using p))
  | dct ks l => simp [plain] at p
  | obj C fs l => simp [plain] at p
  | ref a => simp [plain] at p
  | mem as l => simp [plain] at p
  | nd P w t ks l => simp [plain] at p
  | non => exact RS.dp _ _ (by simpa only [RB] using h) p
  | bl b => exact RS.dp _ _ (by simpa only [RB] using h) p
  | int i => exact RS.dp _ _ (by simpa only [RB] using h) p
  | str z => exact RS.dp _ _ (by simpa only [RB] using h) p
  | tup l => exact RS.dp _ _ (by simpa only [RB] using h) p
def gEqD : G2 := fun x y Q => plain x = true ∧ plain y = true ∧ SeqAt.shaped (py x) = true ∧ SeqAt.shaped (py y) = true ∧ Q (.bl (PyData.eqv (py x) (py y)))
def gNeD : G2 := fun x y Q => plain x = true ∧ plain y = true ∧ SeqAt.shaped (py x) = true ∧ SeqAt.shaped (py y) = true ∧ Q (.bl (!PyData.eqv (py x) (py y)))
theorem od_eqD : OpD K (rEqD K) gEqD := fun ow H x y dx dy Q Qd rx ry ⟨h1, h2, h3, h4, q⟩ hn => ⟨_, _, rx.dp h1, ry.dp h2, h3, h4, hn _ _ rs_bl q⟩
theorem od_neD : OpD K (rNeD K) gNeD := fun ow H x y dx dy Q Qd rx ry ⟨h1, h2, h3, h4, q⟩ hn => ⟨_, _, rx.dp h1, ry.dp h2, h3, h4, hn _ _ rs_bl q⟩
def gInD (neg : Bool) : G2
  | x, .lst l, Q => plain x = true ∧ plains l = true ∧ SeqAt.shaped (py x) = true ∧ SeqAt.shaped (.list (pys l)) = true ∧ Q (.bl (if neg then !(pys l).any fun z => PyData.eqv z (py x) else (pys l).any fun z => PyData.eqv z (py x)))
  | _, _, _ => False
theorem od_inD : OpD K (rInD K) (gInD false) := fun ow H x y dx dy Q Qd rx ry hg hn => by
  cases dy <;> first | (simp only [gInD] at hg; done) | skip
  simp only [gInD] at hg
  obtain ⟨h1, h2, h3, h4, q⟩ := hg
  have z := ry.dp (by simpa only [plain] using h2)
  rw [py] at z
  exact ⟨_, _, rx.dp h1, z, h3, h4, hn _ _ rs_bl q⟩
theorem od_notInD : OpD K (rNotInD K) (gInD true) := fun ow H x y dx dy Q Qd rx ry hg hn => by
  cases dy <;> first | (simp only [gInD] at hg; done) | skip
  simp only [gInD] at hg
  obtain ⟨h1, h2, h3, h4, q⟩ := hg
  have z := ry.dp (by simpa only [plain] using h2)
  rw [py] at z
  exact ⟨_, _, rx.dp h1, z, h3, h4, hn _ _ rs_bl q⟩
/-! calls of builtins -/
def gLen : GA
  | [.lst l], Q => Q (.int l.length)
  | [.tup l], Q => Q (.int l.length)
  | _, _ => False
theorem pr1 {α β : Type} {F : α → β → Prop} {x : α} {ys : List β} (h : Paired F [x] ys) : ∃ y, ys = [y] ∧ F x y := by
  cases h with
  | cons a t => cases t; exact ⟨_, rfl, a⟩
theorem pr2 {α β : Type} {F : α → β → Prop} {x1 x2 : α} {ys : List β} (h : Paired F [x1, x2] ys) : ∃ y1 y2, ys = [y1, y2] ∧ F x1 y1 ∧ F x2 y2 := by
  cases h with
  | cons a t =>
    obtain ⟨y, rfl, b⟩ := pr1 t
    exact ⟨_, _, rfl, a, b⟩
theorem cd_len : CaD K (fun xs H Q => ∃ p ys, xs = [.ref p] ∧ (SqL K H p ys ∨ SqT K H p ys) ∧ Q (.int ys.length) H) gLen := fun ow H vs ds Q Qd rs hg hn => by
  unfold gLen at hg
  split at hg
  · obtain ⟨v, rfl, r⟩ := pr1 rs
    obtain ⟨a, ws, rfl, s, t⟩ := r.lst
    exact ⟨a, ws, rfl, .inl s.sq, hn _ _ (by rw [t.len]; exact rs_int) hg⟩
  · obtain ⟨v, rfl, r⟩ := pr1 rs
    obtain ⟨a, ws, rfl, s, t⟩ := r.tup
    exact ⟨a, ws, rfl, .inr s, hn _ _ (by rw [t.len]; exact rs_int) hg⟩
  · exact hg.elim
def gLenS : GA
  | [.str z], Q => z.length ≤ sizeLine ∧ Q (.int z.length)
  | _, _ => False
theorem cd_lenS : CaD K (fun xs H Q => ∃ z, xs = [.str z] ∧ z.length ≤ sizeLine ∧ Q (.int z.length) H) gLenS := fun ow H vs ds Q Qd rs hg hn => by
  unfold gLenS at hg
  split at hg
  · obtain ⟨v, rfl, r⟩ := pr1 rs
    exact ⟨_, by rw [r.str], hg.1, hn _ _ rs_int hg.2⟩
  · exact hg.elim
def gSum : GA
  | [.lst l], Q => ∃ ns : List Int, l = ns.map D.int ∧ Q (.int ns.sum)
  | _, _ => False
theorem ints_sc (ns : List Int) : (ns.map D.int).all isSc = true := by
  rw [List.all_eq_true]
  intro d hd
  obtain ⟨n, _, rfl⟩ := List.mem_map.mp hd
  rfl
theorem RSs.ints {ow : Addr → Prop} {H : Hp} {ns : List Int} {vs : List V} (h : RSs K ow H (ns.map D.int) vs) : vs = ns.map V.int := by
  rw [h.sc (ints_sc ns), List.map_map]
  rfl
theorem cd_sum : CaD K (rSum K) gSum := fun ow H vs ds Q Qd rs hg hn => by
  unfold gSum at hg
  split at hg
  · obtain ⟨ns, rfl, q⟩ := hg
    obtain ⟨v, rfl, r⟩ := pr1 rs
    obtain ⟨a, ws, rfl, s, t⟩ := r.lst
    have e := t.ints
    subst e
    exact ⟨a, ns, rfl, s.sq, hn _ _ rs_int q⟩
  · exact hg.elim
def gI1 (h : Int → D) : GA
  | [.int i], Q => Q (h i)
  | _, _ => False
def gI2 (h : Int → Int → D) : GA
  | [.int i, .int j], Q => Q (h i j)
  | _, _ => False
theorem cd_i2 {k : Int → Int → Int} : CaD K (fun xs H Q => ∃ i j, xs = [.int i, .int j] ∧ Q (.int (k i j)) H) (gI2 fun i j => .int (k i j)) := fun ow H vs ds Q Qd rs hg hn => by
  unfold gI2 at hg
  split at hg
  · obtain ⟨v, w, rfl, r1, r2⟩ := pr2 rs
    exact ⟨_, _, by rw [r1.int, r2.int], hn _ _ rs_int hg⟩
  · exact hg.elim
def gInt1 : GA
  | [.int i], Q => Q (.int i)
  | [.bl b], Q => Q (.int (if b then 1 else 0))
  | _, _ => False
theorem cd_int1 : CaD K (fun xs H Q => (∃ i, xs = [.int i] ∧ Q (.int i) H) ∨ ∃ k, xs = [.bl k] ∧ Q (.int (if k then 1 else 0)) H) gInt1 := fun ow H vs ds Q Qd rs hg hn => by
  unfold gInt1 at hg
  split at hg
  · obtain ⟨v, rfl, r⟩ := pr1 rs
    exact .inl ⟨_, by rw [r.int], hn _ _ rs_int hg⟩
  · obtain ⟨v, rfl, r⟩ := pr1 rs
    exact .inr ⟨_, by rw [r.bl], hn _ _ rs_int hg⟩
  · exact hg.elim
def gStrI : GA
  | [.int i], Q => i.natAbs.log2 < 1920 ∧ Q (.str (toString i))
  | _, _ => False
theorem cd_strI : CaD K (fun xs H Q => ∃ i, xs = [.int i] ∧ i.natAbs.log2 < 1920 ∧ Q (.str (toString i)) H) gStrI := fun ow H vs ds Q Qd rs hg hn => by
  unfold gStrI at hg
  split at hg
  · obtain ⟨v, rfl, r⟩ := pr1 rs
    exact ⟨_, by rw [r.int], hg.1, hn _ _ rs_str hg.2⟩
  · exact hg.elim
def gAll : GA
  | [.lst l], Q => ∃ bs : List Bool, l = bs.map D.bl ∧ Q (.bl (bs.all id))
  | _, _ => False
theorem RSs.bls {ow : Addr → Prop} {H : Hp} {bs : List Bool} {vs : List V} (h : RSs K ow H (bs.map D.bl) vs) : vs = bs.map V.bl := by
  rw [h.sc (by
    rw [List.all_eq_true]
    intro d hd
    obtain ⟨n, _, rfl⟩ := List.mem_map.mp hd
    rfl), List.map_map]
  rfl
theorem cd_all : CaD K (rAll K) gAll := fun ow H vs ds Q Qd rs hg hn => by
  unfold gAll at hg
  split at hg
  · obtain ⟨bs, rfl, q⟩ := hg
    obtain ⟨v, rfl, r⟩ := pr1 rs
    obtain ⟨a, ws, rfl, s, t⟩ := r.lst
    have e := t.bls
    subst e
    exact ⟨a, bs, rfl, s.sq, hn _ _ rs_bl q⟩
  · exact hg.elim
def gRepr : GA
  | [d], Q => ((∃ l, d = .lst l) ∨ ∃ l, d = .tup l) ∧ plain d = true ∧ (py d).showable = true ∧ (py d).hasDict = false ∧ (py d).depth ≤ 60 ∧ (py d).shown.length ≤ sizeLine ∧ Q (.str (py d).shown)
  | _, _ => False
theorem cd_repr : CaD K (Fb.rReprD K) gRepr := fun ow H vs ds Q Qd rs hg hn => by
  unfold gRepr at hg
  split at hg
  · obtain ⟨h0, h1, h2, h3, h4, h5, q⟩ := hg
    obtain ⟨v, rfl, r⟩ := pr1 rs
    have z := r.dp h1
    have ev : ∃ a, v = .ref a := by
      rcases h0 with ⟨l, rfl⟩ | ⟨l, rfl⟩
      · obtain ⟨a, _, e, _⟩ := r.lst; exact ⟨a, e⟩
      · obtain ⟨a, _, e, _⟩ := r.tup; exact ⟨a, e⟩
    obtain ⟨a, rfl⟩ := ev
    exact ⟨a, _, rfl, z, h2, h3, h4, h5, hn _ _ rs_str q⟩
  · exact hg.elim
def gSeq : GAL
  | [.lst l], Q => Q l
  | [.tup l], Q => Q l
  | _, _ => False
theorem cl_list : CaL K (fun xs H Q => ∃ p ys, xs = [.ref p] ∧ (SqL K H p ys ∨ SqT K H p ys) ∧ ∀ l, H l = none → Q (.ref l) (upd H l (.lst ys))) gSeq := fun ow H vs ds Q Qd rs hg hn => by
  unfold gSeq at hg
  split at hg
  · obtain ⟨v, rfl, r⟩ := pr1 rs
    obtain ⟨a, ws, rfl, s, t⟩ := r.lst
    exact ⟨a, ws, rfl, .inl s.sq, fun l hl => hn _ _ l t hg hl⟩
  · obtain ⟨v, rfl, r⟩ := pr1 rs
    obtain ⟨a, ws, rfl, s, t⟩ := r.tup
    exact ⟨a, ws, rfl, .inr s, fun l hl => hn _ _ l t hg hl⟩
  · exact hg.elim
theorem ct_tuple : CaT K (fun xs H Q => ∃ p ys, xs = [.ref p] ∧ ((SqL K H p ys ∧ ∀ l, H l = none → Q (.ref l) (upd H l (.tup ys))) ∨ (SqT K H p ys ∧ Q (.ref p) H))) gSeq := fun ow H vs ds Q Qd rs hg hn => by
  unfold gSeq at hg
  split at hg
  · obtain ⟨v, rfl, r⟩ := pr1 rs
    obtain ⟨a, ws, rfl, s, t⟩ := r.lst
    exact ⟨a, ws, rfl, .inl ⟨s.sq, fun l hl => hn _ _ l _ t hg (same_new hl) (SqT.of upd_same)⟩⟩
  · obtain ⟨v, rfl, r⟩ := pr1 rs
    obtain ⟨a, ws, rfl, s, t⟩ := r.tup
    exact ⟨a, ws, rfl, .inr ⟨s, hn _ _ a H t hg (fun _ _ e => e) s⟩⟩
  · exact hg.elim
end
end VL
set_option Elab.async false
set_option linter.all false
set_option maxRecDepth 100000
set_option maxHeartbeats 2000000
namespace VL
open PySem PySem.Spec PyProof.Rows L2
/-! ### statements -/
structure Ln (c : Vc) (W : XW) (rsh : Sh) (T : List Tm) (D : Ends) (Dv : VEnds) : Prop where
  nx : ∀ σ e H, R c T σ e H → Dv.nx e → D.nx σ H
  rt : ∀ v d σ e H, R c ((rsh, v, d) :: T) σ e H → Dv.rt d e → D.rt v H
  bk : ∀ σ e H, R c T σ e H → Dv.bk e → D.bk σ H
  ct : ∀ σ e H, R c T σ e H → Dv.ct e → D.ct σ H
  ex : ∀ x d σ e H, R c T σ e H → XAt H x d → Dv.ex x e → W (.ref x.C) d σ H
def VS (c : Vc) (W : XW) (rsh : Sh) (ts : TS) (f : VTS) : Prop := ∀ (T : List Tm) (σ : L2.St) (e : Env) (H : Hp) (D : Ends) (Dv : VEnds), R c T σ e H → f Dv e → Ln c W rsh T D Dv → ts D σ H
section
variable {c : Vc} {W : XW} {m : Md} {rsh : Sh} {t u : TS} {f g : VTS} {te : TE} {fe : VT} {tt : TT} {ft : VTB}
def vSeq (f g : VTS) : VTS := fun D e => f { D with nx := g D } e
theorem vs_seq (h1 : VS c W rsh t f) (h2 : VS c W rsh u g) : VS c W rsh (tSeq t u) (vSeq f g) := fun T σ e H D Dv hR hf L =>
  h1 T σ e H _ { Dv with nx := g Dv } hR hf ⟨fun σ' e' H' r q => h2 T σ' e' H' D Dv r q L, L.rt, L.bk, L.ct, L.ex⟩
def vNext : VTS := fun D e => D.nx e
theorem vs_next : VS c W rsh tNext vNext := fun T σ e H D Dv hR hf L => L.nx σ e H hR hf
def vBreak : VTS := fun D e => D.bk e
def vCont : VTS := fun D e => D.ct e
theorem vs_break : VS c W rsh tBreak vBreak := fun T σ e H D Dv hR hf L => L.bk σ e H hR hf
theorem vs_cont : VS c W rsh tCont vCont := fun T σ e H D Dv hR hf L => L.ct σ e H hR hf
def vSet (i : Nat) (fe : VT) : VTS := fun D e => fe e (fun d e1 => D.nx (e1.set i (some d))) D.ex
theorem vs_set {i : Nat} {sh : Sh} (h : VE c W .e te sh fe) (hM : c.M[i]? = some sh) (hr : ∀ p ∈ c.rt, p.1 ≠ i) : VS c W rsh (tAsg te (gName i)) (vSet i fe) := fun T σ e H D Dv hR hf L =>
  h T σ e H _ _ Dv.ex hR hf (fun v d e1 H1 R1 _ q => L.nx _ _ H1 (R1.set hM hr) q) (fun x d e' H' r y q => L.ex x d σ e' H' r y q)
def vRet (fe : VT) : VTS := fun D e => fe e D.rt D.ex
theorem vs_ret (h : VE c W .e te rsh fe) : VS c W rsh (tRet te) (vRet fe) := fun T σ e H D Dv hR hf L =>
  h T σ e H _ _ Dv.ex hR hf (fun v d e1 H1 R1 _ q => L.rt v d σ e1 H1 R1 q) (fun x d e' H' r y q => L.ex x d σ e' H' r y q)
def vRetN : VTS := fun D e => D.rt .non e
theorem vs_retN : VS c W .s tRetN vRetN := fun T σ e H D Dv ⟨fT, fV, hR⟩ hf L => L.rt .non .non σ e H ⟨fT, fV, hR.pushS rs_non⟩ hf
def vDrop (fe : VT) : VTS := fun D e => fe e (fun _ e1 => D.nx e1) D.ex
theorem vs_drop {sh : Sh} (h : VE c W .e te sh fe) : VS c W rsh (tDrop te) (vDrop fe) := fun T σ e H D Dv hR hf L =>
  h T σ e H _ _ Dv.ex hR hf (fun v d e1 H1 R1 _ q => L.nx σ e1 H1 R1.pop q) (fun x d e' H' r y q => L.ex x d σ e' H' r y q)
def vIfS (ft : VTB) (f g : VTS) : VTS := fun D e => ft e (fun b e1 => if b = true then f D e1 else g D e1) D.ex
theorem vs_if (h : VBt c W .e tt ft) (h1 : VS c W rsh t f) (h2 : VS c W rsh u g) : VS c W rsh (tIfS tt t u) (vIfS ft f g) := fun T σ e H D Dv hR hf L =>
  h T σ e H _ _ Dv.ex hR hf (fun b e1 H1 R1 _ q => by
    cases b with
    | true => exact h1 T σ e1 H1 D Dv R1 q L
    | false => exact h2 T σ e1 H1 D Dv R1 q L) (fun x d e' H' r y q => L.ex x d σ e' H' r y q)
/-! while -/
def vWhileN (ft : VTB) (f : VTS) (D : VEnds) : Nat → Env → Prop
  | 0, _ => False
  | n + 1, e => ft e (fun b e1 => if b = true then f { D with nx := vWhileN ft f D n, ct := vWhileN ft f D n, bk := D.nx } e1 else D.nx e1) D.ex
def vWhile (ft : VTB) (f : VTS) : VTS := fun D e => ∃ n, vWhileN ft f D n e
theorem vs_while (h : VBt c W .e tt ft) (h1 : VS c W rsh t f) : VS c W rsh (tWhile tt t) (vWhile ft f) := fun T σ e H D Dv hR ⟨n, hn⟩ L => by
  refine ⟨fun k σ' H' => ∃ e', R c T σ' e' H' ∧ vWhileN ft f Dv k e', ⟨n, e, hR, hn⟩, ?_⟩
  rintro k σ1 H1 ⟨e1, R1, q1⟩
  cases k with
  | zero => exact q1.elim
  | succ k =>
    refine h T σ1 e1 H1 _ _ Dv.ex R1 q1 (fun b e2 H2 R2 _ q2 => ?_) (fun x d e' H' r y q => L.ex x d σ1 e' H' r y q)
    cases b with
    | false => exact L.nx σ1 e2 H2 R2 q2
    | true =>
      have nxt : ∀ σ' e' H', R c T σ' e' H' → vWhileN ft f Dv k e' → ∃ e', R c T σ' e' H' ∧ vWhileN ft f Dv k e' := fun σ' e' H' r q => ⟨e', r, q⟩
      exact ⟨fun σ' H' => ∃ e', R c T σ' e' H' ∧ vWhileN ft f Dv k e', fun σ' H' z => ⟨k, Nat.lt_succ_self k, z⟩, h1 T σ1 e2 H2 _ { Dv with nx := vWhileN ft f Dv k, ct := vWhileN ft f Dv k, bk := Dv.nx } R2 q2 ⟨nxt, L.rt, L.nx, nxt, L.ex⟩⟩
/-! what is walked -/
theorem RX.mem {fT fV : List Addr} {σ : L2.St} {e : Env} {H : Hp} {t : Tm} : ∀ {T : List Tm}, RX c fT fV T σ e H → t ∈ T → t.1 = .s → RS c.K (owOf c fT fV) H t.2.2 t.2.1 := fun {T} h ht hs => by
  have z : ∀ (T : List Tm) (fp : List Addr), RT c.K (owOf c fT fV) H T fp → t ∈ T → RS c.K (owOf c fT fV) H t.2.2 t.2.1 := fun T => by
    induction T with
    | nil => intro fp _ q; cases q
    | cons t0 T ih =>
      rintro fp ⟨f1, f2, e1, h1, h2⟩ q
      rcases List.mem_cons.mp q with q | q
      · subst q
        rw [hs] at h1
        exact (RO_s.mp h1).2
      · exact ih f2 h2 q
  exact z T fT h.tm ht
structure ItOk (c : Vc) (J : It) (hs : List Tm) (ds : List D) : Prop where
  sh : ∀ t ∈ hs, t.1 = .s
  go : ∀ fT fV T σ e H i, RX c fT fV T σ e H → (∀ t ∈ hs, t ∈ T) → i < ds.length → J.go i H
  yld : ∀ fT fV T σ e H i x H', RX c fT fV T σ e H → (∀ t ∈ hs, t ∈ T) → i < ds.length → J.yld i H x H' → Same H H' ∧ ∃ d, ds[i]? = some d ∧ RS c.K (owOf c fT fV) H' d x
  stop : ∀ fT fV T σ e H i, RX c fT fV T σ e H → (∀ t ∈ hs, t ∈ T) → ds.length = i → J.stop i H
abbrev VTI := Env → (List D → Env → Prop) → QX → Prop
def VI (c : Vc) (W : XW) (m : Md) (wi : TI) (fi : VTI) : Prop := ∀ (T : List Tm) (σ : L2.St) (e : Env) (H : Hp) (Rk : It → Hp → Prop) (Qv : List D → Env → Prop) (Qx : QX), R c T σ e H → fi e Qv Qx →
  (∀ J hs ds e' H', ItOk c J hs ds → R c (hs ++ T) σ e' H' → Post m H H' e e' → Qv ds e' → Rk J H') → (∀ x d e' H', R c T σ e' H' → XAt H' x d → Qx x e' → W (.ref x.C) d σ H') → wi σ H Rk
def vLs (fe : VT) : VTI := fun e Q Qx => fe e (fun d e1 => ∃ l, d = .lst l ∧ Q l e1) Qx
def vTs (fe : VT) : VTI := fun e Q Qx => fe e (fun d e1 => ∃ l, d = .tup l ∧ Q l e1) Qx
theorem vi_list (h : VE c W m te .s fe) : VI c W m (iList c.K te) (vLs fe) := fun T σ e H Rk Qv Qx hR hf hn hx =>
  h T σ e H _ _ Qx hR hf (fun v d e1 H1 R1 p ⟨l, hl, q⟩ => by
    subst hl
    have key : ∀ fT fV T σ e H, RX c fT fV T σ e H → (∀ t ∈ [((.s, v, .lst l) : Tm)], t ∈ T) → ∃ a vs, v = .ref a ∧ LsS c.K (owOf c fT fV) H a vs ∧ RSs c.K (owOf c fT fV) H l vs := fun fT fV T σ e H hX hm => by
      have r := hX.mem (hm _ List.mem_cons_self) rfl
      simpa only [RS] using r
    obtain ⟨fT, fV, hX⟩ := R1
    obtain ⟨a, vs, rfl, s, r⟩ := key fT fV _ σ e1 H1 hX (fun t z => by rw [List.mem_singleton.mp z]; exact List.mem_cons_self)
    refine ⟨a, rfl, ⟨vs, s.sq⟩, hn (Itl c.K a) [(.s, .ref a, .lst l)] l e1 H1 ⟨fun t z => by rw [List.mem_singleton.mp z], ?_, ?_, ?_⟩ ⟨fT, fV, hX⟩ p q⟩
    · intro fT fV T σ e H i hX hm hi
      obtain ⟨a', vs, ea, s, r⟩ := key fT fV T σ e H hX hm
      cases ea
      have : i < vs.length := by rw [r.len]; exact hi
      exact ⟨vs, _, s.sq, List.getElem?_eq_getElem this⟩
    · rintro fT fV T σ e H i x H' hX hm hi ⟨rfl, hx⟩
      obtain ⟨a', vs, ea, s, r⟩ := key fT fV T σ e H' hX hm
      cases ea
      obtain ⟨d, e1, e2⟩ := r.getV (hx vs s.sq)
      exact ⟨fun _ _ q => q, d, e1, e2⟩
    · intro fT fV T σ e H i hX hm hi
      obtain ⟨a', vs, ea, s, r⟩ := key fT fV T σ e H hX hm
      cases ea
      exact ⟨vs, s.sq, by rw [r.len]; exact Nat.le_of_eq hi⟩) hx
theorem vi_tup (h : VE c W m te .s fe) : VI c W m (iTup c.K te) (vTs fe) := fun T σ e H Rk Qv Qx hR hf hn hx =>
  h T σ e H _ _ Qx hR hf (fun v d e1 H1 R1 p ⟨l, hl, q⟩ => by
    subst hl
    have key : ∀ fT fV T σ e H, RX c fT fV T σ e H → (∀ t ∈ [((.s, v, .tup l) : Tm)], t ∈ T) → ∃ a vs, v = .ref a ∧ SqT c.K H a vs ∧ RSs c.K (owOf c fT fV) H l vs := fun fT fV T σ e H hX hm => by
      have r := hX.mem (hm _ List.mem_cons_self) rfl
      simpa only [RS] using r
    obtain ⟨fT, fV, hX⟩ := R1
    obtain ⟨a, vs, rfl, s, r⟩ := key fT fV _ σ e1 H1 hX (fun t z => by rw [List.mem_singleton.mp z]; exact List.mem_cons_self)
    refine ⟨a, rfl, ⟨vs, s⟩, hn (Itt c.K a) [(.s, .ref a, .tup l)] l e1 H1 ⟨fun t z => by rw [List.mem_singleton.mp z], ?_, ?_, ?_⟩ ⟨fT, fV, hX⟩ p q⟩
    · intro fT fV T σ e H i hX hm hi
      obtain ⟨a', vs, ea, s, r⟩ := key fT fV T σ e H hX hm
      cases ea
      have : i < vs.length := by rw [r.len]; exact hi
      exact ⟨vs, _, s, List.getElem?_eq_getElem this⟩
    · rintro fT fV T σ e H i x H' hX hm hi ⟨rfl, hx⟩
      obtain ⟨a', vs, ea, s, r⟩ := key fT fV T σ e H' hX hm
      cases ea
      obtain ⟨d, e1, e2⟩ := r.getV (hx vs s)
      exact ⟨fun _ _ q => q, d, e1, e2⟩
    · intro fT fV T σ e H i hX hm hi
      obtain ⟨a', vs, ea, s, r⟩ := key fT fV T σ e H hX hm
      cases ea
      exact ⟨vs, s, by rw [r.len]; exact Nat.le_of_eq hi⟩) hx
def rngD (lo : Int) (n : Nat) : List D := (List.range n).map fun i => D.int (lo + (i : Nat))
theorem it_rng {lo : Int} {n : Nat} : ItOk c (Itr lo n) [] (rngD lo n) := by
  have hl : (rngD lo n).length = n := by simp [rngD]
  refine ⟨fun t z => (by cases z), fun fT fV T σ e H i _ _ hi => (by rw [hl] at hi; exact hi), ?_, fun fT fV T σ e H i _ _ hi => (by rw [hl] at hi; exact Nat.le_of_eq hi)⟩
  rintro fT fV T σ e H i x H' _ _ hi ⟨rfl, rfl⟩
  rw [hl] at hi
  refine ⟨fun _ _ q => q, .int (lo + i), ?_, rs_int⟩
  unfold rngD
  rw [List.getElem?_map, List.getElem?_range hi]
  rfl
variable {tA : TA} {fA : VTA}
def vRng1 (fA : VTA) : VTI := fun e Q Qx => fA e (fun ds e1 => ∃ j : Int, ds = [.int j] ∧ -(2 ^ 62) ≤ j ∧ j < 2 ^ 62 ∧ Q (rngD 0 j.toNat) e1) Qx
def vRng2 (fA : VTA) : VTI := fun e Q Qx => fA e (fun ds e1 => ∃ i j : Int, ds = [.int i, .int j] ∧ (-(2 ^ 62) ≤ i ∧ i < 2 ^ 62 ∧ -(2 ^ 62) ≤ j ∧ j < 2 ^ 62) ∧ Q (rngD i (j - i).toNat) e1) Qx
theorem RSs.i1 {K : PySem.W.Frag} {ow : Addr → Prop} {H : Hp} {i : Int} {vs : List V} (h : RSs K ow H [.int i] vs) : vs = [.int i] := by
  simp only [RSs, RS] at h
  obtain ⟨v, r, rfl, rfl, rfl⟩ := h
  rfl
theorem RSs.i2 {K : PySem.W.Frag} {ow : Addr → Prop} {H : Hp} {i j : Int} {vs : List V} (h : RSs K ow H [.int i, .int j] vs) : vs = [.int i, .int j] := by
  simp only [RSs, RS] at h
  obtain ⟨v, r, rfl, rfl, v2, r2, rfl, rfl, rfl⟩ := h
  rfl
theorem vi_rng1 (h : VA c W m tA fA) : VI c W m (iRng1 tA) (vRng1 fA) := fun T σ e H Rk Qv Qx hR hf hn hx =>
  h T σ e H _ _ Qx hR hf (fun fT fV vs ds e1 H1 R1 rs p ⟨j, hj, h1, h2, q⟩ => by
    subst hj
    exact ⟨j, rs.i1, h1, h2, hn _ [] _ e1 H1 it_rng ⟨fT, fV, R1⟩ p q⟩) hx
theorem vi_rng2 (h : VA c W m tA fA) : VI c W m (iRng2 tA) (vRng2 fA) := fun T σ e H Rk Qv Qx hR hf hn hx =>
  h T σ e H _ _ Qx hR hf (fun fT fV vs ds e1 H1 R1 rs p ⟨i, j, hj, h1, q⟩ => by
    subst hj
    exact ⟨i, j, rs.i2, h1, hn _ [] _ e1 H1 it_rng ⟨fT, fV, R1⟩ p q⟩) hx
def sgD (z : Str) : List D := z.cps.toList.map fun k => D.str ⟨#[k]⟩
def vSgs (fe : VT) : VTI := fun e Q Qx => fe e (fun d e1 => ∃ z, d = .str z ∧ Q (sgD z) e1) Qx
theorem it_str {z : Str} : ItOk c (Its z) [] (sgD z) := by
  have hl : (sgD z).length = z.cps.size := by simp [sgD]
  refine ⟨fun t y => (by cases y), fun fT fV T σ e H i _ _ hi => (by rw [hl] at hi; exact hi), ?_, fun fT fV T σ e H i _ _ hi => (by rw [hl] at hi; exact Nat.le_of_eq hi)⟩
  rintro fT fV T σ e H i x H' _ _ hi ⟨rfl, k, hk, rfl⟩
  refine ⟨fun _ _ q => q, .str ⟨#[k]⟩, ?_, rs_str⟩
  unfold sgD
  rw [List.getElem?_map, Array.getElem?_toList, hk]
  rfl
theorem vi_str (h : VE c W m te .s fe) : VI c W m (iStr te) (vSgs fe) := fun T σ e H Rk Qv Qx hR hf hn hx =>
  h T σ e H _ _ Qx hR hf (fun v d e1 H1 R1 p ⟨z, hz, q⟩ => by
    subst hz
    obtain ⟨fT, fV, R1⟩ := R1
    obtain ⟨r, R1⟩ := R1.topS
    simp only [RS] at r
    exact ⟨z, r, hn _ [] _ e1 H1 it_str ⟨fT, fV, R1⟩ p q⟩) hx
/-! targets -/
abbrev VTG := D → Env → (Env → Prop) → Prop
abbrev VTGs := List D → Env → (Env → Prop) → Prop
def pushR : List V → List D → List Tm → List Tm
  | x :: xs, d :: ds, T => (.s, x, d) :: pushR xs ds T
  | _, _, T => T
def VG (c : Vc) (tg : TG) (own : List Nat) (vg : VTG) : Prop := ∀ (T : List Tm) (σ : L2.St) (e : Env) (H : Hp) (x : V) (d : D) (Q : L2.St → Hp → Prop) (Qv : Env → Prop), R c ((.s, x, d) :: T) σ e H → vg d e Qv →
  (∀ σ' e', R c T σ' e' H → (∀ vs : List Nat, (∀ i ∈ own, i ∈ vs) → wipe σ' vs = wipe σ vs) → Qv e' → Q σ' H) → tg x σ H Q
def VGs (c : Vc) (tg : TGs) (own : List Nat) (vg : VTGs) : Prop := ∀ (T : List Tm) (σ : L2.St) (e : Env) (H : Hp) (xs : List V) (ds : List D) (Q : L2.St → Hp → Prop) (Qv : Env → Prop), xs.length = ds.length → R c (pushR xs ds T) σ e H → vg ds e Qv →
  (∀ σ' e', R c T σ' e' H → (∀ vs : List Nat, (∀ i ∈ own, i ∈ vs) → wipe σ' vs = wipe σ vs) → Qv e' → Q σ' H) → tg xs σ H Q
theorem wipe_get {σ : L2.St} {j : Nat} : ∀ {vs : List Nat}, (wipe σ vs)[j]? = if j ∈ vs then (if j < σ.length then some none else none) else σ[j]?
  | [] => by simp [wipe]
  | v :: vs => by
    unfold wipe
    by_cases e : v = j
    · subst e
      by_cases hl : v < σ.length
      · rw [List.getElem?_set_self (by rw [wipe_length]; exact hl)]
        simp [hl]
      · rw [List.getElem?_eq_none (by rw [List.length_set, wipe_length]; omega)]
        simp [hl]
    · rw [List.getElem?_set_ne e, wipe_get (vs := vs)]
      have : (j ∈ v :: vs) ↔ j ∈ vs := by
        simp only [List.mem_cons]
        exact ⟨fun h => h.elim (fun q => absurd q.symm e) id, .inr⟩
      by_cases hj : j ∈ vs
      · rw [if_pos hj, if_pos (this.mpr hj)]
      · rw [if_neg hj, if_neg (fun z => hj (this.mp z))]
theorem wipe_set {σ : L2.St} {i : Nat} {x : Option V} {vs : List Nat} (h : i ∈ vs) : wipe (σ.set i x) vs = wipe σ vs := by
  apply List.ext_getElem?
  intro j
  rw [wipe_get, wipe_get, List.length_set]
  by_cases e : j ∈ vs
  · rw [if_pos e, if_pos e]
  · rw [if_neg e, if_neg e, List.getElem?_set_ne (fun z => e (by rw [← z]; exact h))]
def vgName (i : Nat) : VTG := fun d e Q => Q (e.set i (some d))
theorem vg_name {i : Nat} (hM : c.M[i]? = some .s) (hr : ∀ p ∈ c.rt, p.1 ≠ i) : VG c (gName i) [i] (vgName i) := fun T σ e H x d Q Qv hR hv hn => hn _ _ (hR.set hM hr) (fun vs h => wipe_set (h i List.mem_cons_self)) hv
def vgNil : VTGs := fun ds e Q => ds = [] ∧ Q e
def vgCons (a : VTG) (r : VTGs) : VTGs
  | d :: ds, e, Q => a d e fun e1 => r ds e1 Q
  | _, _, _ => False
variable {tg : TG} {vg : VTG} {tgs : TGs} {vgs : VTGs} {own own2 : List Nat}
theorem vg_nil : VGs c gNil [] vgNil := fun T σ e H xs ds Q Qv hl hR ⟨hd, hv⟩ hn => by
  subst hd
  cases xs with
  | nil => exact ⟨rfl, hn σ e hR (fun _ _ => rfl) hv⟩
  | cons x xs => cases hl
theorem vg_cons (ha : VG c tg own vg) (hs : VGs c tgs own2 vgs) : VGs c (gCons tg tgs) (own ++ own2) (vgCons vg vgs) := fun T σ e H xs ds Q Qv hl hR hv hn => by
  cases ds with
  | nil => exact hv.elim
  | cons d ds =>
    cases xs with
    | nil => cases hl
    | cons x xs =>
      refine ⟨x, xs, rfl, ha (pushR xs ds T) σ e H x d _ _ hR hv fun σ1 e1 R1 w1 q1 => hs T σ1 e1 H xs ds Q Qv (Nat.succ.inj hl) R1 q1 fun σ2 e2 R2 w2 q2 => hn σ2 e2 R2 (fun vs h => ?_) q2⟩
      rw [w2 vs (fun i z => h i (List.mem_append_right _ z)), w1 vs (fun i z => h i (List.mem_append_left _ z))]
def vgTup (n : Nat) (r : VTGs) : VTG
  | .tup l, e, Q => l.length = n ∧ r l e Q
  | _, _, _ => False
theorem RX.pushR {fT fV : List Addr} {T : List Tm} {σ : L2.St} {e : Env} {H : Hp} (h : RX c fT fV T σ e H) : ∀ {ds : List D} {xs : List V}, RSs c.K (owOf c fT fV) H ds xs → RX c fT fV (VL.pushR xs ds T) σ e H
  | [], _, r => by simp only [RSs] at r; rw [r]; exact h
  | d :: ds, _, r => by
    simp only [RSs] at r
    obtain ⟨v, w, rfl, r1, r2⟩ := r
    exact (RX.pushR h r2).pushS r1
theorem vg_tup {n : Nat} (hs : VGs c tgs own vgs) : VG c (gTup c.K n tgs) own (vgTup n vgs) := fun T σ e H x d Q Qv hR hv hn => by
  cases d <;> first | exact hv.elim | skip
  obtain ⟨fT, fV, hR⟩ := hR
  obtain ⟨r, hR2⟩ := hR.topS
  simp only [RS] at r
  obtain ⟨a, vs, ex, s, r⟩ := r
  exact ⟨a, vs, ex, s, by rw [r.len]; exact hv.1, hs T σ e H vs _ Q Qv r.len ⟨fT, fV, hR2.pushR r⟩ hv.2 hn⟩
def vAsg (fe : VT) (vg : VTG) : VTS := fun D e => fe e (fun d e1 => vg d e1 D.nx) D.ex
theorem vs_asg (h : VE c W .e te .s fe) (hg : VG c tg own vg) : VS c W rsh (tAsg te tg) (vAsg fe vg) := fun T σ e H D Dv hR hf L =>
  h T σ e H _ _ Dv.ex hR hf (fun v d e1 H1 R1 _ q => hg T σ e1 H1 v d _ _ R1 q fun σ' e' R' _ q' => L.nx σ' e' H1 R' q') (fun x d e' H' r y q => L.ex x d σ e' H' r y q)
def vPar (i j : Nat) (fA : VTA) : VTS := fun D e => fA e (fun ds e1 => ∃ a b, ds = [a, b] ∧ D.nx ((e1.set i (some a)).set j (some b))) D.ex
theorem vs_par {i j : Nat} (h : VA c W .e tA fA) (hi : c.M[i]? = some .s) (hj : c.M[j]? = some .s) (ri : ∀ p ∈ c.rt, p.1 ≠ i) (rj : ∀ p ∈ c.rt, p.1 ≠ j) : VS c W rsh (tPar i j tA) (vPar i j fA) := fun T σ e H D Dv hR hf L =>
  h T σ e H _ _ Dv.ex hR hf (fun fT fV vs ds e1 H1 R1 rs _ ⟨a, b, hd, q⟩ => by
    subst hd
    simp only [RSs] at rs
    obtain ⟨v, r, rfl, ra, v2, r2, rfl, rb, rfl⟩ := rs
    have z : R c ((.s, v, a) :: (.s, v2, b) :: T) σ e1 H1 := ⟨fT, fV, (R1.pushS rb).pushS ra⟩
    exact ⟨v, v2, rfl, L.nx _ _ H1 ((z.set hi ri).set hj rj) q⟩) (fun x d e' H' r y q => L.ex x d σ e' H' r y q)
/-! for -/
def vForL (vg : VTG) (f : VTS) (V : VEnds) : List D → Env → Prop
  | [], e => V.nx e
  | d :: ds, e => vg d e fun e1 => f { V with nx := vForL vg f V ds, ct := vForL vg f V ds, bk := V.nx } e1
def vFor (fi : VTI) (vg : VTG) (f : VTS) : VTS := fun D e => fi e (fun ds e1 => vForL vg f D ds e1) D.ex
theorem R.drop2 {T : List Tm} {σ : L2.St} {e : Env} {H : Hp} {t : Tm} : ∀ {hs : List Tm}, R c (t :: (hs ++ T)) σ e H → R c (t :: T) σ e H
  | [], h => h
  | t2 :: hs, h => by
    refine R.drop2 (hs := hs) ?_
    obtain ⟨fT, fV, h⟩ := h
    obtain ⟨f1, g, e1, h1, f2, f3, e2, h2, h3⟩ := h.tm
    subst e1 e2
    have sub : ∀ a, a ∈ (f1 ++ f3) ++ fV → a ∈ (f1 ++ (f2 ++ f3)) ++ fV := fun a z => by
      simp only [List.mem_append] at z ⊢
      rcases z with (z | z) | z <;> simp [z]
    have how : ∀ a, owOf c (f1 ++ f3) fV a → owOf c (f1 ++ (f2 ++ f3)) fV a ∨ H a = none := fun a z => by
      rcases z with z | z
      · exact .inl (.inl (sub a z))
      · exact .inl (.inr z)
    refine ⟨f1 ++ f3, fV, ⟨f1, f3, rfl, RO.fr (fun _ _ q _ => q) (ExtT.refl H) how _ _ _ _ h1 (fun _ _ _ q => q), h3.fr (fun _ _ q _ => q) (ExtT.refl H) how (fun _ _ _ q => q)⟩, h.vr.fr (fun _ _ q _ => q) (ExtT.refl H) how (fun _ _ _ q => q), ?_, fun a z => h.fr a (sub a z), h.kp, h.tp, h.al, h.ok, h.rt⟩
    have p1 : List.Perm ((f1 ++ (f2 ++ f3)) ++ fV) (f2 ++ ((f1 ++ f3) ++ fV)) := by
      rw [List.perm_iff_count]
      intro a
      simp only [List.count_append]
      omega
    exact (List.nodup_append.mp (p1.nodup h.nd)).2.1
theorem R.drops {T : List Tm} {σ : L2.St} {e : Env} {H : Hp} : ∀ {hs : List Tm}, R c (hs ++ T) σ e H → R c T σ e H
  | [], h => h
  | _ :: hs, h => R.drops (hs := hs) h.pop
theorem vs_for {wi : TI} {fi : VTI} (hi : VI c W .e wi fi) (hg : VG c tg own vg) (hb : VS c W rsh t f) : VS c W rsh (tFor wi tg t) (vFor fi vg f) := fun T σ e H D Dv hR hf L => by
  refine hi T σ e H _ _ Dv.ex hR hf (fun J hs ds e1 H1 ok R1 _ q => ?_) (fun x d e' H' r y q => L.ex x d σ e' H' r y q)
  have hm : ∀ t ∈ hs, t ∈ hs ++ T := fun t z => List.mem_append_left _ z
  refine ⟨fun i k σ' H' => k = ds.length - i ∧ i ≤ ds.length ∧ ∃ e', R c (hs ++ T) σ' e' H' ∧ vForL vg f Dv (ds.drop i) e', ⟨ds.length, by simp, Nat.zero_le _, e1, R1, q⟩, ?_⟩
  rintro i k σ2 H2 ⟨rfl, hle, e2, ⟨fT, fV, R2⟩, q2⟩
  by_cases hlt : i < ds.length
  · refine .inr ⟨ok.go fT fV _ σ2 e2 H2 i R2 hm hlt, fun σ' H' => ∃ e', R c (hs ++ T) σ' e' H' ∧ vForL vg f Dv (ds.drop (i + 1)) e', fun σ' H' z => ⟨ds.length - (i + 1), by omega, rfl, hlt, z⟩, fun x H3 hy => ?_⟩
    obtain ⟨sm, d, hd, rd⟩ := ok.yld fT fV _ σ2 e2 H2 i x H3 R2 hm hlt hy
    have ed : ds.drop i = d :: ds.drop (i + 1) := by
      rw [List.drop_eq_getElem_cons hlt]
      rw [List.getElem?_eq_getElem hlt] at hd
      cases hd
      rfl
    rw [ed] at q2
    refine hg (hs ++ T) σ2 e2 H3 x d _ _ ⟨fT, fV, (R2.same sm).pushS rd⟩ q2 fun σ3 e3 R3 _ q3 => ?_
    have nxt : ∀ σ' e' H', R c (hs ++ T) σ' e' H' → vForL vg f Dv (ds.drop (i + 1)) e' → ∃ e', R c (hs ++ T) σ' e' H' ∧ vForL vg f Dv (ds.drop (i + 1)) e' := fun σ' e' H' r q => ⟨e', r, q⟩
    exact hb (hs ++ T) σ3 e3 H3 _ { Dv with nx := vForL vg f Dv (ds.drop (i + 1)), ct := vForL vg f Dv (ds.drop (i + 1)), bk := Dv.nx } R3 q3 ⟨nxt, fun v d σ' e' H' r q => L.rt v d σ' e' H' r.drop2 q, fun σ' e' H' r q => L.nx σ' e' H' r.drops q, nxt, fun x d σ' e' H' r y q => L.ex x d σ' e' H' r.drops y q⟩
  · have e : i = ds.length := by omega
    subst e
    rw [List.drop_length] at q2
    exact .inl ⟨ok.stop fT fV _ σ2 e2 H2 _ R2 hm rfl, L.nx σ2 e2 H2 (R.drops ⟨fT, fV, R2⟩) q2⟩
end
end VL
set_option Elab.async false
set_option linter.all false
set_option maxRecDepth 100000
set_option maxHeartbeats 2000000
namespace VL
open PySem PySem.Spec PyProof.Rows L2
def W0 : XW := fun _ _ _ _ => False
section
variable {K : PySem.W.Frag} {ow ow' : Addr → Prop} {H H' : Hp}
theorem ROs_s : ∀ {l : List D} {vs : List V} {fp : List Addr}, ROs K ow H l (l.map fun _ => .s) vs fp ↔ fp = [] ∧ RSs K ow H l vs
  | [], vs, fp => by
    simp only [List.map_nil, ROs, RSs]
    exact ⟨fun h => ⟨h.2.2, h.2.1⟩, fun h => ⟨trivial, h.2, h.1⟩⟩
  | d :: l, vs, fp => by
    simp only [List.map_cons, ROs, RSs]
    constructor
    · rintro ⟨sh, shs', v, vs', f1, f2, e1, e2, e3, h1, h2⟩
      cases e1
      have h1 := RO_s.mp h1
      have h2 := ROs_s.mp h2
      exact ⟨by rw [e3, h1.1, h2.1]; rfl, v, vs', e2, h1.2, h2.2⟩
    · rintro ⟨rfl, v, r, e, h1, h2⟩
      exact ⟨.s, _, v, r, [], [], rfl, e, rfl, RO_s.mpr ⟨rfl, h1⟩, ROs_s.mpr ⟨rfl, h2⟩⟩
theorem RO_l {d : D} {v : V} {fp : List Addr} : RO K ow H d (.l .s) v fp ↔ ∃ l a vs, d = .lst l ∧ v = .ref a ∧ H a = some (.lst vs) ∧ RSs K ow H l vs ∧ fp = [a] := by
  constructor
  · intro h
    cases d <;> first | (simp only [RO] at h; done) | skip
    simp only [RO] at h
    obtain ⟨a, vs, fps, e, q, t, ef⟩ := h
    have t := ROs_s.mp t
    exact ⟨_, a, vs, rfl, e, q, t.2, by rw [ef, t.1]⟩
  · rintro ⟨l, a, vs, rfl, rfl, q, t, rfl⟩
    simp only [RO]
    exact ⟨a, vs, [], rfl, q, ROs_s.mpr ⟨rfl, t⟩, rfl⟩
theorem RV.agree : ∀ {M : List Sh} {σ1 σ : L2.St} {e : Env} {fp : List Addr}, RV K ow H M σ1 e fp → σ.length = σ1.length → (∀ (i : Nat) (d : D), e[i]? = some (some d) → σ[i]? = σ1[i]?) → RV K ow H M σ e fp
  | [], _, σ, _, _, ⟨a, b, c⟩, hl, _ => by
    subst a
    exact ⟨List.length_eq_zero_iff.mp hl, b, c⟩
  | sh :: M, _, σ, _, _, ⟨x, σ', y, e', f1, f2, e1, e2, e3, h1, h2⟩, hl, k => by
    subst e1 e2
    cases σ with
    | nil => cases hl
    | cons z σ =>
      refine ⟨z, σ, y, e', f1, f2, rfl, rfl, e3, ?_, RV.agree h2 (Nat.succ.inj hl) fun i d q => by simpa using k (i + 1) d (by simpa using q)⟩
      cases y with
      | none => exact h1
      | some d =>
        have := k 0 d rfl
        simp only [List.getElem?_cons_zero, Option.some.injEq] at this
        obtain ⟨v, ev, r⟩ := h1
        exact ⟨v, this.trans ev, r⟩
theorem RVT.agree {M : List Sh} {σ1 σ : L2.St} {e : Env} {fp : List Addr} (h : RVT K ow H M σ1 e fp) (hl : σ.length = σ1.length) (k : ∀ (i : Nat) (d : D), i < M.length → e[i]? = some (some d) → σ[i]? = σ1[i]?) : RVT K ow H M σ e fp := by
  obtain ⟨e0, tl, f0, ft, rfl, rfl, r, t⟩ := h
  have z := r.len
  exact ⟨e0, tl, f0, ft, rfl, rfl, r.agree hl fun i d q => k i d (by rw [← z.2]; exact (List.getElem?_eq_some_iff.mp q).1) (by
    rw [List.getElem?_append_left (List.getElem?_eq_some_iff.mp q).1]
    exact q), t⟩
end
section
variable {c : Vc} {fT fV : List Addr} {T : List Tm} {σ : L2.St} {e : Env} {H H' : Hp}
theorem R.len (h : R c T σ e H) : σ.length = c.M.length ∧ c.M.length ≤ e.length ∧ e.length ≤ c.M.length + 1 := by
  obtain ⟨fT, fV, h⟩ := h
  exact h.vr.len
theorem R.agree {σ1 : L2.St} (h : R c T σ1 e H) (hl : σ.length = σ1.length) (k : ∀ (i : Nat) (d : D), e[i]? = some (some d) → σ[i]? = σ1[i]?) (hr : ∀ p ∈ c.rt, σ[p.1]? = some (some p.2)) : R c T σ e H := by
  obtain ⟨fT, fV, h⟩ := h
  exact ⟨fT, fV, h.tm, h.vr.agree hl fun i d _ q => k i d q, h.nd, h.fr, h.kp, h.tp, h.al, h.ok, hr⟩
/-- a name's thing let go -/
theorem R.forget {i : Nat} {x : Option V} (h : R c T σ e H) (hr : ∀ p ∈ c.rt, p.1 ≠ i) : R c T (σ.set i x) (e.set i none) H := by
  by_cases hi : i < c.M.length
  · obtain ⟨fT, fV, h⟩ := h
    obtain ⟨g1, fp, g2, x0, y0, a1, a2, a3, a4, a5⟩ := h.vr.split (List.getElem?_eq_getElem hi)
    subst a3
    have sub : ∀ a, a ∈ fT ++ (g1 ++ ([] ++ g2)) → a ∈ fT ++ (g1 ++ (fp ++ g2)) := fun a z => by
      simp only [List.mem_append, List.nil_append] at z ⊢
      rcases z with z | z | z <;> simp [z]
    have how : ∀ a, owOf c fT (g1 ++ ([] ++ g2)) a → owOf c fT (g1 ++ (fp ++ g2)) a ∨ H a = none := fun a z => by
      rcases z with z | z
      · exact .inl (.inl (sub a z))
      · exact .inl (.inr z)
    refine ⟨fT, g1 ++ ([] ++ g2), h.tm.fr (fun _ _ q _ => q) (ExtT.refl H) how (fun _ _ _ q => q), a5 (fun _ _ q _ => q) (ExtT.refl H) how (fun _ _ _ q => q) rfl, ?_, fun a z => h.fr a (sub a z), h.kp, h.tp, h.al, h.ok, fun p hp => ?_⟩
    · have p1 : List.Perm (fT ++ (g1 ++ (fp ++ g2))) (fp ++ (fT ++ (g1 ++ ([] ++ g2)))) := by
        rw [List.perm_iff_count]
        intro a
        simp only [List.count_append, List.count_nil]
        omega
      exact (List.nodup_append.mp (p1.nodup h.nd)).2.1
    · rw [List.getElem?_set_ne (fun z => hr p hp z.symm)]
      exact h.rt p hp
  · have hl := h.len
    rw [List.set_eq_of_length_le (show σ.length ≤ i by omega)]
    by_cases hi2 : e.length ≤ i
    · rw [List.set_eq_of_length_le hi2]
      exact h
    obtain ⟨fT, fV, h⟩ := h
    obtain ⟨e0, tl, f0, ft, rfl, rfl, r, t⟩ := h.vr
    have l0 := r.len
    have lt := t.le
    rw [List.length_append] at hi2
    have ei : i = e0.length := by omega
    have e1 : (e0 ++ tl).set i none = e0 ++ tl.set 0 none := by
      rw [ei, List.set_append_right _ _ (Nat.le_refl _), Nat.sub_self]
    have t1 : tl.set 0 none = [none] := by
      cases tl with
      | nil => simp at hi2; omega
      | cons a tl =>
        cases tl with
        | nil => rfl
        | cons b tl => simp at lt
    rw [e1, t1]
    have sub : ∀ a, a ∈ fT ++ (f0 ++ []) → a ∈ fT ++ (f0 ++ ft) := fun a z => by
      simp only [List.mem_append, List.append_nil] at z ⊢
      rcases z with z | z <;> simp [z]
    have how : ∀ a, owOf c fT (f0 ++ []) a → owOf c fT (f0 ++ ft) a ∨ H a = none := fun a z => by
      rcases z with z | z
      · exact .inl (.inl (sub a z))
      · exact .inl (.inr z)
    refine ⟨fT, f0 ++ [], h.tm.fr (fun _ _ q _ => q) (ExtT.refl H) how (fun _ _ _ q => q), ⟨e0, [none], f0, [], rfl, rfl, r.fr (fun _ _ q _ => q) (ExtT.refl H) how (fun _ _ _ q => q), rfl⟩, ?_, fun a z => h.fr a (sub a z), h.kp, h.tp, h.al, h.ok, h.rt⟩
    have n := h.nd
    rw [← List.append_assoc] at n
    rw [List.append_nil]
    exact (List.nodup_append.mp n).1
def wipeE (e : Env) : List Nat → Env
  | [] => e
  | v :: vs => (wipeE e vs).set v none
theorem R.wipe : ∀ {vs : List Nat}, R c T σ e H → (∀ i ∈ vs, ∀ p ∈ c.rt, p.1 ≠ i) → R c T (L2.wipe σ vs) (wipeE e vs) H
  | [], h, _ => h
  | v :: vs, h, hr => (R.wipe h fun i z => hr i (List.mem_cons_of_mem _ z)).forget (hr v List.mem_cons_self)
theorem wipeE_no {e : Env} {i : Nat} {d : D} : ∀ {vs : List Nat}, i ∈ vs → (wipeE e vs)[i]? ≠ some (some d)
  | [], h => by cases h
  | v :: vs, h => by
    unfold wipeE
    by_cases q : v = i
    · subst q
      rw [List.getElem?_set]
      simp only [if_true]
      split <;> simp
    · rw [List.getElem?_set_ne q]
      exact wipeE_no ((List.mem_cons.mp h).elim (fun z => absurd z.symm q) id)
/-- the thing on top is changed -/
theorem RX.updT {sh : Sh} {v : V} {d : D} (h : RX c fT fV ((sh, v, d) :: T) σ e H) :
    ∃ fp fT', fT = fp ++ fT' ∧ RO c.K (owOf c fT fV) H d sh v fp ∧ fp.Nodup ∧
      ∀ (H' : Hp) (d' : D) (fp' : List Addr), (∀ b o, H b = some o → b ∉ fp → H' b = some o) → ExtT H H' → (∀ b, H b ≠ none → H' b ≠ none) → fp'.Nodup → (∀ a ∈ fp', a ∈ fp ∨ H a = none) →
        (∀ ow', (∀ a, ow' a → owOf c fT fV a ∨ H a = none) → RO c.K ow' H' d' sh v fp') → RX c (fp' ++ fT') fV ((sh, v, d') :: T) σ e H' := by
  obtain ⟨fp, f2, e1, h1, h2⟩ := h.tm
  subst e1
  have n := h.nd
  rw [List.append_assoc] at n
  obtain ⟨nf, nr, nx⟩ := List.nodup_append.mp n
  refine ⟨fp, f2, rfl, h1, nf, fun H' d' fp' hk hT hal nd' hf' hro => ?_⟩
  have hsub : ∀ a ∈ fp, a ∈ (fp ++ f2) ++ fV := fun a z => by simp [z]
  have how : ∀ a, owOf c (fp' ++ f2) fV a → owOf c (fp ++ f2) fV a ∨ H a = none := fun a z => by
    rcases z with z | z
    · simp only [List.mem_append] at z
      rcases z with (z | z) | z
      · rcases hf' a z with q | q
        · exact .inl (.inl (by simp [q]))
        · exact .inr q
      · exact .inl (.inl (by simp [z]))
      · exact .inl (.inl (by simp [z]))
    · exact .inl (.inr z)
  have kow : ∀ b o, H b = some o → ¬ owOf c (fp ++ f2) fV b → H' b = some o := fun b o q n => hk b o q fun z => n (.inl (hsub b z))
  have koth : ∀ b ∈ f2 ++ fV, ∀ o, H b = some o → H' b = some o := fun b z o q => hk b o q fun y => nx b y b z rfl
  refine ⟨⟨fp', f2, rfl, hro _ how, h2.fr kow hT how (fun b z => koth b (List.mem_append_left _ z))⟩, h.vr.fr kow hT how (fun b z => koth b (List.mem_append_right _ z)), ?_, fun a z => ?_, fun b o q n => ?_, h.tp.trans hT, fun b q => hal b (h.al b q), h.ok, h.rt⟩
  · rw [List.append_assoc]
    exact List.nodup_append.mpr ⟨nd', nr, fun a z b y q => by
      subst q
      rcases hf' a z with q | q
      · exact nx a q a y rfl
      · obtain ⟨o, w, _⟩ := h.at a (by rw [List.append_assoc]; exact List.mem_append_right _ y)
        rw [q] at w
        cases w⟩
  · simp only [List.mem_append] at z
    rcases z with (z | z) | z
    · rcases hf' a z with q | q
      · exact h.fr a (by simp [q])
      · exact .inr (h.new q).2
    · exact h.fr a (by simp [z])
    · exact h.fr a (by simp [z])
  · refine hk b o (h.kp b o q n) fun z => ?_
    rcases h.fr b (hsub b z) with y | y
    · exact n y
    · rw [y] at q
      cases q
theorem al_upd {a : Addr} {o : HO} : ∀ b, H b ≠ none → (L2.upd H a o) b ≠ none := fun b q => by
  by_cases e : b = a
  · rw [e, upd_same]; simp
  · rw [upd_ne e]; exact q
/-- a thing more at the end of the list below -/
theorem R.append {y : V} {dy : D} {a : Addr} {l : List D} (h : R c ((.s, y, dy) :: (.l .s, .ref a, .lst l) :: T) σ e H) : ∃ vs, H a = some (.lst vs) ∧ vs.length = l.length ∧ R c ((.l .s, .ref a, .lst (l ++ [dy])) :: T) σ e (L2.upd H a (.lst (vs ++ [y]))) := by
  obtain ⟨fT, fV, h⟩ := h
  obtain ⟨ry, h⟩ := h.topS
  obtain ⟨fp, fT', e1, ro, nf, k⟩ := h.updT
  obtain ⟨l', a', vs, el, ea, ha, rs, ef⟩ := RO_l.mp ro
  cases el
  cases ea
  subst ef
  have nfx : ∀ u, H a = some u → ¬ Fx u := fun u q => by rw [ha] at q; cases q; exact id
  refine ⟨vs, ha, rs.len, _, fV, k (L2.upd H a (.lst (vs ++ [y]))) (.lst (l ++ [dy])) [a] (fun b o q n => ?_) (ExtT.upd nfx) al_upd (by simp) (fun b z => .inl z) fun ow' how => RO_l.mpr ⟨_, a, _, rfl, rfl, upd_same, ?_, rfl⟩⟩
  · rw [upd_ne (fun z => n (by rw [z]; exact List.mem_singleton_self a))]
    exact q
  · have F : Fr (owOf c fT fV) H (L2.upd H a (.lst (vs ++ [y]))) := ⟨fun b o q n => by
      rw [upd_ne (fun z => n (.inl (by rw [z, e1]; simp)))]
      exact q, ExtT.upd nfx⟩
    exact RSs.app (.cons (RS.fr F how _ _ ry) .nil) (RSs.fr F how _ _ rs)
end
/-! ### comprehensions -/
section
variable {c : Vc} {W : XW} {m : Md} {wi : TI} {fi : VTI} {tg : TG} {vg : VTG} {own vs : List Nat} {tt : TT} {ft : VTB} {te : TE} {fe : VT}
def vYes : VTB := fun e Q _ => Q true e
theorem vt_yes : VBt c W m tYes vYes := fun T σ e H Q Qv Qx hR hf hn hx => hn true e H hR (Post.refl _ _ _) hf
def vLcL (vs : List Nat) (vg : VTG) (ft : VTB) (fe : VT) (Q : List D → Env → Prop) : List D → List D → Env → Prop
  | [], acc, e => Q acc e
  | d :: ds, acc, e => vg d e fun e1 => ft e1 (fun b e2 => if b = true then fe e2 (fun y e3 => acc.length < sizeLine ∧ vLcL vs vg ft fe Q ds (acc ++ [y]) (wipeE e3 vs)) (fun _ _ => False) else vLcL vs vg ft fe Q ds acc (wipeE e2 vs)) (fun _ _ => False)
def vLc (fi : VTI) (vs : List Nat) (vg : VTG) (ft : VTB) (fe : VT) : VT := fun e Q Qx => fi e (fun ds e1 => vLcL vs vg ft fe (fun acc e2 => Q (.lst acc) e2) ds [] (wipeE e1 vs)) Qx
theorem v_lc {sh : Sh} (hi : VI c W m wi fi) (hg : VG c tg own vg) (ht : VBt c W0 m tt ft) (he : VE c W0 m te sh fe) (ho : ∀ i ∈ own, i ∈ vs) (hr : ∀ i ∈ vs, ∀ p ∈ c.rt, p.1 ≠ i) : VE c W m (tLc wi tg tt te vs) (.l .s) (vLc fi vs vg ft fe) := fun T σ e H Q Qv Qx hR hf hn hx => by
  have he := he.s
  refine hi T σ e H _ _ Qx hR hf (fun J hs ds e1 H1 ok R1 p1 q => ?_) hx
  intro a ha
  have hl0 := R1.len
  have hrt : ∀ p ∈ c.rt, σ[p.1]? = some (some p.2) := let ⟨_, _, z⟩ := R1; z.rt
  have start : R c ((.l .s, .ref a, .lst []) :: (hs ++ T)) (L2.wipe σ vs) (wipeE e1 vs) (upd H1 a (.lst [])) := by
    obtain ⟨fT, fV, z⟩ := R1.wipe hr
    exact z.newL ha .nil
  refine ⟨fun i k H' => k = ds.length - i ∧ i ≤ ds.length ∧ Post m H1 H' e1 e1 ∧ ∃ e' acc, R c ((.l .s, .ref a, .lst acc) :: (hs ++ T)) (L2.wipe σ vs) e' H' ∧ (∀ i ∈ vs, ∀ d, e'[i]? ≠ some (some d)) ∧ vLcL vs vg ft fe (fun acc e2 => Qv (.lst acc) e2) (ds.drop i) acc e', ⟨ds.length, by simp, Nat.zero_le _, Post.same (same_new ha), _, [], start, fun i z d => wipeE_no z, q⟩, ?_⟩
  rintro i k H2 ⟨rfl, hle, p2, e2, acc, R2, no2, q2⟩
  have hm : ∀ t ∈ hs, t ∈ ((.l .s, .ref a, .lst acc) : Tm) :: (hs ++ T) := fun t z => List.mem_cons_of_mem _ (List.mem_append_left _ z)
  by_cases hlt : i < ds.length
  · obtain ⟨fT, fV, X2⟩ := R2
    refine .inr ⟨ok.go fT fV _ _ e2 H2 i X2 hm hlt, fun H' => Post m H1 H' e1 e1 ∧ ∃ e' acc, R c ((.l .s, .ref a, .lst acc) :: (hs ++ T)) (L2.wipe σ vs) e' H' ∧ (∀ i ∈ vs, ∀ d, e'[i]? ≠ some (some d)) ∧ vLcL vs vg ft fe (fun acc e2 => Qv (.lst acc) e2) (ds.drop (i + 1)) acc e', fun H' z => ⟨ds.length - (i + 1), by omega, rfl, hlt, z.1, z.2⟩, fun x H3 hy => ?_⟩
    obtain ⟨sm, d, hd, rd⟩ := ok.yld fT fV _ _ e2 H2 i x H3 X2 hm hlt hy
    have ed : ds.drop i = d :: ds.drop (i + 1) := by
      rw [List.drop_eq_getElem_cons hlt]
      rw [List.getElem?_eq_getElem hlt] at hd
      cases hd
      rfl
    rw [ed] at q2
    have p2 := p2.trans (Post.same (e := e1) (e' := e1) sm)
    refine hg _ (L2.wipe σ vs) e2 H3 x d _ _ ⟨fT, fV, (X2.same sm).pushS rd⟩ q2 fun σ3 e3 R3 w3 q3 => ?_
    have w : L2.wipe σ3 vs = L2.wipe σ vs := by
      rw [w3 vs ho]
      apply List.ext_getElem?
      intro j
      rw [wipe_get, wipe_get, wipe_length]
      by_cases z : j ∈ vs
      · rw [if_pos z, if_pos z]
      · rw [if_neg z, if_neg z]
    refine ⟨?_, ht _ σ3 e3 H3 _ _ (fun _ _ => False) R3 q3 (fun b e4 H4 R4 p4 q4 => ?_) (fun x d e' H' r y q => q.elim)⟩
    · exact w
    cases b with
    | false =>
      have z := R4.wipe hr
      rw [w] at z
      exact ⟨p2.trans p4, _, acc, z, fun i y d => wipeE_no y, q4⟩
    | true =>
      refine he _ σ3 e4 H4 _ _ (fun _ _ => False) R4 q4 (fun y dy e5 H5 R5 p5 ⟨hz, q5⟩ => ?_) (fun x d e' H' r y q => q.elim)
      obtain ⟨ws, hw, lw, R6⟩ := R5.append
      have z := R6.wipe hr
      rw [w] at z
      refine ⟨ws, hw, by rw [lw]; exact hz, fun q => ?_, _, _, z, fun i y d => wipeE_no y, q5⟩
      intro b o eb
      have nb : b ≠ a := ne_of_none eb ha
      rw [upd_ne nb]
      exact ((p2.trans p4).trans p5) q b o eb
  · have eq : i = ds.length := by omega
    subst eq
    rw [List.drop_length] at q2
    obtain ⟨fT, fV, X2⟩ := R2
    refine .inl ⟨ok.stop fT fV _ _ e2 H2 _ X2 hm rfl, ?_⟩
    have z : R c ((.l .s, .ref a, .lst acc) :: T) (L2.wipe σ vs) e2 H2 := R.drop2 ⟨fT, fV, X2⟩
    refine hn _ _ e2 H2 (z.agree (by rw [wipe_length]) (fun i d q => ?_) hrt) (p1.trans (fun q => p2 q)) q2
    rw [wipe_get, if_neg (fun y => no2 i y d q)]
end
/-! ### one's own list: append, extend, pop -/
section
variable {c : Vc} {W : XW} {m : Md} {te : TE} {fe : VT}
theorem tyV_l {K : PySem.W.Frag} {H : Hp} {a : Addr} {vs : List V} (h : H a = some (.lst vs)) : tyV K "list" (.ref a) H := .inl ⟨rfl, vs, .inl (.inl h)⟩
/-- a name's own list, as it stands -/
theorem RX.ownL {fT fV : List Addr} {T : List Tm} {σ : L2.St} {e : Env} {H : Hp} {i : Nat} {l : List D} (h : RX c fT fV T σ e H) (hM : c.M[i]? = some (.l .s)) (hd : e[i]? = some (some (.lst l))) :
    ∃ a vs, σ[i]? = some (some (.ref a)) ∧ H a = some (.lst vs) ∧ RSs c.K (owOf c fT fV) H l vs ∧ ∀ (l' : List D) (vs' : List V) (H2 : Hp), Same H H2 → H2 a = some (.lst vs) → (∀ ow', (∀ b, ow' b → owOf c fT fV b ∨ H b = none) → RSs c.K ow' (L2.upd H2 a (.lst vs')) l' vs') → ∃ fV', RX c fT fV' T σ (e.set i (some (.lst l'))) (L2.upd H2 a (.lst vs')) := by
  obtain ⟨v, fp, hv, ro, sub, nf, k⟩ := h.upd hM hd
  obtain ⟨l0, a, vs, el, ea, ha, rs, ef⟩ := RO_l.mp ro
  cases el
  subst ea ef
  refine ⟨a, vs, hv, ha, rs, fun l' vs' H2 sm ha2 hr => ?_⟩
  have nfx : ∀ u, H2 a = some u → ¬ Fx u := fun u q => by rw [ha2] at q; cases q; exact id
  refine k (L2.upd H2 a (.lst vs')) (.lst l') [a] (fun b o q n => ?_) ((ExtT.same sm).trans (ExtT.upd nfx)) (fun b q => al_upd b ?_) (by simp) (fun b z => .inl z) fun ow' how => RO_l.mpr ⟨l', a, vs', rfl, rfl, upd_same, hr ow' how, rfl⟩
  · rw [upd_ne (fun z => n (by rw [z]; exact List.mem_singleton_self a))]
    exact sm b o q
  · cases z : H b with
    | none => exact absurd z q
    | some o => rw [sm b o z]; simp
def vAppend (i : Nat) (fe : VT) : VT := fun e Q Qx => (∃ l, e[i]? = some (some (.lst l))) ∧ fe e (fun d e1 => ∃ l, e1[i]? = some (some (.lst l)) ∧ l.length < sizeLine ∧ Q .non (e1.set i (some (.lst (l ++ [d]))))) Qx
theorem v_append {i : Nat} (hM : c.M[i]? = some (.l .s)) (he : VE c W .e te .s fe) : VE c W .e (tBM c.K "list" rAppend (tVar i) (tCons te tNil)) .s (vAppend i fe) := fun T σ e H Q Qv Qx hR ⟨⟨l0, hl0⟩, hf⟩ hn hx => by
  obtain ⟨fT, fV, hX⟩ := hR
  obtain ⟨a, vs0, hv, ha0, _⟩ := hX.ownL hM hl0
  refine ⟨_, hv, tyV_l ha0, ?_⟩
  refine he T σ e H _ _ Qx ⟨fT, fV, hX⟩ hf (fun y dy e1 H1 R1 _ ⟨l, hl, hz, q⟩ => ?_) hx
  obtain ⟨fT1, fV1, X1⟩ := R1
  obtain ⟨ry, X1⟩ := X1.topS
  obtain ⟨a1, vs, hv1, ha, rs, k⟩ := X1.ownL hM hl
  rw [hv] at hv1
  cases hv1
  obtain ⟨fV2, X2⟩ := k (l ++ [dy]) (vs ++ [y]) H1 (fun _ _ q => q) ha fun ow' how => by
    have nfx : ∀ u, H1 a = some u → ¬ Fx u := fun u q => by rw [ha] at q; cases q; exact id
    have oa : owOf c fT1 fV1 a := by
      obtain ⟨v, fp, hv', ro, sub, _⟩ := X1.upd hM hl
      obtain ⟨l0, a2, vs2, el, ea, ha2, rs2, ef⟩ := RO_l.mp ro
      rw [hv] at hv'
      cases hv'
      cases ea
      exact .inl (sub a (by rw [ef]; exact List.mem_singleton_self a))
    have F : Fr (owOf c fT1 fV1) H1 (L2.upd H1 a (.lst (vs ++ [y]))) := ⟨fun b o q n => by
      rw [upd_ne (fun z => n (by rw [z]; exact oa))]
      exact q, ExtT.upd nfx⟩
    exact RSs.app (.cons (RS.fr F how _ _ ry) .nil) (RSs.fr F how _ _ rs)
  exact ⟨a, vs, y, rfl, rfl, ha, by rw [rs.len]; exact hz, hn _ _ _ _ ⟨fT1, fV2, X2.pushS rs_non⟩ Post.e q⟩
end
end VL
set_option Elab.async false
set_option linter.all false
set_option maxRecDepth 100000
set_option maxHeartbeats 2000000
namespace VL
open PySem PySem.Spec PyProof.Rows L2
/-! ### promises over data -/
abbrev VSp := List D → (D → Env → Prop) → (Exn → Env → Prop) → Prop
def roots : List Sh → Nat → List V → List (Nat × V)
  | [], _, _ => []
  | _ :: _, _, [] => []
  | .s :: M, n, _ :: vs => roots M (n + 1) vs
  | .l _ :: M, n, v :: vs => (n, v) :: roots M (n + 1) vs
  | .d _ :: M, n, v :: vs => (n, v) :: roots M (n + 1) vs
  | .o _ :: M, n, v :: vs => (n, v) :: roots M (n + 1) vs
  | .n :: M, n, v :: vs => (n, v) :: roots M (n + 1) vs
/-- what a def hands back of its parameters: those that are the caller's own -/
def ioP : List Sh → Env → Env
  | [], _ => []
  | _ :: _, [] => []
  | .s :: M, _ :: e => none :: ioP M e
  | .l _ :: M, y :: e => y :: ioP M e
  | .d _ :: M, y :: e => y :: ioP M e
  | .o _ :: M, y :: e => y :: ioP M e
  | .n :: M, y :: e => y :: ioP M e
def ioIx : List Sh → Nat → List Nat
  | [], _ => []
  | .s :: M, n => ioIx M (n + 1)
  | .l _ :: M, n => n :: ioIx M (n + 1)
  | .d _ :: M, n => n :: ioIx M (n + 1)
  | .o _ :: M, n => n :: ioIx M (n + 1)
  | .n :: M, n => n :: ioIx M (n + 1)
theorem roots_ix : ∀ (M : List Sh) (n : Nat) (vs : List V), ∀ p ∈ roots M n vs, p.1 ∈ ioIx M n
  | [], _, _, p, h => by simp only [roots] at h; cases h
  | sh :: M, n, [], p, h => by cases sh <;> (simp only [roots] at h; cases h)
  | .s :: M, n, _ :: vs, p, h => by
    simp only [roots] at h
    simp only [ioIx]
    exact roots_ix M (n + 1) vs p h
  | .l _ :: M, n, v :: vs, p, h => by
    simp only [roots, List.mem_cons] at h
    simp only [ioIx, List.mem_cons]
    rcases h with h | h
    · exact .inl (by rw [h])
    · exact .inr (roots_ix M (n + 1) vs p h)
  | .d _ :: M, n, v :: vs, p, h => by
    simp only [roots, List.mem_cons] at h
    simp only [ioIx, List.mem_cons]
    rcases h with h | h
    · exact .inl (by rw [h])
    · exact .inr (roots_ix M (n + 1) vs p h)
  | .o _ :: M, n, v :: vs, p, h => by
    simp only [roots, List.mem_cons] at h
    simp only [ioIx, List.mem_cons]
    rcases h with h | h
    · exact .inl (by rw [h])
    · exact .inr (roots_ix M (n + 1) vs p h)
  | .n :: M, n, v :: vs, p, h => by
    simp only [roots, List.mem_cons] at h
    simp only [ioIx, List.mem_cons]
    rcases h with h | h
    · exact .inl (by rw [h])
    · exact .inr (roots_ix M (n + 1) vs p h)
def spOf (K : PySem.W.Frag) (pM : List Sh) (rsh : Sh) (sp : VSp) : Sp := fun vs H Q E => ∃ (c : Vc) (ds : List D) (Qv : D → Env → Prop) (Qx : Exn → Env → Prop), c.K = K ∧ c.M = pM ∧ c.H0 = H ∧ c.rt = roots pM 0 vs ∧ (ds.length = pM.length ∧ R c [] (vs.map some) (ds.map some) H) ∧ sp ds Qv Qx ∧
  (∀ v r ps H', ps.length = pM.length → R c [(rsh, v, r)] (vs.map some) ps H' → Qv r ps → Q v H') ∧ (∀ x d ps H', ps.length = pM.length → R c [] (vs.map some) ps H' → XAt H' x d → Qx x ps → E (.ref x.C) d H')
theorem spOf.len {K : PySem.W.Frag} {pM : List Sh} {rsh : Sh} {sp : VSp} {vs : List V} {H : Hp} {Q : VK} {E : XK} (h : spOf K pM rsh sp vs H Q E) : vs.length = pM.length := by
  obtain ⟨c, ds, Qv, Qx, h1, h2, h3, h4, ⟨_, h5⟩, _⟩ := h
  have z := h5.len.1
  rw [List.length_map, h2] at z
  exact z
section
variable {K : PySem.W.Frag} {ow ow' : Addr → Prop} {H H' : Hp}
theorem RV.app {M2 : List Sh} {σ2 : L2.St} {e2 : Env} {f2 : List Addr} (h2 : RV K ow H M2 σ2 e2 f2) : ∀ {M : List Sh} {σ : L2.St} {e : Env} {fp : List Addr}, RV K ow H M σ e fp → RV K ow H (M ++ M2) (σ ++ σ2) (e ++ e2) (fp ++ f2)
  | [], _, _, _, ⟨a, b, c⟩ => by
    subst a b c
    exact h2
  | sh :: M, _, _, _, ⟨x, σ', y, e', g1, g2, e1, e2, e3, h1, h3⟩ => by
    subst e1 e2 e3
    exact ⟨x, σ' ++ σ2, y, _, g1, g2 ++ f2, rfl, rfl, by rw [List.append_assoc], h1, RV.app h2 h3⟩
theorem RV.unapp : ∀ {M M2 : List Sh} {σ : L2.St} {e : Env} {fp : List Addr}, RV K ow H (M ++ M2) σ e fp → ∃ σ1 σ2 e1 e2 f1 f2, σ = σ1 ++ σ2 ∧ e = e1 ++ e2 ∧ fp = f1 ++ f2 ∧ RV K ow H M σ1 e1 f1 ∧ RV K ow H M2 σ2 e2 f2
  | [], M2, σ, e, fp, h => ⟨[], σ, [], e, [], fp, rfl, rfl, rfl, ⟨rfl, rfl, rfl⟩, h⟩
  | sh :: M, M2, _, _, _, ⟨x, σ', y, e', g1, g2, e1, e2, e3, h1, h3⟩ => by
    subst e1 e2 e3
    obtain ⟨σ1, σ2, e1, e2, f1, f2, a, b, c, h4, h5⟩ := RV.unapp h3
    subst a b c
    exact ⟨x :: σ1, σ2, y :: e1, e2, g1 ++ f1, f2, rfl, rfl, by rw [List.append_assoc], ⟨x, σ1, y, e1, g1, f1, rfl, rfl, rfl, h1, h4⟩, h5⟩
theorem RV.nones : ∀ (M : List Sh), RV K ow H M (List.replicate M.length none) (List.replicate M.length none) []
  | [] => ⟨rfl, rfl, rfl⟩
  | sh :: M => ⟨none, _, none, _, [], [], rfl, rfl, rfl, rfl, RV.nones M⟩
theorem ioP_app : ∀ {M : List Sh} {e1 e2 : Env}, e1.length = M.length → ioP M (e1 ++ e2) = ioP M e1
  | [], e1, e2, h => by simp only [ioP]
  | sh :: M, [], e2, h => by cases h
  | sh :: M, y :: e1, e2, h => by
    have z := ioP_app (M := M) (e1 := e1) (e2 := e2) (Nat.succ.inj h)
    cases sh <;> simp only [List.cons_append, ioP, z]
theorem ioP_len : ∀ {M : List Sh} {e : Env}, M.length ≤ e.length → (ioP M e).length = M.length
  | [], _, _ => by simp [ioP]
  | sh :: M, [], h => by simp at h
  | sh :: M, y :: e, h => by
    have z := ioP_len (M := M) (e := e) (Nat.le_of_succ_le_succ h)
    cases sh <;> simp only [ioP, List.length_cons, z]
theorem Slot.io {sh : Sh} {x : Option V} {y : Option D} {v : V} {fp : List Addr} (h : Slot K ow H sh x y fp) (hx : x = some v) : Slot K ow H sh (some v) y fp := by
  rw [hx] at h
  exact h
theorem RV.io : ∀ {M : List Sh} {σ : L2.St} {e : Env} {fp : List Addr} {vs : List V} {n : Nat}, RV K ow H M σ e fp → vs.length = M.length → (∀ p ∈ roots M n vs, ∃ j, p.1 = n + j ∧ σ[j]? = some (some p.2)) → RV K ow H M (vs.map some) (ioP M e) fp
  | [], _, _, _, vs, _, ⟨a, b, c⟩, hl, _ => by
    cases vs with
    | nil => exact ⟨rfl, by simp only [ioP], c⟩
    | cons v vs => cases hl
  | sh :: M, _, _, _, [], _, _, hl, _ => by cases hl
  | sh :: M, _, _, _, v :: vs, n, ⟨x, σ', y, e', g1, g2, e1, e2, e3, h1, h3⟩, hl, hr => by
    subst e1 e2 e3
    have sub : ∀ q ∈ roots M (n + 1) vs, q ∈ roots (sh :: M) n (v :: vs) := fun q hq => by
      cases sh <;> simp only [roots] <;> first | exact hq | exact List.mem_cons_of_mem _ hq
    have rest : RV K ow H M (vs.map some) (ioP M e') g2 := RV.io (n := n + 1) h3 (Nat.succ.inj hl) fun q hq => by
      obtain ⟨j, a, b⟩ := hr q (sub q hq)
      have hj : 1 ≤ j := by
        have z : n + 1 ≤ q.1 := by
          have : ∀ (M : List Sh) (n : Nat) (i : Nat), i ∈ ioIx M n → n ≤ i := fun M => by
            induction M with
            | nil => intro n i h; simp only [ioIx] at h; cases h
            | cons sh M ih =>
              intro n i h
              cases sh <;> simp only [ioIx, List.mem_cons] at h <;> first | (have := ih (n + 1) i h; omega) | (rcases h with h | h; omega; have := ih (n + 1) i h; omega)
          exact this M (n + 1) q.1 (roots_ix M (n + 1) vs q hq)
        omega
      refine ⟨j - 1, by omega, ?_⟩
      rw [show j = (j - 1) + 1 by omega] at b
      simpa using b
    cases sh with
    | s =>
      simp only [ioP, List.map_cons]
      refine ⟨some v, vs.map some, none, ioP M e', [], g2, rfl, rfl, ?_, rfl, rest⟩
      cases y with
      | none =>
        have z : g1 = [] := h1
        rw [z]
      | some d =>
        obtain ⟨u, _, r⟩ := h1
        rw [(RO_s.mp r).1]
    | l q =>
      obtain ⟨j, a, b⟩ := hr (n, v) (by simp only [roots]; exact List.mem_cons_self)
      have : j = 0 := by simp at a; omega
      subst this
      simp only [List.getElem?_cons_zero, Option.some.injEq] at b
      simp only [ioP, List.map_cons]
      exact ⟨some v, vs.map some, y, ioP M e', g1, g2, rfl, rfl, rfl, h1.io b, rest⟩
    | d q =>
      obtain ⟨j, a, b⟩ := hr (n, v) (by simp only [roots]; exact List.mem_cons_self)
      have : j = 0 := by simp at a; omega
      subst this
      simp only [List.getElem?_cons_zero, Option.some.injEq] at b
      simp only [ioP, List.map_cons]
      exact ⟨some v, vs.map some, y, ioP M e', g1, g2, rfl, rfl, rfl, h1.io b, rest⟩
    | o q =>
      obtain ⟨j, a, b⟩ := hr (n, v) (by simp only [roots]; exact List.mem_cons_self)
      have : j = 0 := by simp at a; omega
      subst this
      simp only [List.getElem?_cons_zero, Option.some.injEq] at b
      simp only [ioP, List.map_cons]
      exact ⟨some v, vs.map some, y, ioP M e', g1, g2, rfl, rfl, rfl, h1.io b, rest⟩
    | n =>
      obtain ⟨j, a, b⟩ := hr (n, v) (by simp only [roots]; exact List.mem_cons_self)
      have : j = 0 := by simp at a; omega
      subst this
      simp only [List.getElem?_cons_zero, Option.some.injEq] at b
      simp only [ioP, List.map_cons]
      exact ⟨some v, vs.map some, y, ioP M e', g1, g2, rfl, rfl, rfl, h1.io b, rest⟩
theorem roots_at : ∀ (M : List Sh) (n : Nat) (vs : List V), ∀ p ∈ roots M n vs, ∃ j, p.1 = n + j ∧ vs[j]? = some p.2
  | [], _, _, p, h => by simp only [roots] at h; cases h
  | sh :: M, n, [], p, h => by cases sh <;> (simp only [roots] at h; cases h)
  | .s :: M, n, _ :: vs, p, h => by
    simp only [roots] at h
    obtain ⟨j, a, b⟩ := roots_at M (n + 1) vs p h
    exact ⟨j + 1, by omega, by simpa using b⟩
  | .l _ :: M, n, v :: vs, p, h => by
    simp only [roots, List.mem_cons] at h
    rcases h with h | h
    · exact ⟨0, by rw [h]; rfl, by rw [h]; rfl⟩
    · obtain ⟨j, a, b⟩ := roots_at M (n + 1) vs p h
      exact ⟨j + 1, by omega, by simpa using b⟩
  | .d _ :: M, n, v :: vs, p, h => by
    simp only [roots, List.mem_cons] at h
    rcases h with h | h
    · exact ⟨0, by rw [h]; rfl, by rw [h]; rfl⟩
    · obtain ⟨j, a, b⟩ := roots_at M (n + 1) vs p h
      exact ⟨j + 1, by omega, by simpa using b⟩
  | .o _ :: M, n, v :: vs, p, h => by
    simp only [roots, List.mem_cons] at h
    rcases h with h | h
    · exact ⟨0, by rw [h]; rfl, by rw [h]; rfl⟩
    · obtain ⟨j, a, b⟩ := roots_at M (n + 1) vs p h
      exact ⟨j + 1, by omega, by simpa using b⟩
  | .n :: M, n, v :: vs, p, h => by
    simp only [roots, List.mem_cons] at h
    rcases h with h | h
    · exact ⟨0, by rw [h]; rfl, by rw [h]; rfl⟩
    · obtain ⟨j, a, b⟩ := roots_at M (n + 1) vs p h
      exact ⟨j + 1, by omega, by simpa using b⟩
end
def nones : List Sh → Env
  | [] => []
  | _ :: M => none :: nones M
theorem nones_eq : ∀ M : List Sh, nones M = List.replicate M.length none
  | [] => rfl
  | _ :: M => by rw [nones, nones_eq M]; rfl
/-- a def by its body -/
theorem fn_run {K : PySem.W.Frag} {pM M2 : List Sh} {rsh : Sh} {sp : VSp} {W : XW} {exV : (Exn → Env → Prop) → QX} {ts : TS} {f : VTS} {N : List Str} {vs : List V} {H : Hp} {Q : VK} {E : XK} (hN : N.length = (pM ++ M2).length)
    (hb : ∀ (H0 : Hp) (io av : Addr → Prop) (rt : List (Nat × V)), (∀ i, i ∉ ioIx pM 0 → ∀ p ∈ rt, p.1 ≠ i) → VS ⟨K, H0, io, av, pM ++ M2, rt⟩ W rsh ts f)
    (hx : ∀ (Qx : Exn → Env → Prop) (c : Vc) (T : List Tm) (x : Exn) (d : Option Addr) (σ : L2.St) (e : Env) (H' : Hp), c.M = pM ++ M2 → R c T σ e H' → XAt H' x d → exV Qx x e → (∀ ps, ps = ioP pM e → Qx x ps → E (.ref x.C) d H') → W (.ref x.C) d σ H')
    (hsp : ∀ (ds : List D) (Qv : D → Env → Prop) (Qx : Exn → Env → Prop), ds.length = pM.length → sp ds Qv Qx → f ⟨fun e => rsh = .s ∧ Qv .non (ioP pM e), fun r e => Qv r (ioP pM e), fun _ => False, fun _ => False, exV Qx⟩ (ds.map some ++ nones M2))
    (h : spOf K pM rsh sp vs H Q E) : ts { nx := fun _ H' => Q .non H', rt := Q } (L2.start N vs) H := by
  have hl := h.len
  obtain ⟨c, ds, Qv, Qx, rfl, rfl, rfl, h4, ⟨hdl, fT, fV, hX⟩, hs, hq, he⟩ := h
  have hr : ∀ i, i ∉ ioIx c.M 0 → ∀ p ∈ c.rt, p.1 ≠ i := fun i hi p hp z => hi (by
    rw [h4] at hp
    rw [← z]
    exact roots_ix _ _ _ p hp)
  have hst : L2.start N vs = vs.map some ++ List.replicate M2.length none := by
    unfold L2.start
    rw [hN, List.length_append, hl]
    congr 2
    omega
  have hfT : fT = [] := hX.tm
  subst hfT
  have start' : R ⟨c.K, c.H0, c.io, c.av, c.M ++ M2, c.rt⟩ [] (vs.map some ++ List.replicate M2.length none) (ds.map some ++ List.replicate M2.length none) c.H0 := by
    refine ⟨[], fV, rfl, ?_, hX.nd, hX.fr, hX.kp, hX.tp, hX.al, hX.ok, fun p hp => ?_⟩
    · have z := RV.app (RV.nones (K := c.K) (ow := owOf c [] fV) (H := c.H0) M2) (hX.vr.strict (by rw [List.length_map]; exact hdl))
      rw [List.append_nil] at z
      exact .of z
    · have z := hX.rt p hp
      rw [List.getElem?_append_left ((List.getElem?_eq_some_iff.mp z).1)]
      exact z
  have back : ∀ {T : List Tm} {σ : L2.St} {e : Env} {H' : Hp}, R ⟨c.K, c.H0, c.io, c.av, c.M ++ M2, c.rt⟩ T σ e H' → R c T (vs.map some) (ioP c.M e) H' := by
    rintro T σ e H' ⟨gT, gV, Y⟩
    obtain ⟨e0, tl, g0, gt, ee, eg, rv, _⟩ := Y.vr
    subst ee eg
    obtain ⟨σ1, σ2, e1, e2, f1, f2, a, b, cc, h6, h7⟩ := RV.unapp rv
    subst a b cc
    have sub : ∀ x, x ∈ gT ++ f1 → x ∈ gT ++ ((f1 ++ f2) ++ gt) := fun x z => by
      simp only [List.mem_append] at z ⊢
      rcases z with z | z <;> simp [z]
    have how : ∀ x, owOf c gT f1 x → owOf ⟨c.K, c.H0, c.io, c.av, c.M ++ M2, c.rt⟩ gT ((f1 ++ f2) ++ gt) x ∨ H' x = none := fun x z => by
      rcases z with z | z
      · exact .inl (.inl (sub x z))
      · exact .inl (.inr z)
    have l1 := h6.len
    rw [List.append_assoc, ioP_app l1.2]
    refine ⟨gT, f1, Y.tm.fr (fun _ _ q _ => q) (ExtT.refl H') how (fun _ _ _ q => q), .of ?_, ?_, fun x z => Y.fr x (sub x z), Y.kp, Y.tp, Y.al, Y.ok, fun p hp => ?_⟩
    · refine RV.io (n := 0) (h6.fr (fun _ _ q _ => q) (ExtT.refl H') how (fun _ _ _ q => q)) hl fun p hp => ?_
      have z := Y.rt p (by rw [h4]; exact hp)
      obtain ⟨j, a, b⟩ := roots_at _ _ _ p hp
      refine ⟨j, a, ?_⟩
      rw [Nat.zero_add] at a
      rw [a, List.getElem?_append_left (by
        rw [l1.1, ← hl]
        exact (List.getElem?_eq_some_iff.mp b).1)] at z
      exact z
    · have n := Y.nd
      rw [List.append_assoc, ← List.append_assoc] at n
      exact (List.nodup_append.mp n).1
    · have hp' := hp
      rw [h4] at hp'
      obtain ⟨j, a, b⟩ := roots_at _ _ _ p hp'
      rw [Nat.zero_add] at a
      rw [a, List.getElem?_map, b]
      rfl
  have lio : ∀ {T : List Tm} {σ : L2.St} {e : Env} {H' : Hp}, R ⟨c.K, c.H0, c.io, c.av, c.M ++ M2, c.rt⟩ T σ e H' → (ioP c.M e).length = c.M.length := fun r => ioP_len (by
    have z := r.len
    simp only [List.length_append] at z
    omega)
  rw [hst]
  have hsp' := hsp ds Qv Qx hdl hs
  rw [nones_eq] at hsp'
  refine hb c.H0 c.io c.av c.rt hr [] _ _ c.H0 _ _ start' hsp' ⟨fun σ e H' r q => ?_, fun v d σ e H' r q => hq v d _ H' (lio r) (back r) q, fun _ _ _ _ q => q.elim, fun _ _ _ _ q => q.elim, fun x d σ e H' r y q => hx Qx _ _ x d σ e H' rfl r y q fun ps ep z => ?_⟩
  · obtain ⟨e1, q⟩ := q
    subst e1
    obtain ⟨gT, gV, Y⟩ := r
    exact hq .non .non _ H' (lio ⟨gT, gV, Y⟩) (back ⟨gT, gV, Y.pushS rs_non⟩) q
  · subst ep
    exact he x d _ H' (lio r) (back r) y z
/-- .. of a def that raises nothing -/
theorem fn_run0 {K : PySem.W.Frag} {pM M2 : List Sh} {rsh : Sh} {sp : VSp} {ts : TS} {f : VTS} {N : List Str} {vs : List V} {H : Hp} {Q : VK} {E : XK} (hN : N.length = (pM ++ M2).length)
    (hb : ∀ (H0 : Hp) (io av : Addr → Prop) (rt : List (Nat × V)), (∀ i, i ∉ ioIx pM 0 → ∀ p ∈ rt, p.1 ≠ i) → VS ⟨K, H0, io, av, pM ++ M2, rt⟩ W0 rsh ts f)
    (hsp : ∀ (ds : List D) (Qv : D → Env → Prop) (Qx : Exn → Env → Prop), ds.length = pM.length → sp ds Qv Qx → f ⟨fun e => rsh = .s ∧ Qv .non (ioP pM e), fun r e => Qv r (ioP pM e), fun _ => False, fun _ => False, fun _ _ => False⟩ (ds.map some ++ nones M2))
    (h : spOf K pM rsh sp vs H Q E) : ts { nx := fun _ H' => Q .non H', rt := Q } (L2.start N vs) H :=
  fn_run (exV := fun _ _ _ => False) hN hb (fun _ _ _ _ _ _ _ _ _ _ _ z => z.elim) hsp h
/-! ### calls -/
section
variable {c : Vc} {W : XW} {m : Md} {tA : TA} {fA : VTA}
def vCall (n : Nat) (sp : VSp) (fA : VTA) : VT := fun e Q Qx => fA e (fun ds e1 => ds.length = n ∧ sp ds (fun r _ => Q r e1) fun _ _ => False) Qx
theorem RV.ofS {K : PySem.W.Frag} {ow : Addr → Prop} {H : Hp} : ∀ {pM : List Sh} {vs : List V} {ds : List D}, (∀ sh ∈ pM, sh = .s) → RSs K ow H ds vs → ds.length = pM.length → RV K ow H pM (vs.map some) (ds.map some) []
  | [], _, [], _, r, _ => by
    simp only [RSs] at r
    rw [r]
    exact ⟨rfl, rfl, rfl⟩
  | [], _, d :: ds, _, _, hl => by cases hl
  | sh :: pM, _, [], _, _, hl => by cases hl
  | sh :: pM, _, d :: ds, hs, r, hl => by
    simp only [RSs] at r
    obtain ⟨v, w, rfl, r1, r2⟩ := r
    have e := hs sh List.mem_cons_self
    subst e
    exact ⟨some v, w.map some, some d, ds.map some, [], [], rfl, rfl, rfl, ⟨v, rfl, RO_s.mpr ⟨rfl, r1⟩⟩, RV.ofS (fun sh z => hs sh (List.mem_cons_of_mem _ z)) r2 (Nat.succ.inj hl)⟩
theorem RV.fpS {K : PySem.W.Frag} {ow : Addr → Prop} {H : Hp} : ∀ {pM : List Sh} {σ : L2.St} {e : Env} {fp : List Addr}, (∀ sh ∈ pM, sh = .s) → RV K ow H pM σ e fp → fp = []
  | [], _, _, _, _, h => h.2.2
  | sh :: pM, _, _, _, hs, ⟨x, σ', y, e', g1, g2, e1, e2, e3, h1, h3⟩ => by
    have e := hs sh List.mem_cons_self
    subst e
    have z : g1 = [] := by
      cases y with
      | none => exact h1
      | some d =>
        obtain ⟨v, _, r⟩ := h1
        exact (RO_s.mp r).1
    rw [e3, z, RV.fpS (fun sh z => hs sh (List.mem_cons_of_mem _ z)) h3]
    rfl
theorem roots_s : ∀ {pM : List Sh} {n : Nat} {vs : List V}, (∀ sh ∈ pM, sh = .s) → roots pM n vs = []
  | [], _, _, _ => by simp only [roots]
  | sh :: pM, _, [], hs => by cases sh <;> simp only [roots]
  | sh :: pM, n, v :: vs, hs => by
    have e := hs sh List.mem_cons_self
    subst e
    simp only [roots]
    exact roots_s fun sh z => hs sh (List.mem_cons_of_mem _ z)
theorem v_call {pM : List Sh} {rsh : Sh} {sp : VSp} {E : XK} (hA : VA c W m tA fA) (hs : ∀ sh ∈ pM, sh = .s) : VE c W m (tCall (spOf c.K pM rsh sp) [] E tA) rsh (vCall pM.length sp fA) := fun T σ e H Q Qv Qx hR hf hn hx => by
  refine hA T σ e H _ _ Qx hR hf (fun fT fV vs ds e1 H1 X1 rs p ⟨hl, q⟩ => ?_) hx
  rw [List.append_nil]
  have how : ∀ a, (a ∈ ([] : List Addr) ++ [] ∨ owOf c fT fV a) → owOf c fT fV a := fun a z => z.elim (fun y => by cases y) id
  refine ⟨⟨c.K, H1, fun _ => False, owOf c fT fV, pM, roots pM 0 vs⟩, ds, fun r _ => Qv r e1, fun _ _ => False, rfl, rfl, rfl, rfl, ⟨hl, [], [], rfl, .of (RV.ofS hs (rs.less how) hl), by simp, fun a z => (by cases z), fun b o q _ => q, ExtT.refl H1, fun b q => q, fun a z => ⟨X1.owS z, id⟩, fun p hp => (by rw [roots_s hs] at hp; cases hp)⟩, q, ?_, fun x d ps H' _ _ _ z => z.elim⟩
  rintro v r ps H' hpl ⟨gT, gV, Y⟩ q
  have sm : Same H1 H' := fun b o z => Y.kp b o z id
  have hg : gV = [] := RV.fpS hs (Y.vr.strict hpl)
  subst hg
  obtain ⟨f1, f2, e2, r1, r2⟩ := Y.tm
  have r2 : f2 = [] := r2
  subst r2
  rw [List.append_nil] at e2
  subst e2
  have nd := Y.nd
  rw [List.append_nil] at nd
  have fr : ∀ a ∈ gT, H1 a = none := fun a z => (Y.fr a (by rw [List.append_nil]; exact z)).elim (fun y => y.elim) id
  refine hn v r e1 H' ⟨gT ++ fT, fV, X1.pushO sm nd fr (RO.fr (fun _ _ q _ => q) (ExtT.refl H') (fun a z => ?_) _ _ _ _ r1 (fun _ _ _ q => q))⟩ (p.trans (Post.same sm)) q
  rcases z with z | z
  · rw [List.append_assoc] at z
    rcases List.mem_append.mp z with z | z
    · exact .inl (.inl (by rw [List.append_nil]; exact z))
    · exact .inl (.inr (.inl z))
  · exact .inl (.inr (.inr z))
end
end VL
set_option Elab.async false
set_option linter.all false
set_option maxRecDepth 100000
set_option maxHeartbeats 2000000
namespace VL
open PySem PySem.Spec PyProof.Rows L2
theorem u65 {k : Nat} {A : Around} (r : Room k A) : A.units + 65 < cLine := by have := r.un; omega
/-! ### dicts -/
def kD : Key → D
  | .inl i => .int i
  | .inr x => .str x
def getK : List Key → List D → Key → Option D
  | k :: ks, d :: ds, x => if k = x then some d else getK ks ds x
  | _, _, _ => none
section
variable {K : PySem.W.Frag} {ow : Addr → Prop} {H : Hp}
theorem RB.key {k : Key} {v : V} (h : RB K ow H (kD k) v) : v = kV k := by
  cases k with
  | inl i => exact h.int
  | inr x => exact h.str
theorem getK_val {k : Key} : ∀ {ks : List Key} {l : List D} {vs : List V}, ks.length = vs.length → RSs K ow H l vs → (∀ d, getK ks l k = some d → ∃ v, valV (ks.zip vs) k = some v ∧ RS K ow H d v) ∧ (getK ks l k = none → valV (ks.zip vs) k = none)
  | [], l, vs, hl, r => by
    cases vs with
    | nil => exact ⟨fun d h => by simp [getK] at h, fun _ => rfl⟩
    | cons v vs => cases hl
  | k0 :: ks, [], vs, hl, r => by
    simp only [RSs] at r
    rw [r] at hl
    cases hl
  | k0 :: ks, d0 :: l, vs, hl, r => by
    simp only [RSs] at r
    obtain ⟨v, w, rfl, r1, r2⟩ := r
    obtain ⟨a, b⟩ := getK_val (k := k) (ks := ks) (Nat.succ.inj hl) r2
    rw [List.zip_cons_cons]
    by_cases e : k0 = k
    · refine ⟨fun d h => ?_, fun h => ?_⟩
      · simp only [getK, if_pos e, Option.some.injEq] at h
        subst h
        exact ⟨v, valV_pos e, r1⟩
      · simp only [getK, if_pos e] at h
        cases h
    · refine ⟨fun d h => ?_, fun h => ?_⟩
      · simp only [getK, if_neg e] at h
        obtain ⟨u, h1, h2⟩ := a d h
        exact ⟨u, (valV_neg e).trans h1, h2⟩
      · simp only [getK, if_neg e] at h
        exact (valV_neg e).trans (b h)
end
section
variable {c : Vc} {W : XW} {m : Md} {ta tb td te : TE} {fa fb fd fe : VT} {tA : TA} {fA : VTA}
def gDGet : G2
  | .dct ks l, y, Q => ∃ k d, y = kD k ∧ getK ks l k = some d ∧ Q d
  | _, _, _ => False
theorem od_dget {K : PySem.W.Frag} : OpD K (fun x y H Q => ∃ a v, x = .ref a ∧ DGet H a y (some v) ∧ Q v H) gDGet := fun ow H x y dx dy Q Qd rx ry hg hn => by
  cases dx <;> first | exact hg.elim | skip
  obtain ⟨k, d, rfl, hk, q⟩ := hg
  obtain ⟨a, vs, rfl, s, n, r⟩ := rx.dct
  obtain ⟨v, hv, rv⟩ := (getK_val n r).1 d hk
  exact ⟨a, v, rfl, .inl ⟨_, k, s, ry.key, hv.symm⟩, hn _ _ rv q⟩
def vDGet (fd fa : VT) : VT := vOp2 gDGet fd fa
theorem q_dget (h1 : VB c td fd) (h2 : VB c ta fa) : VQ c (tDGet td ta) (vDGet fd fa) := q_op h1 h2 od_dget
theorem v_dget (h1 : VE c W m td .s fd) (h2 : VE c W m ta .s fa) : VE c W m (tDGet td ta) .s (vDGet fd fa) := v_op h1 h2 od_dget
def hasK (ks : List Key) (k : Key) : Bool := ks.any fun z => decide (z = k)
def gDIn (neg : Bool) : D → D → (D → Prop) → Prop
  | y, .dct ks l, Q => ∃ k, y = kD k ∧ ks.length = l.length ∧ Q (.bl (if neg then !hasK ks k else hasK ks k))
  | _, _, _ => False
theorem valV_mem {k : Key} : ∀ {ks : List Key} {vs : List V}, ks.length = vs.length → (valV (ks.zip vs) k).isSome = hasK ks k
  | [], vs, _ => by simp [valV, hasK]
  | k0 :: ks, [], h => by cases h
  | k0 :: ks, v :: vs, h => by
    rw [List.zip_cons_cons]
    by_cases e : k0 = k
    · rw [valV_pos e]
      simp [hasK, e]
    · rw [valV_neg e, valV_mem (Nat.succ.inj h)]
      simp [hasK, e]
theorem od_din {K : PySem.W.Frag} : OpD K (fun y x H Q => ∃ a o, x = .ref a ∧ DGet H a y o ∧ Q (.bl o.isSome) H) (gDIn false) := fun ow H x y dx dy Q Qd rx ry hg hn => by
  cases dy <;> first | (simp only [gDIn] at hg; done) | skip
  simp only [gDIn] at hg
  obtain ⟨k, rfl, hl, q⟩ := hg
  obtain ⟨a, vs, rfl, s, n, r⟩ := ry.dct
  exact ⟨a, _, rfl, .inl ⟨_, k, s, rx.key, rfl⟩, hn _ _ (by rw [valV_mem n]; exact rs_bl) q⟩
theorem od_dnotin {K : PySem.W.Frag} : OpD K (fun y x H Q => ∃ a o, x = .ref a ∧ DGet H a y o ∧ Q (.bl (!o.isSome)) H) (gDIn true) := fun ow H x y dx dy Q Qd rx ry hg hn => by
  cases dy <;> first | (simp only [gDIn] at hg; done) | skip
  simp only [gDIn] at hg
  obtain ⟨k, rfl, hl, q⟩ := hg
  obtain ⟨a, vs, rfl, s, n, r⟩ := ry.dct
  exact ⟨a, _, rfl, .inl ⟨_, k, s, rx.key, rfl⟩, hn _ _ (by rw [valV_mem n]; exact rs_bl) q⟩
theorem q_din (h2 : VB c ta fa) (h1 : VB c td fd) : VQ c (tDIn ta td) (vOp2 (gDIn false) fa fd) := q_op h2 h1 od_din
theorem v_din (h2 : VE c W m ta .s fa) (h1 : VE c W m td .s fd) : VE c W m (tDIn ta td) .s (vOp2 (gDIn false) fa fd) := v_op h2 h1 od_din
theorem q_dnotin (h2 : VB c ta fa) (h1 : VB c td fd) : VQ c (tDNotIn ta td) (vOp2 (gDIn true) fa fd) := q_op h2 h1 od_dnotin
theorem v_dnotin (h2 : VE c W m ta .s fa) (h1 : VE c W m td .s fd) : VE c W m (tDNotIn ta td) .s (vOp2 (gDIn true) fa fd) := v_op h2 h1 od_dnotin
def gGet2 : D → D → D → (D → Prop) → Prop
  | .dct ks l, y, z, Q => ∃ k, y = kD k ∧ Q ((getK ks l k).getD z)
  | _, _, _, _ => False
def vGet2 (fd fa fb : VT) : VT := fun e Q Qx => fd e (fun x e1 => (∃ ks l, x = .dct ks l) ∧ fa e1 (fun y e2 => fb e2 (fun z e3 => gGet2 x y z fun r => Q r e3) Qx) Qx) Qx
theorem v_get2 (hd : VE c W m td .s fd) (ha : VE c W m ta .s fa) (hb : VE c W m tb .s fb) : VE c W m (tDGet2 td ta tb) .s (vGet2 fd fa fb) := fun T σ e H Q Qv Qx hR hf hn hx => by
  refine hd T σ e H _ _ Qx hR hf (fun x dx e1 H1 R1 P1 ⟨⟨ks, l, ex⟩, h1⟩ => ?_) hx
  subst ex
  obtain ⟨fT, fV, X1⟩ := R1
  obtain ⟨rx, _⟩ := X1.topS
  obtain ⟨a, vs, ea, s, n, r⟩ := rx.b.dct
  subst ea
  refine ⟨a, rfl, .inl ⟨_, s⟩, ?_⟩
  refine two ha hb ⟨fT, fV, X1⟩ h1 (fun gT gV y z dy dz e' H' X' ry rz p q => ?_) (fun xn d e' H' R' X' q' => hx xn d e' H' R'.pop X' q')
  obtain ⟨k, ey, q⟩ := q
  subst ey
  obtain ⟨rx', X''⟩ := X'.topS
  obtain ⟨a', vs', ea, s', n', r'⟩ := rx'.b.dct
  cases ea
  refine ⟨valV (ks.zip vs') k, .inl ⟨_, k, s', ry.b.key, rfl⟩, hn _ _ e' H' ⟨gT, gV, X''.pushS ?_⟩ (P1.trans p) q⟩
  obtain ⟨h1, h2⟩ := getK_val (k := k) n' r'
  cases g : getK ks l k with
  | none =>
    rw [h2 g]
    exact rz
  | some d =>
    obtain ⟨v, hv, rv⟩ := h1 d g
    rw [hv]
    exact rv
/-! {..} -/
abbrev VTP := Env → (List (Key × D) → Env → Prop) → QX → Prop
def VPs (c : Vc) (W : XW) (m : Md) (trs : List (TE × TE)) (f : VTP) : Prop := ∀ (T : List Tm) (σ : L2.St) (e : Env) (H : Hp) (Q : List (V × V) → Hp → Prop) (Qv : List (Key × D) → Env → Prop) (Qx : QX), R c T σ e H → f e Qv Qx →
  (∀ fT fV ps kds e' H', RX c fT fV T σ e' H' → Paired (fun (k : Key × D) (p : V × V) => p.1 = kV k.1 ∧ RS c.K (owOf c fT fV) H' k.2 p.2) kds ps → Post m H H' e e' → Qv kds e' → Q ps H') → (∀ x d e' H', R c T σ e' H' → XAt H' x d → Qx x e' → W (.ref x.C) d σ H') → tPairs trs σ H Q
def vpNil : VTP := fun e Q _ => Q [] e
def vpCons (fa fb : VT) (r : VTP) : VTP := fun e Q Qx => fa e (fun kd e1 => ∃ k, kd = kD k ∧ fb e1 (fun d e2 => r e2 (fun ps e3 => Q ((k, d) :: ps) e3) Qx) Qx) Qx
variable {trs : List (TE × TE)} {fp : VTP}
theorem vp_nil : VPs c W m [] vpNil := fun T σ e H Q Qv Qx ⟨fT, fV, hR⟩ hf hn hx => hn fT fV [] [] e H hR .nil (Post.refl _ _ _) hf
theorem vp_cons (ha : VE c W m ta .s fa) (hb : VE c W m tb .s fb) (hr : VPs c W m trs fp) : VPs c W m ((ta, tb) :: trs) (vpCons fa fb fp) := fun T σ e H Q Qv Qx hR hf hn hx => by
  refine ha T σ e H _ _ Qx hR hf (fun x dx e1 H1 R1 P1 ⟨k, ek, h1⟩ => ?_) hx
  subst ek
  have ex : x = kV k := by
    obtain ⟨fT, fV, X1⟩ := R1
    exact X1.topS.1.b.key
  refine hb T σ e1 H1 _ _ Qx R1.pop h1 (fun y dy e2 H2 R2 P2 h2 => ?_) hx
  refine hr _ σ e2 H2 _ _ Qx R2 h2 (fun fT fV ps kds e3 H3 X3 rs P3 h3 => ?_) (fun xn d e' H' R' X' q' => hx xn d e' H' R'.pop X' q')
  obtain ⟨ry, X3⟩ := X3.topS
  exact hn fT fV _ _ e3 H3 X3 (.cons ⟨ex, ry⟩ rs) (P1.trans (P2.trans P3)) h3
def ndK (ks : List Key) : Bool := decide ks.Nodup
def vDisp (fp : VTP) : VT := fun e Q Qx => fp e (fun kd e1 => ndK (kd.map (·.1)) = true ∧ kd.length ≤ 15 ∧ Q (.dct (kd.map (·.1)) (kd.map (·.2))) e1) Qx
theorem merge_nodup : ∀ (kvs acc : List (Key × V)), ((acc ++ kvs).map (·.1)).Nodup → mergeK acc kvs = acc ++ kvs
  | [], acc, _ => by simp [mergeK]
  | kv :: kvs, acc, h => by
    have hk : (acc.any fun z => decide (z.1 = kv.1)) = false := by
      rw [List.any_eq_false]
      intro z hz
      simp only [decide_eq_true_eq]
      intro e
      rw [List.map_append, List.nodup_append] at h
      exact h.2.2 z.1 (List.mem_map_of_mem hz) kv.1 (List.mem_map_of_mem List.mem_cons_self) e
    have e : putK acc kv.1 kv.2 = acc ++ [kv] := by
      unfold putK
      rw [hk]
      simp
    show mergeK (putK acc kv.1 kv.2) kvs = _
    rw [e, merge_nodup kvs (acc ++ [kv]) (by simpa using h)]
    simp
theorem v_disp (hp : VPs c W m trs fp) : VE c W m (tDisp trs) (.d fun _ => .s) (vDisp fp) := fun T σ e H Q Qv Qx hR hf hn hx => by
  intro p np
  obtain ⟨fT0, fV0, X0⟩ := hR
  have X1 : RX c ([p] ++ fT0) fV0 ((.d fun _ => .s, .ref p, .dct [] []) :: T) σ e (upd H p (.dK [])) := X0.pushO (same_new np) (by simp) (fun a z => by rw [List.mem_singleton.mp z]; exact np) (by
    simp only [RO]
    exact ⟨p, [], [], rfl, upd_same, rfl, by simp only [ROs, List.map_nil]; exact ⟨trivial, trivial, trivial⟩, rfl⟩)
  refine hp _ σ e _ _ _ Qx ⟨_, _, X1⟩ hf (fun fT fV ps kds e1 H1 X2 rs P q => ?_) (fun xn d e' H' R' X' q' => hx xn d e' H' R'.pop X' q')
  obtain ⟨nd, h15, q⟩ := q
  have nd : (kds.map (·.1)).Nodup := of_decide_eq_true nd
  obtain ⟨fpp, fT', e1', ro, nf, k⟩ := X2.updT
  simp only [RO] at ro
  obtain ⟨a, vs, fps, ea, ha, hl, t, rfl⟩ := ro
  cases ea
  simp only [ROs, List.map_nil] at t
  obtain ⟨-, rfl, rfl⟩ := t
  have ha : H1 p = some (.dK []) := ha
  -- the pairs
  have key : ∀ (kd : List (Key × D)) (ps : List (V × V)), Paired (fun (k : Key × D) (p : V × V) => p.1 = kV k.1 ∧ RS c.K (owOf c fT fV) H1 k.2 p.2) kd ps → ∃ ws, ps = ((kd.map (·.1)).zip ws).map (fun kv => (kV kv.1, kv.2)) ∧ RSs c.K (owOf c fT fV) H1 (kd.map (·.2)) ws := fun kd => by
    induction kd with
    | nil =>
      intro ps h
      cases h
      exact ⟨[], rfl, .nil⟩
    | cons z kd ih =>
      intro ps h
      cases h with
      | cons h1 h2 =>
        rename_i y ys
        obtain ⟨ws, e, r⟩ := ih _ h2
        refine ⟨y.2 :: ws, ?_, .cons h1.2 r⟩
        rw [List.map_cons, List.zip_cons_cons, List.map_cons, ← e, ← h1.1]
  obtain ⟨ws, eps, rws⟩ := key kds ps rs
  have lw := rws.len
  rw [List.length_map] at lw
  refine ⟨ha, (kds.map (·.1)).zip ws, eps, by rw [List.length_zip, List.length_map, lw, Nat.min_self]; exact h15, ?_⟩
  have em : mergeK [] ((kds.map (·.1)).zip ws) = (kds.map (·.1)).zip ws := by
    rw [merge_nodup _ [] (by
      rw [List.nil_append, List.map_fst_zip (by rw [List.length_map, lw]; exact Nat.le_refl _)]
      exact nd)]
    rfl
  rw [em]
  have nfx : ∀ u, H1 p = some u → ¬ Fx u := fun u z => by rw [ha] at z; cases z; exact id
  refine hn _ _ e1 _ ⟨_, fV, k (upd H1 p (.dK ((kds.map (·.1)).zip ws))) (.dct (kds.map (·.1)) (kds.map (·.2))) [p] (fun b o z n => ?_) (ExtT.upd nfx) al_upd (by simp) (fun b z => .inl z) fun ow' how => ?_⟩ (fun z => ?_) q
  · rw [upd_ne (fun y => n (by rw [y]; exact List.mem_singleton_self p))]
    exact z
  · have F : Fr (owOf c fT fV) H1 (upd H1 p (.dK ((kds.map (·.1)).zip ws))) := ⟨fun b o z n => by
      rw [upd_ne (fun y => n (.inl (by rw [y, e1']; simp)))]
      exact z, ExtT.upd nfx⟩
    have r' := RSs.fr F how _ _ rws
    simp only [RO]
    refine ⟨p, ws, [], rfl, upd_same, by rw [List.length_map, lw], ?_, rfl⟩
    have z := ROs_s.mpr ⟨rfl, r'⟩
    have e : (kds.map (·.1)).map (fun _ => Sh.s) = (kds.map (·.2)).map fun _ => Sh.s := by simp [List.map_map, Function.comp_def]
    rw [e]
    exact z
  · intro b o eb
    rw [upd_ne (ne_of_none eb np)]
    exact P z b o (same_new np b o eb)
/-! methods of texts and lists -/
def MtD (K : PySem.W.Frag) (r : V → List V → Hp → VK → Prop) (g : D → D → (D → Prop) → Prop) : Prop := ∀ (ow : Addr → Prop) (H : Hp) (x y : V) (dx dy : D) (Q : VK) (Qd : D → Prop), RB K ow H dx x → RB K ow H dy y → g dx dy Qd → (∀ z v, RS K ow H z v → Qd z → Q v H) → r x [y] H Q
def isStr : D → Prop
  | .str _ => True
  | _ => False
def vM1 (g : G2) (fa fb : VT) : VT := fun e Q Qx => fa e (fun x e1 => isStr x ∧ fb e1 (fun y e2 => g x y fun z => Q z e2) Qx) Qx
theorem RX.str {fT fV : List Addr} {T : List Tm} {σ : L2.St} {e : Env} {H : Hp} {x : V} {d : D} (h : RX c fT fV ((.s, x, d) :: T) σ e H) (i : isStr d) : ∃ a, x = .str a := by
  cases d <;> first | exact i.elim | skip
  exact ⟨_, h.topS.1.b.str⟩
theorem v_m1 {r : V → List V → Hp → VK → Prop} {g : G2} (ha : VE c W m ta .s fa) (hb : VE c W m tb .s fb) (ho : MtD c.K r g) : VE c W m (tM1 r ta tb) .s (vM1 g fa fb) := fun T σ e H Q Qv Qx hR hf hn hx => by
  refine ha T σ e H _ _ Qx hR hf (fun x dx e1 H1 R1 P1 ⟨i, h1⟩ => ?_) hx
  obtain ⟨fT, fV, X1⟩ := R1
  refine ⟨X1.str i, hb ((.s, x, dx) :: T) σ e1 H1 _ _ Qx ⟨fT, fV, X1⟩ h1 (fun y dy e2 H2 R2 P2 q => ?_) (fun xn d e' H' R' X' q' => hx xn d e' H' R'.pop X' q')⟩
  obtain ⟨gT, gV, X2⟩ := R2
  obtain ⟨ry, X2⟩ := X2.topS
  obtain ⟨rx, X2⟩ := X2.topS
  exact ho _ H2 x y dx dy Q _ rx.b ry.b q fun z v rz qz => hn v z e2 H2 ⟨gT, gV, X2.pushS rz⟩ (P1.trans P2) qz
def gJoin : G2
  | .str a, .lst l, Q => ∃ ys : List Str, l = ys.map D.str ∧ (ys.map (·.length)).sum + ys.length * a.length ≤ 16777216 ∧ Q (.str (Txt.join a ys))
  | .str a, .tup l, Q => ∃ ys : List Str, l = ys.map D.str ∧ (ys.map (·.length)).sum + ys.length * a.length ≤ 16777216 ∧ Q (.str (Txt.join a ys))
  | _, _, _ => False
theorem RSs.strs {K : PySem.W.Frag} {ow : Addr → Prop} {H : Hp} {ns : List Str} {vs : List V} (h : RSs K ow H (ns.map D.str) vs) : vs = ns.map V.str := by
  rw [h.sc (by
    rw [List.all_eq_true]
    intro d hd
    obtain ⟨n, _, rfl⟩ := List.mem_map.mp hd
    rfl), List.map_map]
  rfl
theorem md_join {K : PySem.W.Frag} : MtD K (fun x xs H Q => ∃ a p, ∃ ys : List Str, x = .str a ∧ xs = [.ref p] ∧ (SqL K H p (ys.map V.str) ∨ SqT K H p (ys.map V.str)) ∧ (ys.map (·.length)).sum + ys.length * a.length ≤ 16777216 ∧ Q (.str (Txt.join a ys)) H) gJoin := fun ow H x y dx dy Q Qd rx ry hg hn => by
  cases dx <;> first | exact hg.elim | skip
  cases dy <;> first | exact hg.elim | skip
  · obtain ⟨ys, rfl, hz, q⟩ := hg
    obtain ⟨a, vs, rfl, s, r⟩ := ry.tup
    have e := r.strs
    subst e
    exact ⟨_, a, ys, rx.str, rfl, .inr s, hz, hn _ _ rs_str q⟩
  · obtain ⟨ys, rfl, hz, q⟩ := hg
    obtain ⟨a, vs, rfl, s, r⟩ := ry.lst
    have e := r.strs
    subst e
    exact ⟨_, a, ys, rx.str, rfl, .inl s.sq, hz, hn _ _ rs_str q⟩
theorem v_join (ha : VE c W m ta .s fa) (hb : VE c W m tb .s fb) : VE c W m (tM1 (fun x xs H Q => ∃ a p, ∃ ys : List Str, x = .str a ∧ xs = [.ref p] ∧ (SqL c.K H p (ys.map V.str) ∨ SqT c.K H p (ys.map V.str)) ∧ (ys.map (·.length)).sum + ys.length * a.length ≤ 16777216 ∧ Q (.str (Txt.join a ys)) H) ta tb) .s (vM1 gJoin fa fb) := v_m1 ha hb md_join
def vSplit (fa fb : VT) : VT := fun e Q Qx => fa e (fun x e1 => isStr x ∧ fb e1 (fun y e2 => ∃ a b, x = .str a ∧ y = .str b ∧ (b.length == 0) = false ∧ a.length + 2 ≤ sizeLine ∧ Q (.lst ((Txt.split a b).map D.str)) e2) Qx) Qx
theorem rs_strs {K : PySem.W.Frag} {ow : Addr → Prop} {H : Hp} : ∀ ys : List Str, RSs K ow H (ys.map D.str) (ys.map V.str)
  | [] => .nil
  | y :: ys => .cons rs_str (rs_strs ys)
theorem v_split (ha : VE c W m ta .s fa) (hb : VE c W m tb .s fb) : VE c W m (tM1 (fun x xs H Q => ∃ a b, x = .str a ∧ xs = [.str b] ∧ (b.length == 0) = false ∧ a.length + 2 ≤ sizeLine ∧ rNewStrs (Txt.split a b) H Q) ta tb) (.l .s) (vSplit fa fb) := fun T σ e H Q Qv Qx hR hf hn hx => by
  refine ha T σ e H _ _ Qx hR hf (fun x dx e1 H1 R1 P1 ⟨i, h1⟩ => ?_) hx
  obtain ⟨fT, fV, X1⟩ := R1
  refine ⟨X1.str i, hb ((.s, x, dx) :: T) σ e1 H1 _ _ Qx ⟨fT, fV, X1⟩ h1 (fun y dy e2 H2 R2 P2 ⟨a, b, ea, eb, hz, hl, q⟩ => ?_) (fun xn d e' H' R' X' q' => hx xn d e' H' R'.pop X' q')⟩
  subst ea eb
  obtain ⟨gT, gV, X2⟩ := R2
  obtain ⟨ry, X2⟩ := X2.topS
  obtain ⟨rx, X2⟩ := X2.topS
  exact ⟨a, b, rx.b.str, by rw [ry.b.str], hz, hl, fun p np => hn _ _ e2 _ (X2.newL np (rs_strs _)) (P1.trans (P2.trans (Post.same (same_new np)))) q⟩
def vIndexD (fa fb : VT) : VT := fun e Q Qx => fa e (fun x e1 => ∃ l, x = .lst l ∧ fb e1 (fun y e2 => plains l = true ∧ plain y = true ∧ SeqAt.shaped (.list (pys l)) = true ∧ SeqAt.shaped (py y) = true ∧ ∃ (j : Nat) (z : PyData), (pys l)[j]? = some z ∧ PyData.eqv z (py y) = true ∧
  (∀ (k : Nat) (z' : PyData), k < j → (pys l)[k]? = some z' → PyData.eqv z' (py y) = false) ∧ Q (.int (j : Nat)) e2) Qx) Qx
theorem v_indexD (ha : VE c W m ta .s fa) (hb : VE c W m tb .s fb) : VE c W m (tBM c.K "list" (rIndexD c.K) ta (tCons tb tNil)) .s (vIndexD fa fb) := fun T σ e H Q Qv Qx hR hf hn hx => by
  refine ha T σ e H _ _ Qx hR hf (fun x dx e1 H1 R1 P1 ⟨l, ex, h1⟩ => ?_) hx
  subst ex
  obtain ⟨fT, fV, X1⟩ := R1
  obtain ⟨rx, _⟩ := X1.topS
  obtain ⟨a, vs, ea, s, r⟩ := rx.b.lst
  subst ea
  refine ⟨.inl ⟨rfl, vs, s.sq⟩, hb ((.s, .ref a, .lst l) :: T) σ e1 H1 _ _ Qx ⟨fT, fV, X1⟩ h1 (fun y dy e2 H2 R2 P2 ⟨g1, g2, g3, g4, j, z, g5, g6, g7, q⟩ => ?_) (fun xn d e' H' R' X' q' => hx xn d e' H' R'.pop X' q')⟩
  obtain ⟨gT, gV, X2⟩ := R2
  obtain ⟨ry, X2⟩ := X2.topS
  obtain ⟨rx, X2⟩ := X2.topS
  have dl := rx.b.dp (by simpa only [plain] using g1)
  rw [py] at dl
  exact ⟨a, y, _, _, j, z, rfl, rfl, dl, ry.b.dp g2, g3, g4, g5, g6, g7, hn _ _ e2 H2 ⟨gT, gV, X2.pushS rs_int⟩ (P1.trans P2) q⟩
end
end VL
set_option Elab.async false
set_option linter.all false
set_option maxRecDepth 100000
set_option maxHeartbeats 2000000
namespace VL
open PySem PySem.Spec PyProof.Rows L2
/-! ### readings, opened -/
section
variable {i j n : Nat} {f g h : VTS} {fa fb fc fd : VT} {ft gt : VTB} {fA : VTA} {fl fh : VTO} {fi : VTI} {vg : VTG} {vgs : VTGs} {e : Env} {Q : QV} {QB : Bool → Env → Prop} {QA : List D → Env → Prop} {QO : Option Int → Env → Prop} {Qx : QX} {U : VEnds} {QE : Env → Prop} {d x y : D} {l : List D}
@[simp] theorem s_seq : vSeq f g U e = f { U with nx := g U } e := rfl
@[simp] theorem s_next : vNext U e = U.nx e := rfl
@[simp] theorem s_break : vBreak U e = U.bk e := rfl
@[simp] theorem s_cont : vCont U e = U.ct e := rfl
@[simp] theorem s_set : vSet i fa U e = fa e (fun d e1 => U.nx (e1.set i (some d))) U.ex := rfl
@[simp] theorem s_ret : vRet fa U e = fa e U.rt U.ex := rfl
@[simp] theorem s_retN : vRetN U e = U.rt .non e := rfl
@[simp] theorem s_drop : vDrop fa U e = fa e (fun _ e1 => U.nx e1) U.ex := rfl
@[simp] theorem s_ifS : vIfS ft f g U e = ft e (fun b e1 => if b = true then f U e1 else g U e1) U.ex := rfl
@[simp] theorem s_for : vFor fi vg f U e = fi e (fun ds e1 => vForL vg f U ds e1) U.ex := rfl
@[simp] theorem s_asg : vAsg fa vg U e = fa e (fun d e1 => vg d e1 U.nx) U.ex := rfl
@[simp] theorem s_par : vPar i j fA U e = fA e (fun ds e1 => ∃ a b, ds = [a, b] ∧ U.nx ((e1.set i (some a)).set j (some b))) U.ex := rfl
@[simp] theorem s_var : vVar i e Q Qx = ∃ d, e[i]? = some (some d) ∧ Q d e := rfl
@[simp] theorem s_c : vC d e Q Qx = Q d e := rfl
@[simp] theorem s_op2 {g : G2} : vOp2 g fa fb e Q Qx = fa e (fun x e1 => fb e1 (fun y e2 => g x y fun z => Q z e2) Qx) Qx := rfl
@[simp] theorem s_op2L {g : G2L} : vOp2L g fa fb e Q Qx = fa e (fun x e1 => fb e1 (fun y e2 => g x y fun z => Q (.lst z) e2) Qx) Qx := rfl
@[simp] theorem s_op2T {g : G2L} : vOp2T g fa fb e Q Qx = fa e (fun x e1 => fb e1 (fun y e2 => g x y fun z => Q (.tup z) e2) Qx) Qx := rfl
@[simp] theorem s_ca {g : GA} : vCa g fA e Q Qx = fA e (fun xs e1 => g xs fun z => Q z e1) Qx := rfl
@[simp] theorem s_caL {g : GAL} : vCaL g fA e Q Qx = fA e (fun xs e1 => g xs fun z => Q (.lst z) e1) Qx := rfl
@[simp] theorem s_caT {g : GAL} : vCaT g fA e Q Qx = fA e (fun xs e1 => g xs fun z => Q (.tup z) e1) Qx := rfl
@[simp] theorem s_nil : vNil e QA Qx = QA [] e := rfl
@[simp] theorem s_cons : vCons fa fA e QA Qx = fa e (fun x e1 => fA e1 (fun xs e2 => QA (x :: xs) e2) Qx) Qx := rfl
@[simp] theorem s_tup : vTup fA e Q Qx = fA e (fun xs e1 => xs.length ≤ sizeLine ∧ Q (.tup xs) e1) Qx := rfl
@[simp] theorem s_lst : vLst fA e Q Qx = fA e (fun xs e1 => xs.length ≤ sizeLine ∧ Q (.lst xs) e1) Qx := rfl
@[simp] theorem s_test : vTest fa e QB Qx = fa e (fun d e1 => ∃ b, d = .bl b ∧ QB b e1) Qx := rfl
@[simp] theorem s_and : vAnd ft gt e QB Qx = ft e (fun b e1 => if b = true then gt e1 QB Qx else QB false e1) Qx := rfl
@[simp] theorem s_or : vOr ft gt e QB Qx = ft e (fun b e1 => if b = true then QB true e1 else gt e1 QB Qx) Qx := rfl
@[simp] theorem s_not : vNot ft e QB Qx = ft e (fun b e1 => QB (!b) e1) Qx := rfl
@[simp] theorem s_if : vIf ft fa fb e Q Qx = ft e (fun b e1 => if b = true then fa e1 Q Qx else fb e1 Q Qx) Qx := rfl
@[simp] theorem s_andV : vAndV fa fb e Q Qx = fa e (fun x e1 => ∃ b, x = .bl b ∧ if b = true then fb e1 Q Qx else Q (.bl false) e1) Qx := rfl
@[simp] theorem s_orV : vOrV fa fb e Q Qx = fa e (fun x e1 => ∃ b, x = .bl b ∧ if b = true then Q (.bl true) e1 else fb e1 Q Qx) Qx := rfl
@[simp] theorem s_notV : vNotV fa e Q Qx = fa e (fun x e1 => ∃ b, x = .bl b ∧ Q (.bl (!b)) e1) Qx := rfl
@[simp] theorem s_no : vNo e QO Qx = QO none e := rfl
@[simp] theorem s_part : vPart fa e QO Qx = fa e (fun d e1 => ∃ i, d = .int i ∧ QO (some i) e1) Qx := rfl
@[simp] theorem s_sl {g : D → Option Int → Option Int → (D → Prop) → Prop} : vSl g fa fl fh e Q Qx = fa e (fun x e1 => fl e1 (fun lo e2 => fh e2 (fun hi e3 => g x lo hi fun z => Q z e3) Qx) Qx) Qx := rfl
@[simp] theorem s_slL {g : D → Option Int → Option Int → (List D → Prop) → Prop} : vSlL g fa fl fh e Q Qx = fa e (fun x e1 => fl e1 (fun lo e2 => fh e2 (fun hi e3 => g x lo hi fun z => Q (.lst z) e3) Qx) Qx) Qx := rfl
@[simp] theorem s_slT {g : D → Option Int → Option Int → (List D → Prop) → Prop} : vSlT g fa fl fh e Q Qx = fa e (fun x e1 => fl e1 (fun lo e2 => fh e2 (fun hi e3 => g x lo hi fun z => Q (.tup z) e3) Qx) Qx) Qx := rfl
@[simp] theorem s_ls : vLs fa e QA Qx = fa e (fun d e1 => ∃ l, d = .lst l ∧ QA l e1) Qx := rfl
@[simp] theorem s_ts : vTs fa e QA Qx = fa e (fun d e1 => ∃ l, d = .tup l ∧ QA l e1) Qx := rfl
@[simp] theorem s_sgs : vSgs fa e QA Qx = fa e (fun d e1 => ∃ z, d = .str z ∧ QA (sgD z) e1) Qx := rfl
@[simp] theorem s_rng1 : vRng1 fA e QA Qx = fA e (fun ds e1 => ∃ j : Int, ds = [.int j] ∧ -(2 ^ 62) ≤ j ∧ j < 2 ^ 62 ∧ QA (rngD 0 j.toNat) e1) Qx := rfl
@[simp] theorem s_rng2 : vRng2 fA e QA Qx = fA e (fun ds e1 => ∃ i j : Int, ds = [.int i, .int j] ∧ (-(2 ^ 62) ≤ i ∧ i < 2 ^ 62 ∧ -(2 ^ 62) ≤ j ∧ j < 2 ^ 62) ∧ QA (rngD i (j - i).toNat) e1) Qx := rfl
@[simp] theorem s_gName : vgName i d e QE = QE (e.set i (some d)) := rfl
@[simp] theorem s_gNil : vgNil l e QE = (l = [] ∧ QE e) := rfl
@[simp] theorem s_gCons : vgCons vg vgs (d :: l) e QE = vg d e fun e1 => vgs l e1 QE := rfl
@[simp] theorem s_gTup : vgTup n vgs (.tup l) e QE = (l.length = n ∧ vgs l e QE) := rfl
theorem s_forNil : vForL vg f U [] e = U.nx e := rfl
theorem s_forCons : vForL vg f U (d :: l) e = vg d e fun e1 => f { U with nx := vForL vg f U l, ct := vForL vg f U l, bk := U.nx } e1 := rfl
@[simp] theorem s_lc {vs : List Nat} : vLc fi vs vg ft fa e Q Qx = fi e (fun ds e1 => vLcL vs vg ft fa (fun acc e2 => Q (.lst acc) e2) ds [] (wipeE e1 vs)) Qx := rfl
theorem s_lcNil {vs : List Nat} {acc : List D} : vLcL vs vg ft fa QA [] acc e = QA acc e := rfl
theorem s_lcCons {vs : List Nat} {acc : List D} : vLcL vs vg ft fa QA (d :: l) acc e = vg d e fun e1 => ft e1 (fun b e2 => if b = true then fa e2 (fun y e3 => acc.length < sizeLine ∧ vLcL vs vg ft fa QA l (acc ++ [y]) (wipeE e3 vs)) (fun _ _ => False) else vLcL vs vg ft fa QA l acc (wipeE e2 vs)) (fun _ _ => False) := rfl
@[simp] theorem s_yes : vYes e QB Qx = QB true e := rfl
@[simp] theorem s_append : vAppend i fa e Q Qx = ((∃ l, e[i]? = some (some (.lst l))) ∧ fa e (fun d e1 => ∃ l, e1[i]? = some (some (.lst l)) ∧ l.length < sizeLine ∧ Q .non (e1.set i (some (.lst (l ++ [d]))))) Qx) := rfl
@[simp] theorem s_call {sp : VSp} : vCall n sp fA e Q Qx = fA e (fun ds e1 => ds.length = n ∧ sp ds (fun r _ => Q r e1) fun _ _ => False) Qx := rfl
@[simp] theorem s_dget : vDGet fd fa e Q Qx = fd e (fun x e1 => fa e1 (fun y e2 => gDGet x y fun z => Q z e2) Qx) Qx := rfl
@[simp] theorem s_get2 : vGet2 fd fa fb e Q Qx = fd e (fun x e1 => (∃ ks l, x = .dct ks l) ∧ fa e1 (fun y e2 => fb e2 (fun z e3 => gGet2 x y z fun r => Q r e3) Qx) Qx) Qx := rfl
@[simp] theorem s_pNil {QP : List (Key × D) → Env → Prop} : vpNil e QP Qx = QP [] e := rfl
@[simp] theorem s_pCons {QP : List (Key × D) → Env → Prop} {r : VTP} : vpCons fa fb r e QP Qx = fa e (fun kd e1 => ∃ k, kd = kD k ∧ fb e1 (fun d e2 => r e2 (fun ps e3 => QP ((k, d) :: ps) e3) Qx) Qx) Qx := rfl
@[simp] theorem s_disp {fp : VTP} : vDisp fp e Q Qx = fp e (fun kd e1 => ndK (kd.map (·.1)) = true ∧ kd.length ≤ 15 ∧ Q (.dct (kd.map (·.1)) (kd.map (·.2))) e1) Qx := rfl
@[simp] theorem s_m1 {g : G2} : vM1 g fa fb e Q Qx = fa e (fun x e1 => isStr x ∧ fb e1 (fun y e2 => g x y fun z => Q z e2) Qx) Qx := rfl
@[simp] theorem s_split : vSplit fa fb e Q Qx = fa e (fun x e1 => isStr x ∧ fb e1 (fun y e2 => ∃ a b, x = .str a ∧ y = .str b ∧ (b.length == 0) = false ∧ a.length + 2 ≤ sizeLine ∧ Q (.lst ((Txt.split a b).map D.str)) e2) Qx) Qx := rfl
@[simp] theorem s_indexD : vIndexD fa fb e Q Qx = fa e (fun x e1 => ∃ l, x = .lst l ∧ fb e1 (fun y e2 => plains l = true ∧ plain y = true ∧ SeqAt.shaped (.list (pys l)) = true ∧ SeqAt.shaped (py y) = true ∧ ∃ (j : Nat) (z : PyData), (pys l)[j]? = some z ∧ PyData.eqv z (py y) = true ∧
  (∀ (k : Nat) (z' : PyData), k < j → (pys l)[k]? = some z' → PyData.eqv z' (py y) = false) ∧ Q (.int (j : Nat)) e2) Qx) Qx := rfl
@[simp] theorem s_w1 : wipeE e [i] = e.set i none := rfl
@[simp] theorem s_w2 : wipeE e [i, j] = (e.set j none).set i none := rfl
@[simp] theorem s_isStr {z : Str} : isStr (.str z) = True := rfl
end
section
variable {Q : D → Prop} {QL : List D → Prop} {i j : Int} {a b : Str} {p q : Bool} {l l2 : List D} {x : D} {lo hi : Option Int}
@[simp] theorem s_gI {C : Int → Int → Prop} {h : Int → Int → D} : gI C h (.int i) (.int j) Q = (C i j ∧ Q (h i j)) := rfl
@[simp] theorem s_gI0 {h : Int → Int → D} : gI0 h (.int i) (.int j) Q = Q (h i j) := rfl
@[simp] theorem s_gAddS : gAddS (.str a) (.str b) Q = (a.length + b.length ≤ sizeLine ∧ Q (.str (a ++ b))) := rfl
@[simp] theorem s_gS {p : Str → Str → Bool} : gS p (.str a) (.str b) Q = Q (.bl (p a b)) := rfl
@[simp] theorem s_gSg {p : Nat → Str → Bool} : gSg p (.str a) (.str b) Q = ∃ c, a = ⟨#[c]⟩ ∧ Q (.bl (p c b)) := rfl
@[simp] theorem s_gEqI : gEq (.int i) (.int j) Q = Q (.bl (decide (i = j))) := by simp [gEq, scalD, isSc, scV, scal, eqD]
@[simp] theorem s_gEqS : gEq (.str a) (.str b) Q = Q (.bl (decide (a = b))) := by simp [gEq, scalD, isSc, scV, scal, eqD]
@[simp] theorem s_gEqB : gEq (.bl p) (.bl q) Q = Q (.bl (decide (p = q))) := by simp [gEq, scalD, isSc, scV, scal, eqD]
@[simp] theorem s_gEqNI : gEq .non (.int j) Q = Q (.bl false) := by simp [gEq, scalD, isSc, scV, scal, eqD]
@[simp] theorem s_gEqIS : gEq (.int i) (.str b) Q = Q (.bl false) := by simp [gEq, scalD, isSc, scV, scal, eqD]
@[simp] theorem s_gEqSI : gEq (.str a) (.int j) Q = Q (.bl false) := by simp [gEq, scalD, isSc, scV, scal, eqD]
@[simp] theorem s_gNeI : gNe (.int i) (.int j) Q = Q (.bl (!decide (i = j))) := by simp [gNe, scalD, isSc, scV, scal, eqD]
@[simp] theorem s_gNeS : gNe (.str a) (.str b) Q = Q (.bl (!decide (a = b))) := by simp [gNe, scalD, isSc, scV, scal, eqD]
@[simp] theorem s_gIsN : gIsN x .non Q = Q (.bl (isNon x)) := by simp only [gIsN]
@[simp] theorem s_gNotN : gNotN x .non Q = Q (.bl (!isNon x)) := by simp only [gNotN]
@[simp] theorem s_isNon0 : isNon .non = true := rfl
@[simp] theorem s_isNonI : isNon (.int i) = false := rfl
@[simp] theorem s_isNonS : isNon (.str a) = false := rfl
@[simp] theorem s_isNonT : isNon (.tup l) = false := rfl
@[simp] theorem s_isNonL : isNon (.lst l) = false := rfl
@[simp] theorem s_gIxL : gIxL (.lst l) (.int i) Q = ∃ d, atI l i = some d ∧ Q d := rfl
@[simp] theorem s_gIxT : gIxT (.tup l) (.int i) Q = ∃ d, atI l i = some d ∧ Q d := rfl
@[simp] theorem s_gIxS : gIxS (.str a) (.int i) Q = (a.length ≤ sizeLine ∧ ∃ c, atI a.cps.toList i = some c ∧ Q (.str ⟨#[c]⟩)) := rfl
@[simp] theorem s_gInL {neg : Bool} : gIn neg x (.lst l) Q = (isSc x = true ∧ l.all isSc = true ∧ Q (.bl (if neg then !inV (scV x) (l.map scV) else inV (scV x) (l.map scV)))) := by simp only [gIn]
@[simp] theorem s_gInT {neg : Bool} : gIn neg x (.tup l) Q = (isSc x = true ∧ l.all isSc = true ∧ Q (.bl (if neg then !inV (scV x) (l.map scV) else inV (scV x) (l.map scV)))) := by simp only [gIn]
@[simp] theorem s_gInD {neg : Bool} : gInD neg x (.lst l) Q = (plain x = true ∧ plains l = true ∧ SeqAt.shaped (py x) = true ∧ SeqAt.shaped (.list (pys l)) = true ∧ Q (.bl (if neg then !(pys l).any fun z => PyData.eqv z (py x) else (pys l).any fun z => PyData.eqv z (py x)))) := by simp only [gInD]
@[simp] theorem s_gCat : gCat (.lst l) (.lst l2) QL = (l.length + l2.length ≤ sizeLine ∧ QL (l ++ l2)) := rfl
@[simp] theorem s_gCatT : gCatT (.tup l) (.tup l2) QL = (l.length + l2.length ≤ sizeLine ∧ QL (l ++ l2)) := rfl
@[simp] theorem s_gSlL : gSlL (.lst l) lo hi QL = QL (cuD l lo hi) := rfl
@[simp] theorem s_gSlT : gSlT (.tup l) lo hi QL = QL (cuD l lo hi) := rfl
@[simp] theorem s_gSlS : gSlS (.str a) lo hi Q = (a.length ≤ sizeLine ∧ Q (.str (cutS a lo hi))) := rfl
@[simp] theorem s_gLenL : gLen [.lst l] Q = Q (.int l.length) := rfl
@[simp] theorem s_gLenT : gLen [.tup l] Q = Q (.int l.length) := rfl
@[simp] theorem s_gLenS : gLenS [.str a] Q = (a.length ≤ sizeLine ∧ Q (.int a.length)) := rfl
@[simp] theorem s_gSum : gSum [.lst l] Q = ∃ ns : List Int, l = ns.map D.int ∧ Q (.int ns.sum) := rfl
@[simp] theorem s_gI2 {h : Int → Int → D} : gI2 h [.int i, .int j] Q = Q (h i j) := rfl
@[simp] theorem s_gInt1 : gInt1 [.int i] Q = Q (.int i) := rfl
@[simp] theorem s_gInt1b : gInt1 [.bl p] Q = Q (.int (if p then 1 else 0)) := rfl
@[simp] theorem s_gStrI : gStrI [.int i] Q = (i.natAbs.log2 < 1920 ∧ Q (.str (toString i))) := rfl
@[simp] theorem s_gAll : gAll [.lst l] Q = ∃ bs : List Bool, l = bs.map D.bl ∧ Q (.bl (bs.all id)) := rfl
@[simp] theorem s_gSeqL : gSeq [.lst l] QL = QL l := rfl
@[simp] theorem s_gSeqT : gSeq [.tup l] QL = QL l := rfl
@[simp] theorem s_gDGet {ks : List Key} : gDGet (.dct ks l) x Q = ∃ k d, x = kD k ∧ getK ks l k = some d ∧ Q d := rfl
@[simp] theorem s_gGet2 {ks : List Key} {y : D} : gGet2 (.dct ks l) x y Q = ∃ k, x = kD k ∧ Q ((getK ks l k).getD y) := rfl
@[simp] theorem s_kDs {k : Key} : (D.str a = kD k) = (k = .inr a) := by
  cases k <;> simp [kD, eq_comm]
@[simp] theorem s_kDi {k : Key} : (D.int i = kD k) = (k = .inl i) := by
  cases k <;> simp [kD, eq_comm]
@[simp] theorem s_ioN {e : Env} : ioP [] e = [] := by simp only [ioP]
@[simp] theorem s_ioS {M : List Sh} {y : Option D} {e : Env} : ioP (.s :: M) (y :: e) = none :: ioP M e := by simp only [ioP]
@[simp] theorem s_ioL {M : List Sh} {s : Sh} {y : Option D} {e : Env} : ioP (.l s :: M) (y :: e) = y :: ioP M e := by simp only [ioP]
@[simp] theorem s_ioD {M : List Sh} {s : Key → Sh} {y : Option D} {e : Env} : ioP (.d s :: M) (y :: e) = y :: ioP M e := by simp only [ioP]
@[simp] theorem s_ioO {M : List Sh} {s : Str → Sh} {y : Option D} {e : Env} : ioP (.o s :: M) (y :: e) = y :: ioP M e := by simp only [ioP]
@[simp] theorem s_nones0 : nones [] = [] := rfl
@[simp] theorem s_nones1 {s : Sh} {M : List Sh} : nones (s :: M) = none :: nones M := rfl
end
/-! places in a list -/
@[simp] theorem atI_0 {α : Type} {a : α} {r : List α} : atI (a :: r) 0 = some a := by simp [atI, ixN]
theorem atI_n {α : Type} {l : List α} {n : Nat} : atI l (n : Int) = l[n]? := by
  unfold atI ixN
  by_cases h : n < l.length
  · rw [if_pos (by omega), if_pos (by omega)]
    rfl
  · rw [if_pos (by omega), if_neg (by omega), List.getElem?_eq_none (by omega)]
    rfl
@[simp] theorem atI_1 {α : Type} {a b : α} {r : List α} : atI (a :: b :: r) 1 = some b := by
  have h : ((1 : Int)) = ((1 : Nat) : Int) := rfl
  rw [h, atI_n]
  rfl
@[simp] theorem atI_2 {α : Type} {a b c : α} {r : List α} : atI (a :: b :: c :: r) 2 = some c := by
  have h : ((2 : Int)) = ((2 : Nat) : Int) := rfl
  rw [h, atI_n]
  rfl
@[simp] theorem atI_3 {α : Type} {a b c d : α} {r : List α} : atI (a :: b :: c :: d :: r) 3 = some d := by
  have h : ((3 : Int)) = ((3 : Nat) : Int) := rfl
  rw [h, atI_n]
  rfl
@[simp] theorem atI_4 {α : Type} {a b c d e : α} {r : List α} : atI (a :: b :: c :: d :: e :: r) 4 = some e := by
  have h : ((4 : Int)) = ((4 : Nat) : Int) := rfl
  rw [h, atI_n]
  rfl
@[simp] theorem atI_5 {α : Type} {a b c d e f : α} {r : List α} : atI (a :: b :: c :: d :: e :: f :: r) 5 = some f := by
  have h : ((5 : Int)) = ((5 : Nat) : Int) := rfl
  rw [h, atI_n]
  rfl
theorem small {n : Nat} (h : n ≤ 100000) : n ≤ sizeLine := Nat.le_trans h (by decide)
theorem smallL {n : Nat} (h : n < 100000) : n < sizeLine := Nat.lt_of_lt_of_le h (by decide)
end VL
set_option Elab.async false
set_option linter.all false
set_option maxRecDepth 100000
set_option maxHeartbeats 2000000
namespace VL
open PySem PySem.Spec PyProof.Rows L2
/-! ### loops, closed -/
abbrev noX : QX := fun _ _ => False
theorem lc_map {vs : List Nat} {vg : VTG} {ft : VTB} {fe : VT} {Q : List D → Env → Prop} {e : Env} (g : D → D) : ∀ (ds acc : List D), acc.length + ds.length ≤ sizeLine →
    (∀ d ∈ ds, ∀ (A : D → Env → Prop) (B : Env → Prop), (∀ e3, wipeE e3 vs = e → A (g d) e3) → vg d e fun e1 => ft e1 (fun b e2 => if b = true then fe e2 A noX else B e2) noX) → Q (acc ++ ds.map g) e → vLcL vs vg ft fe Q ds acc e
  | [], acc, _, _, q => by simpa [vLcL] using q
  | d :: ds, acc, hl, h, q => by
    rw [List.length_cons] at hl
    rw [s_lcCons]
    refine h d List.mem_cons_self _ _ fun e3 he => ⟨by omega, ?_⟩
    rw [he]
    refine lc_map g ds (acc ++ [g d]) (by rw [List.length_append, List.length_singleton]; omega) (fun d' z => h d' (List.mem_cons_of_mem _ z)) ?_
    simpa using q
theorem lc_filter {vs : List Nat} {vg : VTG} {ft : VTB} {fe : VT} {Q : List D → Env → Prop} {e : Env} (p : D → Bool) (g : D → D) : ∀ (ds acc : List D), acc.length + ds.length ≤ sizeLine →
    (∀ d ∈ ds, ∀ (A : D → Env → Prop) (B : Env → Prop), (p d = true → ∀ e3, wipeE e3 vs = e → A (g d) e3) → (p d = false → ∀ e2, wipeE e2 vs = e → B e2) → vg d e fun e1 => ft e1 (fun b e2 => if b = true then fe e2 A noX else B e2) noX) → Q (acc ++ (ds.filter p).map g) e → vLcL vs vg ft fe Q ds acc e
  | [], acc, _, _, q => by simpa [vLcL] using q
  | d :: ds, acc, hl, h, q => by
    rw [List.length_cons] at hl
    rw [s_lcCons]
    refine h d List.mem_cons_self _ _ (fun hp e3 he => ⟨by omega, ?_⟩) (fun hp e2 he => ?_)
    · rw [he]
      refine lc_filter p g ds (acc ++ [g d]) (by rw [List.length_append, List.length_singleton]; omega) (fun d' z => h d' (List.mem_cons_of_mem _ z)) ?_
      rw [List.filter_cons, if_pos hp] at q
      simpa using q
    · rw [he]
      refine lc_filter p g ds acc (by omega) (fun d' z => h d' (List.mem_cons_of_mem _ z)) ?_
      rw [List.filter_cons, if_neg (by rw [hp]; exact Bool.false_ne_true)] at q
      exact q
theorem for_fold {α : Type} {vg : VTG} {f : VTS} {U : VEnds} (env : α → Env) (step : α → D → α) (I : List D → α → Prop) (h : ∀ d ds s, I (d :: ds) s → I ds (step s d) ∧ ∀ K : Env → Prop, K (env (step s d)) → vg d (env s) fun e1 => f { U with nx := K, ct := K, bk := U.nx } e1) :
    ∀ (ds : List D) (s : α), I ds s → (I [] (ds.foldl step s) → U.nx (env (ds.foldl step s))) → vForL vg f U ds (env s)
  | [], s, i, q => q i
  | d :: ds, s, i, q => by
    rw [s_forCons]
    obtain ⟨i2, k⟩ := h d ds s i
    exact k _ (for_fold env step I h ds (step s d) i2 q)
theorem lc_mapF {α : Type} {vs : List Nat} {vg : VTG} {ft : VTB} {fe : VT} {Q : List D → Env → Prop} {e : Env} (f g : α → D) : ∀ (as : List α) (acc : List D), acc.length + as.length ≤ sizeLine →
    (∀ a ∈ as, ∀ (A : D → Env → Prop) (B : Env → Prop), (∀ e3, wipeE e3 vs = e → A (g a) e3) → vg (f a) e fun e1 => ft e1 (fun b e2 => if b = true then fe e2 A noX else B e2) noX) → Q (acc ++ as.map g) e → vLcL vs vg ft fe Q (as.map f) acc e
  | [], acc, _, _, q => by simpa [vLcL] using q
  | a :: as, acc, hl, h, q => by
    rw [List.length_cons] at hl
    rw [List.map_cons, s_lcCons]
    refine h a List.mem_cons_self _ _ fun e3 he => ⟨by omega, ?_⟩
    rw [he]
    refine lc_mapF f g as (acc ++ [g a]) (by rw [List.length_append, List.length_singleton]; omega) (fun d' z => h d' (List.mem_cons_of_mem _ z)) ?_
    simpa using q
theorem lc_filterF {α : Type} {vs : List Nat} {vg : VTG} {ft : VTB} {fe : VT} {Q : List D → Env → Prop} {e : Env} (f : α → D) (p : α → Bool) (g : α → D) : ∀ (as : List α) (acc : List D), acc.length + as.length ≤ sizeLine →
    (∀ a ∈ as, ∀ (A : D → Env → Prop) (B : Env → Prop), (p a = true → ∀ e3, wipeE e3 vs = e → A (g a) e3) → (p a = false → ∀ e2, wipeE e2 vs = e → B e2) → vg (f a) e fun e1 => ft e1 (fun b e2 => if b = true then fe e2 A noX else B e2) noX) → Q (acc ++ (as.filter p).map g) e → vLcL vs vg ft fe Q (as.map f) acc e
  | [], acc, _, _, q => by simpa [vLcL] using q
  | a :: as, acc, hl, h, q => by
    rw [List.length_cons] at hl
    rw [List.map_cons, s_lcCons]
    refine h a List.mem_cons_self _ _ (fun hp e3 he => ⟨by omega, ?_⟩) (fun hp e2 he => ?_)
    · rw [he]
      refine lc_filterF f p g as (acc ++ [g a]) (by rw [List.length_append, List.length_singleton]; omega) (fun d' z => h d' (List.mem_cons_of_mem _ z)) ?_
      rw [List.filter_cons, if_pos hp] at q
      simpa using q
    · rw [he]
      refine lc_filterF f p g as acc (by omega) (fun d' z => h d' (List.mem_cons_of_mem _ z)) ?_
      rw [List.filter_cons, if_neg (by rw [hp]; exact Bool.false_ne_true)] at q
      exact q
/-- a for over things of a list, by what holds of those gone through -/
theorem for_pre {α : Type} {vg : VTG} {f : VTS} {U : VEnds} (g : α → D) (as : List α) (I : List α → Env → Prop) (h : ∀ pre a post, as = pre ++ a :: post → ∀ e, I pre e → ∀ K : Env → Prop, (∀ e', I (pre ++ [a]) e' → K e') → vg (g a) e fun e1 => f { U with nx := K, ct := K, bk := U.nx } e1) (hd : ∀ e, I as e → U.nx e) {e : Env} (h0 : I [] e) : vForL vg f U (as.map g) e := by
  have key : ∀ (post pre : List α) (e : Env), as = pre ++ post → I pre e → vForL vg f U (post.map g) e := fun post => by
    induction post with
    | nil =>
      intro pre e ea i
      rw [List.append_nil] at ea
      subst ea
      exact hd e i
    | cons a post ih =>
      intro pre e ea i
      rw [List.map_cons, s_forCons]
      exact h pre a post ea e i _ fun e' i' => ih (pre ++ [a]) e' (by rw [ea]; simp) i'
  exact key as [] e rfl h0
/-- a for by what holds between two turns -/
theorem for_inv {α : Type} {vg : VTG} {f : VTS} {U : VEnds} (I : List D → Env → Prop) (h : ∀ d ds e, I (d :: ds) e → ∀ K : Env → Prop, (∀ e', I ds e' → K e') → vg d e fun e1 => f { U with nx := K, ct := K, bk := U.nx } e1) (hd : ∀ e, I [] e → U.nx e) : ∀ (ds : List D) (e : Env), I ds e → vForL vg f U ds e
  | [], e, i => hd e i
  | d :: ds, e, i => by
    rw [s_forCons]
    exact h d ds e i _ fun e' i' => for_inv (α := α) I h hd ds e' i'
end VL
set_option Elab.async false
set_option linter.all false
set_option maxRecDepth 100000
set_option maxHeartbeats 2000000
namespace VL
open PySem PySem.Spec PyProof.Rows L2
/-! ### calls that are handed a thing of one's own -/
section
variable {K : PySem.W.Frag} {ow ow' : Addr → Prop} {H H' : Hp}
theorem RT.app {T2 : List Tm} {f2 : List Addr} (h2 : RT K ow H T2 f2) : ∀ {T : List Tm} {f : List Addr}, RT K ow H T f → RT K ow H (T ++ T2) (f ++ f2)
  | [], _, h => by
    have h : _ = [] := h
    rw [h]
    exact h2
  | t :: T, _, ⟨g1, g2, e, a, b⟩ => by
    subst e
    exact ⟨g1, g2 ++ f2, by rw [List.append_assoc], a, RT.app h2 b⟩
theorem RT.unapp : ∀ {T T2 : List Tm} {f : List Addr}, RT K ow H (T ++ T2) f → ∃ f1 f2, f = f1 ++ f2 ∧ RT K ow H T f1 ∧ RT K ow H T2 f2
  | [], _, f, h => ⟨[], f, rfl, rfl, h⟩
  | t :: T, T2, _, ⟨g1, g2, e, a, b⟩ => by
    subst e
    obtain ⟨f1, f2, e2, c, d⟩ := RT.unapp b
    subst e2
    exact ⟨g1 ++ f1, f2, by rw [List.append_assoc], ⟨g1, f1, rfl, a, c⟩, d⟩
/-- the parameters of a call: those that are read, those that are the caller's own (on top) -/
def ArgR (K : PySem.W.Frag) (ow : Addr → Prop) (H : Hp) : List Sh → List V → List D → List Tm → Prop
  | [], vs, ds, L => vs = [] ∧ ds = [] ∧ L = []
  | .s :: M, vs, ds, L => ∃ v r d s, vs = v :: r ∧ ds = d :: s ∧ RS K ow H d v ∧ ArgR K ow H M r s L
  | .l q :: M, vs, ds, L => ∃ v r d s L', vs = v :: r ∧ ds = d :: s ∧ L = (.l q, v, d) :: L' ∧ ArgR K ow H M r s L'
  | .d q :: M, vs, ds, L => ∃ v r d s L', vs = v :: r ∧ ds = d :: s ∧ L = (.d q, v, d) :: L' ∧ ArgR K ow H M r s L'
  | .o q :: M, vs, ds, L => ∃ v r d s L', vs = v :: r ∧ ds = d :: s ∧ L = (.o q, v, d) :: L' ∧ ArgR K ow H M r s L'
  | .n :: M, vs, ds, L => ∃ v r d s L', vs = v :: r ∧ ds = d :: s ∧ L = (.n, v, d) :: L' ∧ ArgR K ow H M r s L'
theorem ArgR.rv : ∀ {M : List Sh} {vs : List V} {ds : List D} {L : List Tm} {f : List Addr}, ArgR K ow H M vs ds L → RT K ow H L f → RV K ow H M (vs.map some) (ds.map some) f
  | [], _, _, _, _, ⟨a, b, c⟩, h => by
    subst a b c
    exact ⟨rfl, rfl, h⟩
  | .s :: M, _, _, L, f, ⟨v, r, d, s, a, b, q, t⟩, h => by
    subst a b
    exact ⟨some v, r.map some, some d, s.map some, [], f, rfl, rfl, rfl, ⟨v, rfl, RO_s.mpr ⟨rfl, q⟩⟩, ArgR.rv t h⟩
  | .l q :: M, _, _, _, _, ⟨v, r, d, s, L', a, b, e, t⟩, h => by
    subst a b e
    obtain ⟨f1, f2, ef, h1, h2⟩ := h
    exact ⟨some v, r.map some, some d, s.map some, f1, f2, rfl, rfl, ef, ⟨v, rfl, h1⟩, ArgR.rv t h2⟩
  | .d q :: M, _, _, _, _, ⟨v, r, d, s, L', a, b, e, t⟩, h => by
    subst a b e
    obtain ⟨f1, f2, ef, h1, h2⟩ := h
    exact ⟨some v, r.map some, some d, s.map some, f1, f2, rfl, rfl, ef, ⟨v, rfl, h1⟩, ArgR.rv t h2⟩
  | .o q :: M, _, _, _, _, ⟨v, r, d, s, L', a, b, e, t⟩, h => by
    subst a b e
    obtain ⟨f1, f2, ef, h1, h2⟩ := h
    exact ⟨some v, r.map some, some d, s.map some, f1, f2, rfl, rfl, ef, ⟨v, rfl, h1⟩, ArgR.rv t h2⟩
  | .n :: M, _, _, _, _, ⟨v, r, d, s, L', a, b, e, t⟩, h => by
    subst a b e
    obtain ⟨f1, f2, ef, h1, h2⟩ := h
    exact ⟨some v, r.map some, some d, s.map some, f1, f2, rfl, rfl, ef, ⟨v, rfl, h1⟩, ArgR.rv t h2⟩
/-- what is the caller's own, behind the call -/
def backL : List Sh → List V → Env → List Tm
  | sh :: M, v :: vs, some d :: ps => (match sh with | .s => backL M vs ps | sh => (sh, v, d) :: backL M vs ps)
  | _ :: M, _ :: vs, none :: ps => backL M vs ps
  | _, _, _ => []
theorem RV.back : ∀ {M : List Sh} {vs : List V} {ps : Env} {f : List Addr}, RV K ow H M (vs.map some) ps f → RT K ow H (backL M vs ps) f
  | [], vs, ps, f, ⟨a, b, c⟩ => by
    subst c
    cases vs <;> cases ps <;> rfl
  | sh :: M, [], ps, f, ⟨x, σ', y, e', g1, g2, e1, _⟩ => by cases e1
  | sh :: M, v :: vs, _, _, ⟨x, σ', y, e', g1, g2, e1, e2, e3, h1, h3⟩ => by
    subst e2 e3
    rw [List.map_cons] at e1
    cases e1
    cases y with
    | none =>
      have z : g1 = [] := h1
      subst z
      simp only [backL]
      exact RV.back h3
    | some d =>
      obtain ⟨u, eu, r⟩ := h1
      cases eu
      cases sh with
      | s =>
        have z := (RO_s.mp r).1
        subst z
        simp only [backL]
        exact RV.back h3
      | l q => exact ⟨g1, g2, rfl, r, RV.back h3⟩
      | d q => exact ⟨g1, g2, rfl, r, RV.back h3⟩
      | o q => exact ⟨g1, g2, rfl, r, RV.back h3⟩
      | n => exact ⟨g1, g2, rfl, r, RV.back h3⟩
end
section
variable {c : Vc} {T : List Tm} {σ : L2.St} {e : Env} {H : Hp}
/-- a name's own thing taken in hand -/
theorem RX.take {fT fV : List Addr} {i : Nat} {sh : Sh} {d : D} (h : RX c fT fV T σ e H) (hM : c.M[i]? = some sh) (hd : e[i]? = some (some d)) : ∃ v gT gV, σ[i]? = some (some v) ∧ RX c gT gV ((sh, v, d) :: T) σ (e.set i none) H ∧ ∀ a, a ∈ gT ++ gV ↔ a ∈ fT ++ fV := by
  obtain ⟨g1, fp, g2, x, y, a1, a2, a3, a4, a5⟩ := h.vr.split hM
  subst a3
  rw [hd] at a2
  cases a2
  obtain ⟨v, rfl, ro⟩ := a4
  have eqv : ∀ a, a ∈ (fp ++ fT) ++ (g1 ++ ([] ++ g2)) ↔ a ∈ fT ++ (g1 ++ (fp ++ g2)) := fun a => by
    simp only [List.mem_append, List.nil_append]
    constructor
    · rintro ((z | z) | z | z) <;> simp [z]
    · rintro (z | z | z | z) <;> simp [z]
  have how : ∀ a, owOf c (fp ++ fT) (g1 ++ ([] ++ g2)) a → owOf c fT (g1 ++ (fp ++ g2)) a ∨ H a = none := fun a z => by
    rcases z with z | z
    · exact .inl (.inl ((eqv a).mp z))
    · exact .inl (.inr z)
  have hs : σ.set i (some v) = σ := by
    apply List.ext_getElem?
    intro j
    by_cases e : i = j
    · subst e
      rw [a1]
      have : i < σ.length := (List.getElem?_eq_some_iff.mp a1).1
      simp [this]
    · rw [List.getElem?_set_ne e]
  have vr := a5 (H' := H) (ow' := owOf c (fp ++ fT) (g1 ++ ([] ++ g2))) (x' := some v) (y' := none) (fp' := []) (fun _ _ q _ => q) (ExtT.refl H) how (fun _ _ _ q => q) rfl
  rw [hs] at vr
  refine ⟨v, fp ++ fT, g1 ++ ([] ++ g2), a1, ⟨⟨fp, fT, rfl, RO.fr (fun _ _ q _ => q) (ExtT.refl H) how _ _ _ _ ro (fun _ _ _ q => q), h.tm.fr (fun _ _ q _ => q) (ExtT.refl H) how (fun _ _ _ q => q)⟩, vr, ?_, fun a z => h.fr a ((eqv a).mp z), h.kp, h.tp, h.al, h.ok, h.rt⟩, eqv⟩
  have p1 : List.Perm (fT ++ (g1 ++ (fp ++ g2))) ((fp ++ fT) ++ (g1 ++ ([] ++ g2))) := by
    rw [List.perm_iff_count]
    intro a
    simp only [List.count_append, List.count_nil]
    omega
  exact p1.nodup h.nd
/-- .. and given back -/
theorem R.give {i : Nat} {sh : Sh} {d : D} {v : V} {t : Tm} (h : R c (t :: (sh, v, d) :: T) σ e H) (hM : c.M[i]? = some sh) (hv : σ[i]? = some (some v)) : R c (t :: T) σ (e.set i (some d)) H := by
  obtain ⟨fT, fV, h⟩ := h
  obtain ⟨f1, g, e1, h1, f2, f3, e2, h2, h3⟩ := h.tm
  have h2 : RO c.K (owOf c fT fV) H d sh v f2 := h2
  subst e1 e2
  obtain ⟨g1, fp, g2, x, y, a1, a2, a3, a4, a5⟩ := h.vr.split hM
  subst a3
  have sub : ∀ a, a ∈ (f1 ++ f3) ++ (g1 ++ (f2 ++ g2)) → a ∈ (f1 ++ (f2 ++ f3)) ++ (g1 ++ (fp ++ g2)) := fun a z => by
    simp only [List.mem_append] at z ⊢
    rcases z with (z | z) | z | z | z <;> simp [z]
  have how : ∀ a, owOf c (f1 ++ f3) (g1 ++ (f2 ++ g2)) a → owOf c (f1 ++ (f2 ++ f3)) (g1 ++ (fp ++ g2)) a ∨ H a = none := fun a z => by
    rcases z with z | z
    · exact .inl (.inl (sub a z))
    · exact .inl (.inr z)
  have hs : σ.set i (some v) = σ := by
    apply List.ext_getElem?
    intro j
    by_cases e : i = j
    · subst e
      rw [hv]
      have : i < σ.length := (List.getElem?_eq_some_iff.mp hv).1
      simp [this]
    · rw [List.getElem?_set_ne e]
  have vr := a5 (H' := H) (ow' := owOf c (f1 ++ f3) (g1 ++ (f2 ++ g2))) (x' := some v) (y' := some d) (fp' := f2) (fun _ _ q _ => q) (ExtT.refl H) how (fun _ _ _ q => q) ⟨v, rfl, RO.fr (fun _ _ q _ => q) (ExtT.refl H) how _ _ _ _ h2 (fun _ _ _ q => q)⟩
  rw [hs] at vr
  refine ⟨f1 ++ f3, g1 ++ (f2 ++ g2), ⟨f1, f3, rfl, RO.fr (fun _ _ q _ => q) (ExtT.refl H) how _ _ _ _ h1 (fun _ _ _ q => q), h3.fr (fun _ _ q _ => q) (ExtT.refl H) how (fun _ _ _ q => q)⟩, vr, ?_, fun a z => h.fr a (sub a z), h.kp, h.tp, h.al, h.ok, h.rt⟩
  have p1 : List.Perm ((f1 ++ (f2 ++ f3)) ++ (g1 ++ (fp ++ g2))) (fp ++ ((f1 ++ f3) ++ (g1 ++ (f2 ++ g2)))) := by
    rw [List.perm_iff_count]
    intro a
    simp only [List.count_append]
    omega
  exact (List.nodup_append.mp (p1.nodup h.nd)).2.1
/-! the arguments of such a call: as, for each the name that is handed or none -/
def fill : List (Option Nat) → List D → Env → Option (List D)
  | [], [], _ => some []
  | none :: as, d :: ds, e => (fill as ds e).map (d :: ·)
  | some i :: as, ds, e => match e[i]? with
    | some (some d) => (fill as ds e).map (d :: ·)
    | _ => none
  | _, _, _ => none
def wipeIO : List (Option Nat) → Env → Env
  | [], e => e
  | none :: as, e => wipeIO as e
  | some i :: as, e => (wipeIO as e).set i none
def giveE : List (Option Nat) → Env → Env → Env
  | none :: as, _ :: ps, e => giveE as ps e
  | some i :: as, some d :: ps, e => giveE as ps (e.set i (some d))
  | some _ :: as, none :: ps, e => giveE as ps e
  | _, _, e => e
def putIO (as : List (Option Nat)) (ps e : Env) : Env := giveE as ps (wipeIO as e)
def ArgV (K : PySem.W.Frag) (ow : Addr → Prop) (H : Hp) (σ : L2.St) : List (Option Nat) → List V → List D → Prop
  | [], vs, ds => vs = [] ∧ ds = []
  | none :: as, vs, ds => ∃ v r d s, vs = v :: r ∧ ds = d :: s ∧ RS K ow H d v ∧ ArgV K ow H σ as r s
  | some i :: as, vs, ds => ∃ v r, vs = v :: r ∧ σ[i]? = some (some v) ∧ ArgV K ow H σ as r ds
def isS : Sh → Bool
  | .s => true
  | _ => false
/-- each parameter is read, or a name's own thing of the same form -/
def ShOk (M : List Sh) : List (Option Nat) → List Sh → Prop
  | [], [] => True
  | none :: as, sh :: pM => sh = .s ∧ ShOk M as pM
  | some i :: as, sh :: pM => M[i]? = some sh ∧ isS sh = false ∧ some i ∉ as ∧ ShOk M as pM
  | _, _ => False
theorem wipeIO_get {i : Nat} : ∀ {as : List (Option Nat)} {e : Env}, some i ∉ as → (wipeIO as e)[i]? = e[i]?
  | [], e, _ => rfl
  | none :: as, e, h => wipeIO_get (as := as) fun z => h (List.mem_cons_of_mem _ z)
  | some j :: as, e, h => by
    have hj : j ≠ i := fun z => h (by rw [z]; exact List.mem_cons_self)
    show ((wipeIO as e).set j none)[i]? = e[i]?
    rw [List.getElem?_set_ne hj]
    exact wipeIO_get fun z => h (List.mem_cons_of_mem _ z)
theorem ArgV.less {K : PySem.W.Frag} {ow ow' : Addr → Prop} {H : Hp} {σ : L2.St} (how : ∀ a, ow' a → ow a) : ∀ {as : List (Option Nat)} {vs : List V} {ds : List D}, ArgV K ow H σ as vs ds → ArgV K ow' H σ as vs ds
  | [], _, _, h => h
  | none :: as, _, _, ⟨v, r, d, s, a, b, q, t⟩ => ⟨v, r, d, s, a, b, q.less how, ArgV.less how t⟩
  | some i :: as, _, _, ⟨v, r, a, b, t⟩ => ⟨v, r, a, b, ArgV.less how t⟩
theorem ArgR.less {K : PySem.W.Frag} {ow ow' : Addr → Prop} {H : Hp} (how : ∀ a, ow' a → ow a) : ∀ {M : List Sh} {vs : List V} {ds : List D} {L : List Tm}, ArgR K ow H M vs ds L → ArgR K ow' H M vs ds L
  | [], _, _, _, h => h
  | .s :: M, _, _, _, ⟨v, r, d, s, a, b, q, t⟩ => ⟨v, r, d, s, a, b, q.less how, ArgR.less how t⟩
  | .l _ :: M, _, _, _, ⟨v, r, d, s, L', a, b, e, t⟩ => ⟨v, r, d, s, L', a, b, e, ArgR.less how t⟩
  | .d _ :: M, _, _, _, ⟨v, r, d, s, L', a, b, e, t⟩ => ⟨v, r, d, s, L', a, b, e, ArgR.less how t⟩
  | .o _ :: M, _, _, _, ⟨v, r, d, s, L', a, b, e, t⟩ => ⟨v, r, d, s, L', a, b, e, ArgR.less how t⟩
  | .n :: M, _, _, _, ⟨v, r, d, s, L', a, b, e, t⟩ => ⟨v, r, d, s, L', a, b, e, ArgR.less how t⟩
theorem takeAll : ∀ {as : List (Option Nat)} {pM : List Sh} {vs : List V} {ds full : List D} {fT fV : List Addr}, RX c fT fV T σ e H → ArgV c.K (owOf c fT fV) H σ as vs ds → fill as ds e = some full → ShOk c.M as pM →
    ∃ L gT gV, RX c gT gV (L ++ T) σ (wipeIO as e) H ∧ (∀ a, a ∈ gT ++ gV ↔ a ∈ fT ++ fV) ∧ ArgR c.K (owOf c gT gV) H pM vs full L
  | [], [], vs, ds, full, fT, fV, h, ⟨a, b⟩, hf, _ => by
    subst a b
    simp only [fill, Option.some.injEq] at hf
    subst hf
    exact ⟨[], fT, fV, h, fun _ => Iff.rfl, rfl, rfl, rfl⟩
  | [], _ :: _, _, _, _, _, _, _, _, _, hs => by simp only [ShOk] at hs
  | _ :: _, [], _, _, _, _, _, _, _, _, hs => by
    rename_i a as _ _ _ _ _ _ _ _
    cases a <;> simp only [ShOk] at hs
  | none :: as, sh :: pM, _, _, full, fT, fV, h, ⟨v, r, d, s, a, b, q, t⟩, hf, ⟨hsh, hs⟩ => by
    subst a b hsh
    simp only [fill, Option.map_eq_some_iff] at hf
    obtain ⟨full', hf', rfl⟩ := hf
    obtain ⟨L, gT, gV, X, eqv, ar⟩ := takeAll h t hf' hs
    refine ⟨L, gT, gV, X, eqv, v, r, d, full', rfl, rfl, q.less fun x z => ?_, ar⟩
    rcases z with z | z
    · exact .inl ((eqv x).mp z)
    · exact .inr z
  | some i :: as, sh :: pM, _, ds, full, fT, fV, h, ⟨v, r, a, hv, t⟩, hf, ⟨hM, hns, hni, hs⟩ => by
    subst a
    simp only [fill] at hf
    split at hf
    · rename_i d hd
      simp only [Option.map_eq_some_iff] at hf
      obtain ⟨full', hf', rfl⟩ := hf
      obtain ⟨L, gT, gV, X, eqv, ar⟩ := takeAll h t hf' hs
      obtain ⟨v', kT, kV, hv', Y, eqv2⟩ := X.take hM (by rw [wipeIO_get hni]; exact hd)
      rw [hv] at hv'
      cases hv'
      have ar' := ArgR.less (ow' := owOf c kT kV) (fun x z => by
        rcases z with z | z
        · exact .inl ((eqv2 x).mp z)
        · exact .inr z) ar
      refine ⟨(sh, v, d) :: L, kT, kV, Y, fun x => (eqv2 x).trans (eqv x), ?_⟩
      cases sh with
      | s => cases hns
      | l q => exact ⟨v, r, d, full', L, rfl, rfl, rfl, ar'⟩
      | d q => exact ⟨v, r, d, full', L, rfl, rfl, rfl, ar'⟩
      | o q => exact ⟨v, r, d, full', L, rfl, rfl, rfl, ar'⟩
      | n => exact ⟨v, r, d, full', L, rfl, rfl, rfl, ar'⟩
    · cases hf
theorem giveAll {t : Tm} : ∀ {as : List (Option Nat)} {pM : List Sh} {vs : List V} {ds : List D} {ps e : Env} {K : PySem.W.Frag} {ow : Addr → Prop} {H1 : Hp}, R c (t :: (backL pM vs ps ++ T)) σ e H → ArgV K ow H1 σ as vs ds → ShOk c.M as pM → ps.length = pM.length → R c (t :: T) σ (giveE as ps e) H
  | [], [], vs, ds, ps, e, K, ow, H1, h, ⟨a, b⟩, _, hl => by
    cases ps with
    | nil =>
      subst a
      exact h
    | cons _ _ => cases hl
  | [], _ :: _, _, _, _, _, _, _, _, _, _, hs, _ => by simp only [ShOk] at hs
  | _ :: _, [], _, _, _, _, _, _, _, _, _, hs, _ => by
    rename_i a as _ _ _ _ _ _ _ _ _ _
    cases a <;> simp only [ShOk] at hs
  | _ :: _, _ :: _, _, _, [], _, _, _, _, _, _, _, hl => by cases hl
  | none :: as, sh :: pM, _, _, y :: ps, e, K, ow, H1, h, ⟨v, r, d, s, a, b, q, tt⟩, ⟨hsh, hs⟩, hl => by
    subst a b hsh
    simp only [giveE]
    refine giveAll (ps := ps) ?_ tt hs (Nat.succ.inj hl)
    cases y with
    | none => exact h
    | some d' => exact h
  | some i :: as, sh :: pM, _, ds, none :: ps, e, K, ow, H1, h, ⟨v, r, a, hv, tt⟩, ⟨hM, hns, hni, hs⟩, hl => by
    subst a
    simp only [giveE]
    exact giveAll (ps := ps) h tt hs (Nat.succ.inj hl)
  | some i :: as, sh :: pM, _, ds, some d' :: ps, e, K, ow, H1, h, ⟨v, r, a, hv, tt⟩, ⟨hM, hns, hni, hs⟩, hl => by
    subst a
    simp only [giveE]
    have h' : R c (t :: (sh, v, d') :: (backL pM r ps ++ T)) σ e H := by
      cases sh with
      | s => cases hns
      | l q => exact h
      | d q => exact h
      | o q => exact h
      | n => exact h
    exact giveAll (ps := ps) (h'.give hM hv) tt hs (Nat.succ.inj hl)
def VAx (c : Vc) (W : XW) (ta : TA) (as : List (Option Nat)) (f : VTA) : Prop := ∀ (T : List Tm) (σ : L2.St) (e : Env) (H : Hp) (Q : List V → Hp → Prop) (Qv : List D → Env → Prop) (Qx : QX), R c T σ e H → f e Qv Qx →
  (∀ fT fV vs ds e' H', RX c fT fV T σ e' H' → ArgV c.K (owOf c fT fV) H' σ as vs ds → Qv ds e' → Q vs H') → (∀ x d e' H', R c T σ e' H' → XAt H' x d → Qx x e' → W (.ref x.C) d σ H') → ta σ H Q
variable {W : XW} {ta : TE} {fa : VT} {tA : TA} {fA : VTA} {as : List (Option Nat)}
def vIo (i : Nat) (fr : VTA) : VTA := fun e Q Qx => (∃ d, e[i]? = some (some d)) ∧ fr e Q Qx
theorem vax_nil : VAx c W tNil [] vNil := fun T σ e H Q Qv Qx ⟨fT, fV, hR⟩ hf hn hx => hn fT fV [] [] e H hR ⟨rfl, rfl⟩ hf
theorem vax_cons (ha : VE c W .e ta .s fa) (hr : VAx c W tA as fA) : VAx c W (tCons ta tA) (none :: as) (vCons fa fA) := fun T σ e H Q Qv Qx hR hf hn hx => by
  refine ha T σ e H _ _ Qx hR hf (fun x dx e1 H1 R1 P1 h1 => ?_) hx
  refine hr ((.s, x, dx) :: T) σ e1 H1 _ _ Qx R1 h1 (fun fT fV vs ds e2 H2 R2 rs h2 => ?_) (fun xn d e' H' R' X' q' => hx xn d e' H' R'.pop X' q')
  obtain ⟨rx, R2⟩ := R2.topS
  exact hn fT fV _ _ e2 H2 R2 ⟨x, vs, dx, ds, rfl, rfl, rx, rs⟩ h2
theorem vax_io {i : Nat} {sh : Sh} (hM : c.M[i]? = some sh) (hr : VAx c W tA as fA) : VAx c W (tCons (tVar i) tA) (some i :: as) (vIo i fA) := fun T σ e H Q Qv Qx hR ⟨⟨d, hd⟩, hf⟩ hn hx => by
  obtain ⟨fT, fV, X⟩ := hR
  obtain ⟨v, fp, hv, _⟩ := X.upd hM hd
  exact ⟨v, hv, hr T σ e H _ _ Qx ⟨fT, fV, X⟩ hf (fun gT gV vs ds e2 H2 R2 rs h2 => hn gT gV _ _ e2 H2 R2 ⟨v, vs, rfl, hv, rs⟩ h2) hx⟩
def vCallIO (as : List (Option Nat)) (sp : VSp) (fA : VTA) : VT := fun e Q Qx => fA e (fun ds e1 => ∃ full, fill as ds e1 = some full ∧ sp full (fun r ps => Q r (putIO as ps e1)) fun _ _ => False) Qx
theorem v_callIO {pM : List Sh} {rsh : Sh} {sp : VSp} {E : XK} (hA : VAx c W tA as fA) (hs : ShOk c.M as pM) : VE c W .e (tCall (spOf c.K pM rsh sp) [] E tA) rsh (vCallIO as sp fA) := fun T σ e H Q Qv Qx hR hf hn hx => by
  refine hA T σ e H _ _ Qx hR hf (fun fT fV vs ds e1 H1 X1 av ⟨full, hfl, q⟩ => ?_) hx
  rw [List.append_nil]
  obtain ⟨L, gT, gV, X2, eqv, ar⟩ := takeAll X1 av hfl hs
  obtain ⟨fL, fT0, ef, tL, tT⟩ := X2.tm.unapp
  subst ef
  have nd := X2.nd
  rw [List.append_assoc] at nd
  obtain ⟨ndL, ndR, ndX⟩ := List.nodup_append.mp nd
  have noav : ∀ a ∈ fL, ¬ c.av a := fun a z y => by
    rcases X2.fr a (by simp [z]) with w | w
    · exact (X2.ok a y).2 w
    · exact (X2.ok a y).1 w
  have ow1 : ∀ a, (a ∈ ([] : List Addr) ++ fL ∨ (a ∈ fT0 ++ gV ∨ c.av a)) → owOf c (fL ++ fT0) gV a := fun a z => by
    rcases z with z | z | z
    · exact .inl (by simp at z; simp [z])
    · exact .inl (by rw [List.append_assoc]; exact List.mem_append_right _ z)
    · exact .inr z
  have lfull := (ArgR.rv ar tL).len.2
  rw [List.length_map] at lfull
  have rv := (ArgR.rv ar tL).fr (H' := H1) (ow' := fun a => a ∈ ([] : List Addr) ++ fL ∨ (a ∈ fT0 ++ gV ∨ c.av a)) (fun _ _ q _ => q) (ExtT.refl H1) (fun a z => .inl (ow1 a z)) (fun _ _ _ q => q)
  refine ⟨⟨c.K, H1, fun a => a ∈ fL, fun a => a ∈ fT0 ++ gV ∨ c.av a, pM, roots pM 0 vs⟩, full, fun r ps => Qv r (putIO as ps e1), fun _ _ => False, rfl, rfl, rfl, rfl, ⟨lfull, [], fL, rfl, .of rv, ndL, fun a z => .inl z, fun b o q _ => q, ExtT.refl H1, fun b q => q, fun a z => ?_, fun p hp => ?_⟩, q, ?_, fun x d ps H' _ _ _ z => z.elim⟩
  · rcases z with z | z
    · refine ⟨?_, fun y => ndX a y a z rfl⟩
      obtain ⟨o, w, _⟩ := X2.at a (by rw [List.append_assoc]; exact List.mem_append_right _ z)
      show H1 a ≠ none
      rw [w]
      simp
    · exact ⟨X2.avn z, fun y => noav a y z⟩
  · obtain ⟨j, a, b⟩ := roots_at _ _ _ p hp
    rw [Nat.zero_add] at a
    rw [a, List.getElem?_map, b]
    rfl
  rintro v r ps H' lps ⟨kT, kV, Y⟩ q
  have tb := RV.back (Y.vr.strict lps)
  obtain ⟨f1, f2, e2, r1, r2⟩ := Y.tm
  have r2 : f2 = [] := r2
  subst r2
  rw [List.append_nil] at e2
  subst e2
  have ow2 : ∀ a, owOf c (kT ++ (kV ++ fT0)) gV a → (a ∈ kT ++ kV ∨ (a ∈ fT0 ++ gV ∨ c.av a)) := fun a z => by
    rcases z with z | z
    · simp only [List.mem_append] at z ⊢
      rcases z with (z | z | z) | z <;> simp [z]
    · exact .inr (.inr z)
  have ow3 : ∀ a, owOf c (kT ++ (kV ++ fT0)) gV a → owOf c (fL ++ fT0) gV a ∨ H1 a = none := fun a z => by
    rcases ow2 a z with z | z | z
    · rcases Y.fr a z with y | y
      · exact .inl (.inl (by simp [show a ∈ fL from y]))
      · exact .inr y
    · exact .inl (.inl (by rw [List.append_assoc]; exact List.mem_append_right _ z))
    · exact .inl (.inr z)
  have kp1 : ∀ b o, H1 b = some o → ¬ owOf c (fL ++ fT0) gV b → H' b = some o := fun b o z n => Y.kp b o z fun y => n (.inl (by simp [show b ∈ fL from y]))
  have kp2 : ∀ b ∈ fT0 ++ gV, ∀ o, H1 b = some o → H' b = some o := fun b z o w => Y.kp b o w fun y => ndX b y b z rfl
  have main : R c ((rsh, v, r) :: (backL pM vs ps ++ T)) σ (wipeIO as e1) H' := by
    refine ⟨kT ++ (kV ++ fT0), gV, ⟨kT, kV ++ fT0, rfl, RO.fr (fun _ _ q _ => q) (ExtT.refl H') (fun a z => .inl (ow2 a z)) _ _ _ _ r1 (fun _ _ _ q => q), RT.app (tT.fr kp1 Y.tp ow3 (fun b z => kp2 b (List.mem_append_left _ z))) (tb.fr (fun _ _ q _ => q) (ExtT.refl H') (fun a z => .inl (ow2 a z)) (fun _ _ _ q => q))⟩, X2.vr.fr kp1 Y.tp ow3 (fun b z => kp2 b (List.mem_append_right _ z)), ?_, fun a z => ?_, fun b o q n => ?_, X2.tp.trans Y.tp, fun b q => Y.al b (X2.al b q), X2.ok, X2.rt⟩
    · have nn : ((kT ++ kV) ++ (fT0 ++ gV)).Nodup := List.nodup_append.mpr ⟨Y.nd, ndR, fun a z b y q => by
        subst q
        rcases Y.fr a z with w | w
        · exact ndX a w a y rfl
        · obtain ⟨o, u, _⟩ := X2.at a (by rw [List.append_assoc]; exact List.mem_append_right _ y)
          have w : H1 a = none := w
          rw [w] at u
          cases u⟩
      simpa using nn
    · have z' : a ∈ kT ++ kV ∨ a ∈ fT0 ++ gV := by
        simp only [List.mem_append] at z ⊢
        rcases z with (z | z | z) | z <;> simp [z]
      rcases z' with z | z
      · rcases Y.fr a z with w | w
        · exact X2.fr a (by simp [show a ∈ fL from w])
        · exact .inr (X2.new w).2
      · exact X2.fr a (by rw [List.append_assoc]; exact List.mem_append_right _ z)
    · refine Y.kp b o (X2.kp b o q n) fun z => ?_
      rcases X2.fr b (by simp [show b ∈ fL from z]) with y | y
      · exact n y
      · rw [y] at q
        cases q
  exact hn v r _ H' (giveAll main av hs lps) Post.e q
end
section
variable {as : List (Option Nat)} {sp : VSp} {fA : VTA} {e ps : Env} {Q : QV} {QA : List D → Env → Prop} {Qx : QX} {i : Nat} {d : D} {ds : List D} {y : Option D}
@[simp] theorem s_callIO : vCallIO as sp fA e Q Qx = fA e (fun ds e1 => ∃ full, fill as ds e1 = some full ∧ sp full (fun r ps => Q r (putIO as ps e1)) fun _ _ => False) Qx := rfl
@[simp] theorem s_io : vIo i fA e QA Qx = ((∃ d, e[i]? = some (some d)) ∧ fA e QA Qx) := rfl
@[simp] theorem s_fill0 : fill [] [] e = some [] := rfl
@[simp] theorem s_fillN : fill (none :: as) (d :: ds) e = (fill as ds e).map (d :: ·) := rfl
@[simp] theorem s_fillS : fill (some i :: as) ds e = (match e[i]? with | some (some d) => (fill as ds e).map (d :: ·) | _ => none) := rfl
@[simp] theorem s_putIO : putIO as ps e = giveE as ps (wipeIO as e) := rfl
@[simp] theorem s_wio0 : wipeIO [] e = e := rfl
@[simp] theorem s_wioN : wipeIO (none :: as) e = wipeIO as e := rfl
@[simp] theorem s_wioS : wipeIO (some i :: as) e = (wipeIO as e).set i none := rfl
@[simp] theorem s_give0 : giveE [] ps e = e := by cases ps <;> rfl
@[simp] theorem s_giveN : giveE (none :: as) (y :: ps) e = giveE as ps e := rfl
@[simp] theorem s_giveS : giveE (some i :: as) (some d :: ps) e = giveE as ps (e.set i (some d)) := rfl
@[simp] theorem s_giveM : giveE (some i :: as) (none :: ps) e = giveE as ps e := rfl
end
end VL
set_option Elab.async false
set_option linter.all false
set_option maxRecDepth 100000
set_option maxHeartbeats 2000000
namespace VL
open PySem PySem.Spec PyProof.Rows L2
/-! ### things that several hold -/
def cellAt : List Addr → List D → Addr → Option D
  | a :: as, d :: l, b => if a = b then some d else cellAt as l b
  | _, _, _ => none
def cellSet : List Addr → List D → Addr → D → List D
  | a :: as, d :: l, b, x => if a = b then x :: l else d :: cellSet as l b x
  | _, l, _, _ => l
section
variable {K : PySem.W.Frag} {ow ow' : Addr → Prop} {H H' : Hp}
theorem RM.get : ∀ {as : List Addr} {l : List D} {a : Addr} {d : D}, RM K ow H as l → cellAt as l a = some d → a ∈ as ∧ RO K ow H d (cellSh d) (.ref a) [a]
  | [], [], _, _, _, e => by simp [cellAt] at e
  | b :: as, x :: l, a, d, ⟨h, t⟩, e => by
    simp only [cellAt] at e
    split at e
    · rename_i q
      subst q
      cases e
      exact ⟨List.mem_cons_self, h⟩
    · obtain ⟨m, r⟩ := RM.get t e
      exact ⟨List.mem_cons_of_mem _ m, r⟩
  | [], _ :: _, _, _, h, _ => h.elim
  | _ :: _, [], _, _, h, _ => h.elim
theorem RM.set (hk : ∀ b o, H b = some o → ¬ ow b → H' b = some o) (hT : ExtT H H') (how : ∀ a, ow' a → ow a ∨ H a = none) : ∀ {as : List Addr} {l : List D} {a : Addr} {d : D}, RM K ow H as l → as.Nodup → (∀ b ∈ as, b ≠ a → ∀ o, H b = some o → H' b = some o) → RO K ow' H' d (cellSh d) (.ref a) [a] → RM K ow' H' as (cellSet as l a d)
  | [], [], _, _, _, _, _, _ => trivial
  | b :: as, x :: l, a, d, ⟨h, t⟩, n, k, r => by
    obtain ⟨n1, n2⟩ := List.nodup_cons.mp n
    simp only [cellSet]
    split
    · rename_i q
      subst q
      exact ⟨r, t.fr hk hT how fun c z => k c (List.mem_cons_of_mem _ z) fun e => n1 (e ▸ z)⟩
    · rename_i q
      exact ⟨RO.fr hk hT how _ _ _ _ h (fun c z => by rw [List.mem_singleton.mp z]; exact k b List.mem_cons_self q), RM.set hk hT how t n2 (fun c z => k c (List.mem_cons_of_mem _ z)) r⟩
  | [], _ :: _, _, _, h, _, _, _ => h.elim
  | _ :: _, [], _, _, h, _, _, _ => h.elim
end
section
variable {c : Vc} {fT fV : List Addr} {T : List Tm} {σ : L2.St} {e : Env} {H H' : Hp}
/-- the place of the cells -/
theorem RX.memAt {as : List Addr} {l : List D} (h : RX c fT fV T σ e H) (hm : e[c.M.length]? = some (some (.mem as l))) : ∃ e0 f0, e = e0 ++ [some (.mem as l)] ∧ e0.length = c.M.length ∧ fV = f0 ++ as ∧ RV c.K (owOf c fT fV) H c.M σ e0 f0 ∧ RM c.K (owOf c fT fV) H as l := by
  obtain ⟨e0, tl, f0, ft, rfl, rfl, r, t⟩ := h.vr
  have l0 := r.len.2
  rw [List.getElem?_append_right (by omega), l0, Nat.sub_self] at hm
  rcases t.cs with ⟨rfl, rfl⟩ | ⟨rfl, rfl⟩ | ⟨as', l', rfl, rfl, rm⟩
  · cases hm
  · cases hm
  · cases hm
    exact ⟨e0, f0, rfl, l0, rfl, r, rm⟩
/-- a cell is read -/
theorem RX.cell {as : List Addr} {l : List D} {a : Addr} {d : D} (h : RX c fT fV T σ e H) (hm : e[c.M.length]? = some (some (.mem as l))) (ha : cellAt as l a = some d) : a ∈ fT ++ fV ∧ RO c.K (owOf c fT fV) H d (cellSh d) (.ref a) [a] := by
  obtain ⟨e0, f0, rfl, l0, rfl, r, rm⟩ := h.memAt hm
  obtain ⟨m, r⟩ := rm.get ha
  exact ⟨by simp [m], r⟩
/-- the cells are others from now on -/
theorem RX.setMem' {as as' : List Addr} {l l' : List D} {S : List Addr} (h : RX c fT fV T σ e H) (hm : e[c.M.length]? = some (some (.mem as l))) (hS : ∀ b ∈ S, b ∈ as) (hk : ∀ b o, H b = some o → b ∉ S → H' b = some o) (hT : ExtT H H') (hal : ∀ b, H b ≠ none → H' b ≠ none) (nd : as'.Nodup) (hsub : ∀ a ∈ as', a ∈ as ∨ H a = none)
    (hrm : ∀ ow', (∀ a, ow' a → owOf c fT fV a ∨ H a = none) → RM c.K ow' H' as' l') : ∃ fV', (∀ b ∈ fV', b ∈ fV ∨ b ∈ as') ∧ RX c fT fV' T σ (e.set c.M.length (some (.mem as' l'))) H' := by
  obtain ⟨e0, f0, rfl, l0, rfl, r, rm⟩ := h.memAt hm
  have n := h.nd
  have eS : (e0 ++ [some (D.mem as l)]).set c.M.length (some (D.mem as' l')) = e0 ++ [some (D.mem as' l')] := by
    rw [List.set_append_right _ _ (by omega), l0, Nat.sub_self]
    rfl
  rw [eS]
  have how : ∀ a, owOf c fT (f0 ++ as') a → owOf c fT (f0 ++ as) a ∨ H a = none := fun a z => by
    rcases z with z | z
    · simp only [List.mem_append] at z
      rcases z with z | z | z
      · exact .inl (.inl (by simp [z]))
      · exact .inl (.inl (by simp [z]))
      · rcases hsub a z with q | q
        · exact .inl (.inl (by simp [q]))
        · exact .inr q
    · exact .inl (.inr z)
  have kow : ∀ b o, H b = some o → ¬ owOf c fT (f0 ++ as) b → H' b = some o := fun b o q n => hk b o q fun z => n (.inl (by simp [hS b z]))
  obtain ⟨n1, n2, n3⟩ := List.nodup_append.mp n
  obtain ⟨n4, n5, n6⟩ := List.nodup_append.mp n2
  have koth : ∀ b ∈ fT ++ f0, ∀ o, H b = some o → H' b = some o := fun b z o q => hk b o q fun y => by
    have y := hS b y
    rcases List.mem_append.mp z with z | z
    · exact n3 b z b (by simp [y]) rfl
    · exact n6 b z b y rfl
  refine ⟨f0 ++ as', fun b z => (List.mem_append.mp z).elim (fun q => .inl (List.mem_append_left _ q)) .inr, h.tm.fr kow hT how (fun b z => koth b (List.mem_append_left _ z)), ⟨e0, [some (.mem as' l')], f0, as', rfl, rfl, r.fr kow hT how (fun b z => koth b (List.mem_append_right _ z)), rfl, hrm _ how⟩, ?_, fun a z => ?_, fun b o q n => ?_, h.tp.trans hT, fun b q => hal b (h.al b q), h.ok, h.rt⟩
  · refine List.nodup_append.mpr ⟨n1, List.nodup_append.mpr ⟨n4, nd, fun a z b y q => ?_⟩, fun a z b y q => ?_⟩
    · subst q
      rcases hsub a y with w | w
      · exact n6 a z a w rfl
      · obtain ⟨o, u, _⟩ := h.at a (by simp [z])
        rw [w] at u
        cases u
    · subst q
      rcases List.mem_append.mp y with w | w
      · exact n3 a z a (by simp [w]) rfl
      · rcases hsub a w with w | w
        · exact n3 a z a (by simp [w]) rfl
        · obtain ⟨o, u, _⟩ := h.at a (by simp [z])
          rw [w] at u
          cases u
  · simp only [List.mem_append] at z
    rcases z with z | z | z
    · exact h.fr a (by simp [z])
    · exact h.fr a (by simp [z])
    · rcases hsub a z with q | q
      · exact h.fr a (by simp [q])
      · exact .inr (h.new q).2
  · refine hk b o (h.kp b o q n) fun z => ?_
    rcases h.fr b (by simp [hS b z]) with y | y
    · exact n y
    · rw [y] at q
      cases q
theorem RX.setMem {as as' : List Addr} {l l' : List D} {S : List Addr} (h : RX c fT fV T σ e H) (hm : e[c.M.length]? = some (some (.mem as l))) (hS : ∀ b ∈ S, b ∈ as) (hk : ∀ b o, H b = some o → b ∉ S → H' b = some o) (hT : ExtT H H') (hal : ∀ b, H b ≠ none → H' b ≠ none) (nd : as'.Nodup) (hsub : ∀ a ∈ as', a ∈ as ∨ H a = none)
    (hrm : ∀ ow', (∀ a, ow' a → owOf c fT fV a ∨ H a = none) → RM c.K ow' H' as' l') : ∃ fV', RX c fT fV' T σ (e.set c.M.length (some (.mem as' l'))) H' :=
  let ⟨fV', _, X⟩ := h.setMem' hm hS hk hT hal nd hsub hrm
  ⟨fV', X⟩
/-- a cell is changed -/
theorem RX.setCell {as : List Addr} {l : List D} {a : Addr} {d d' : D} (h : RX c fT fV T σ e H) (hm : e[c.M.length]? = some (some (.mem as l))) (ha : cellAt as l a = some d) (hk : ∀ b o, H b = some o → b ≠ a → H' b = some o) (hT : ExtT H H') (hal : ∀ b, H b ≠ none → H' b ≠ none)
    (hro : ∀ ow', (∀ a, ow' a → owOf c fT fV a ∨ H a = none) → RO c.K ow' H' d' (cellSh d') (.ref a) [a]) : ∃ fV', RX c fT fV' T σ (e.set c.M.length (some (.mem as (cellSet as l a d')))) H' := by
  obtain ⟨e0, f0, ee, l0, ef, r, rm⟩ := h.memAt hm
  obtain ⟨m, _⟩ := rm.get ha
  have n : as.Nodup := by
    have n := h.nd
    rw [ef] at n
    exact (List.nodup_append.mp (List.nodup_append.mp n).2.1).2.1
  refine h.setMem (S := [a]) hm (fun b z => by rw [List.mem_singleton.mp z]; exact m) (fun b o q z => hk b o q (by simpa using z)) hT hal n (fun b z => .inl z) fun ow' how => ?_
  refine rm.set (fun b o q z => hk b o q fun e => z ?_) hT how n (fun b _ z o q => hk b o q z) (hro ow' how)
  subst e
  rw [ef]
  exact .inl (by simp [m])
end
end VL
set_option Elab.async false
set_option linter.all false
set_option maxRecDepth 100000
set_option maxHeartbeats 2000000
namespace Fb
open PySem
/-! ### programs as trees; what is laid out of them -/
mutual
inductive Stm : Type
  | mk (w x : Str) (r : List PyData) (h : w = "let" ∨ w = "sum" ∨ w = "call")
  | no (w : Str) (r : List PyData) (h : w = "set" ∨ w = "tell" ∨ w = "give")
  | fn (x : Str) (ps : List Str) (b : Blk)
  | ite (a : PyData) (b1 b2 : Blk)
  | whl (a : PyData) (b : Blk)
  | tms (one : Bool) (x : Str) (a : PyData) (b : Blk)
inductive Blk : Type
  | nil
  | cons (s : Stm) (r : Blk)
end
def modeS (one : Bool) : Str := if one then "one" else "own"
mutual
def dS : Stm → PyData
  | .mk w x r _ => .tuple (.str w :: .str x :: r)
  | .no w r _ => .tuple (.str w :: r)
  | .fn x ps b => .tuple [.str "fn", .str x, .tuple (ps.map .str), .tuple (dB b)]
  | .ite a b1 b2 => .tuple [.str "if", a, .tuple (dB b1), .tuple (dB b2)]
  | .whl a b => .tuple [.str "while", a, .tuple (dB b)]
  | .tms one x a b => .tuple [.str "times", .str (modeS one), .str x, a, .tuple (dB b)]
def dB : Blk → List PyData
  | .nil => []
  | .cons s r => dS s :: dB r
end
/-! what its lists will have, at most -/
mutual
def wS : Stm → Nat
  | .mk .. => 2
  | .no .. => 1
  | .fn _ ps b => 4 + ps.length + wB b
  | .ite _ b1 b2 => 3 + wB b1 + wB b2
  | .whl _ b => 2 + wB b
  | .tms _ _ _ b => 4 + wB b
def wB : Blk → Nat
  | .nil => 0
  | .cons s r => wS s + wB r
end
theorem wS_pos (s : Stm) : 1 ≤ wS s := by
  cases s <;> simp only [wS] <;> omega
abbrev nD (n : Nat) : PyData := .int (n : Int)
def rowG (kind : Str) (k a : PyData) : PyData := .tuple [.str kind, k, a]
def rowM (x : Str) (k g : Nat) : PyData := .tuple [.str x, nD k, nD g]
def rowB (k : PyData) (ps : List Str) : PyData := .tuple [k, .tuple (ps.map .str)]
structure TS where
  pl : List (PyData × Nat × Nat)
  bd : List PyData
  gr : List PyData
  mm : List PyData
mutual
def layS : Stm → Nat → Nat → TS → TS
  | .mk w x r h, g, b, t => { t with pl := t.pl ++ [(dS (.mk w x r h), g, b)], mm := t.mm ++ [rowM x t.pl.length g] }
  | .no w r h, g, b, t => { t with pl := t.pl ++ [(dS (.no w r h), g, b)] }
  | .fn x ps blk, g, b, t => layB blk t.gr.length t.bd.length { pl := t.pl ++ [(dS (.fn x ps blk), g, b)], mm := t.mm ++ (rowM x t.pl.length g :: ps.map fun p => rowM p t.pl.length t.gr.length), bd := t.bd ++ [rowB (nD t.pl.length) ps], gr := t.gr ++ [rowG "body" (nD t.pl.length) (nD g)] }
  | .ite a b1 b2, g, b, t =>
    let t1 := layB b1 t.gr.length b { t with pl := t.pl ++ [(dS (.ite a b1 b2), g, b)], gr := t.gr ++ [rowG "one" (nD t.pl.length) (nD g)] }
    layB b2 t1.gr.length b { t1 with gr := t1.gr ++ [rowG "other" (nD t.pl.length) (nD g)] }
  | .whl a blk, g, b, t => layB blk t.gr.length b { t with pl := t.pl ++ [(dS (.whl a blk), g, b)], gr := t.gr ++ [rowG "while" (nD t.pl.length) (nD g)] }
  | .tms true x a blk, g, b, t => layB blk (t.gr.length + 1) b { t with pl := t.pl ++ [(dS (.tms true x a blk), g, b)], mm := t.mm ++ [rowM x t.pl.length t.gr.length], gr := t.gr ++ [rowG "head" (nD t.pl.length) (nD g)] ++ [rowG "times" (nD t.pl.length) (nD t.gr.length)] }
  | .tms false x a blk, g, b, t => layB blk t.gr.length b { t with pl := t.pl ++ [(dS (.tms false x a blk), g, b)], mm := t.mm ++ [rowM x t.pl.length t.gr.length], gr := t.gr ++ [rowG "times" (nD t.pl.length) (nD g)] }
def layB : Blk → Nat → Nat → TS → TS
  | .nil, _, _, t => t
  | .cons s r, g, b, t => layB r g b (layS s g b t)
end
/-! ### the pile -/
inductive Itm : Type
  | blk (kind : Str) (k a : PyData) (body : Nat) (b : Blk)
  | plc (s : Stm) (g b : Nat)
def runI : Itm → TS → TS
  | .blk kind k a body b, t => layB b t.gr.length body { t with gr := t.gr ++ [rowG kind k a] }
  | .plc s g b, t => layS s g b t
def runIs (l : List Itm) (t : TS) : TS := l.foldl (fun t i => runI i t) t
def plcs : Blk → Nat → Nat → List Itm
  | .nil, _, _ => []
  | .cons s r, g, b => .plc s g b :: plcs r g b
theorem run_plcs : ∀ (blk : Blk) (g b : Nat) (t : TS), runIs (plcs blk g b) t = layB blk g b t
  | .nil, _, _, _ => rfl
  | .cons s r, g, b, t => by
    show runIs (plcs r g b) (layS s g b t) = layB r g b (layS s g b t)
    exact run_plcs r g b _
theorem runIs_append (a b : List Itm) (t : TS) : runIs (a ++ b) t = runIs b (runIs a t) := List.foldl_append ..
/-- a statement met: what is laid at once, and the blocks that come -/
def metT : Stm → Nat → Nat → TS → TS
  | .mk w x r h, g, b, t => { t with pl := t.pl ++ [(dS (.mk w x r h), g, b)], mm := t.mm ++ [rowM x t.pl.length g] }
  | .no w r h, g, b, t => { t with pl := t.pl ++ [(dS (.no w r h), g, b)] }
  | .fn x ps blk, g, b, t => { t with pl := t.pl ++ [(dS (.fn x ps blk), g, b)], mm := t.mm ++ (rowM x t.pl.length g :: ps.map fun p => rowM p t.pl.length t.gr.length), bd := t.bd ++ [rowB (nD t.pl.length) ps] }
  | .ite a b1 b2, g, b, t => { t with pl := t.pl ++ [(dS (.ite a b1 b2), g, b)] }
  | .whl a blk, g, b, t => { t with pl := t.pl ++ [(dS (.whl a blk), g, b)] }
  | .tms true x a blk, g, b, t => { t with pl := t.pl ++ [(dS (.tms true x a blk), g, b)], mm := t.mm ++ [rowM x t.pl.length t.gr.length], gr := t.gr ++ [rowG "head" (nD t.pl.length) (nD g)] }
  | .tms false x a blk, g, b, t => { t with pl := t.pl ++ [(dS (.tms false x a blk), g, b)], mm := t.mm ++ [rowM x t.pl.length t.gr.length] }
def metI : Stm → Nat → Nat → TS → List Itm
  | .mk .., _, _, _ => []
  | .no .., _, _, _ => []
  | .fn x ps blk, g, b, t => [.blk "body" (nD t.pl.length) (nD g) t.bd.length blk]
  | .ite a b1 b2, g, b, t => [.blk "one" (nD t.pl.length) (nD g) b b1, .blk "other" (nD t.pl.length) (nD g) b b2]
  | .whl a blk, g, b, t => [.blk "while" (nD t.pl.length) (nD g) b blk]
  | .tms true x a blk, g, b, t => [.blk "times" (nD t.pl.length) (nD t.gr.length) b blk]
  | .tms false x a blk, g, b, t => [.blk "times" (nD t.pl.length) (nD g) b blk]
theorem run_met (s : Stm) (g b : Nat) (t : TS) : runIs (metI s g b t) (metT s g b t) = layS s g b t := by
  cases s with
  | mk w x r h => simp [metI, metT, layS, runIs]
  | no w r h => simp [metI, metT, layS, runIs]
  | fn x ps blk => simp [metI, metT, layS, runIs, runI]
  | ite a b1 b2 => simp [metI, metT, layS, runIs, runI]
  | whl a blk => simp [metI, metT, layS, runIs, runI]
  | tms one x a blk => cases one <;> simp [metI, metT, layS, runIs, runI]
def wI : Itm → Nat
  | .blk _ _ _ _ b => 1 + wB b
  | .plc s _ _ => wS s
theorem wI_pos (i : Itm) : 1 ≤ wI i := by
  cases i with
  | blk => simp only [wI]; omega
  | plc s => exact wS_pos s
def wIs (l : List Itm) : Nat := (l.map wI).sum
theorem wIs_cons (i : Itm) (l : List Itm) : wIs (i :: l) = wI i + wIs l := by simp [wIs]
theorem wIs_append (a b : List Itm) : wIs (a ++ b) = wIs a + wIs b := by simp [wIs]
theorem len_wIs : ∀ l : List Itm, l.length ≤ wIs l
  | [] => Nat.le_refl _
  | i :: r => by
    rw [wIs_cons, List.length_cons]
    have := len_wIs r
    have := wI_pos i
    omega
theorem w_plcs : ∀ (blk : Blk) (g b : Nat), wIs (plcs blk g b) = wB blk
  | .nil, _, _ => rfl
  | .cons s r, g, b => by
    show wIs (.plc s g b :: plcs r g b) = wS s + wB r
    rw [wIs_cons, w_plcs r]
    rfl
def TS.n (t : TS) : Nat := t.pl.length + t.bd.length + t.gr.length + t.mm.length
theorem w_met (s : Stm) (g b : Nat) (t : TS) : (metT s g b t).n + wIs (metI s g b t) ≤ t.n + wS s := by
  cases s with
  | mk w x r h => simp [metI, metT, TS.n, wIs, wI, wS]; omega
  | no w r h => simp [metI, metT, TS.n, wIs, wI, wS]; omega
  | fn x ps blk => simp [metI, metT, TS.n, wIs, wI, wS]; omega
  | ite a b1 b2 => simp [metI, metT, TS.n, wIs, wI, wS]; omega
  | whl a blk => simp [metI, metT, TS.n, wIs, wI, wS]; omega
  | tms one x a blk => cases one <;> simp [metI, metT, TS.n, wIs, wI, wS] <;> omega
/-! the measure falls -/
mutual
def zS : Stm → Nat
  | .mk .. => 1
  | .no .. => 1
  | .fn _ _ b => 2 + zB b
  | .ite _ b1 b2 => 3 + zB b1 + zB b2
  | .whl _ b => 2 + zB b
  | .tms _ _ _ b => 2 + zB b
def zB : Blk → Nat
  | .nil => 0
  | .cons s r => zS s + zB r
end
def zI : Itm → Nat
  | .blk _ _ _ _ b => 1 + zB b
  | .plc s _ _ => zS s
def zIs (l : List Itm) : Nat := (l.map zI).sum
theorem zIs_cons (i : Itm) (l : List Itm) : zIs (i :: l) = zI i + zIs l := by simp [zIs]
theorem zIs_append (a b : List Itm) : zIs (a ++ b) = zIs a + zIs b := by simp [zIs]
theorem z_plcs : ∀ (blk : Blk) (g b : Nat), zIs (plcs blk g b) = zB blk
  | .nil, _, _ => rfl
  | .cons s r, g, b => by
    show zIs (.plc s g b :: plcs r g b) = zS s + zB r
    rw [zIs_cons, z_plcs r]
    rfl
theorem z_met (s : Stm) (g b : Nat) (t : TS) : zIs (metI s g b t) + 1 = zS s := by
  cases s with
  | mk w x r h => simp [metI, zIs, zI, zS]
  | no w r h => simp [metI, zIs, zI, zS]
  | fn x ps blk => simp [metI, zIs, zI, zS]; omega
  | ite a b1 b2 => simp [metI, zIs, zI, zS]; omega
  | whl a blk => simp [metI, zIs, zI, zS]; omega
  | tms one x a blk => cases one <;> simp [metI, zIs, zI, zS] <;> omega
mutual
theorem w_layS : ∀ (s : Stm) (g b : Nat) (t : TS), (layS s g b t).n ≤ t.n + wS s
  | .mk w x r h, g, b, t => by simp [layS, TS.n, wS]; omega
  | .no w r h, g, b, t => by simp [layS, TS.n, wS]; omega
  | .fn x ps blk, g, b, t => by
    rw [layS]
    refine Nat.le_trans (w_layB blk _ _ _) ?_
    simp [TS.n, wS]; omega
  | .ite a b1 b2, g, b, t => by
    rw [layS]
    refine Nat.le_trans (w_layB b2 _ _ _) ?_
    have h := w_layB b1 t.gr.length b { t with pl := t.pl ++ [(dS (.ite a b1 b2), g, b)], gr := t.gr ++ [rowG "one" (nD t.pl.length) (nD g)] }
    simp [TS.n, wS] at h ⊢; omega
  | .whl a blk, g, b, t => by
    rw [layS]
    refine Nat.le_trans (w_layB blk _ _ _) ?_
    simp [TS.n, wS]; omega
  | .tms true x a blk, g, b, t => by
    rw [layS]
    refine Nat.le_trans (w_layB blk _ _ _) ?_
    simp [TS.n, wS]; omega
  | .tms false x a blk, g, b, t => by
    rw [layS]
    refine Nat.le_trans (w_layB blk _ _ _) ?_
    simp [TS.n, wS]; omega
theorem w_layB : ∀ (blk : Blk) (g b : Nat) (t : TS), (layB blk g b t).n ≤ t.n + wB blk
  | .nil, g, b, t => Nat.le_refl _
  | .cons s r, g, b, t => by
    rw [layB]
    have h1 := w_layB r g b (layS s g b t)
    have h2 := w_layS s g b t
    simp only [wB]
    omega
end
end Fb
set_option Elab.async false
set_option linter.all false
set_option maxRecDepth 100000
set_option maxHeartbeats 2000000
namespace Fb
open PySem PySem.Spec PyProof.Rows L2
/-! ### what may change -/
def Mod (S : List Addr) (H H' : Hp) : Prop := ∀ b o, H b = some o → b ∉ S → H' b = some o
theorem Mod.refl (S : List Addr) (H : Hp) : Mod S H H := fun _ _ e _ => e
theorem Mod.trans {S : List Addr} {H H1 H2 : Hp} (a : Mod S H H1) (b : Mod S H1 H2) : Mod S H H2 := fun c o e h => b c o (a c o e h) h
theorem Mod.of {S : List Addr} {H H' : Hp} (s : Same H H') : Mod S H H' := fun b o e _ => s b o e
theorem Mod.wide {S S' : List Addr} {H H' : Hp} (m : Mod S H H') (h : ∀ b ∈ S, b ∈ S') : Mod S' H H' := fun b o e z => m b o e fun q => z (h b q)
theorem Mod.put {S : List Addr} {H H' : Hp} {p : Addr} {o : HO} (m : Mod S H H') (h : p ∈ S ∨ H p = none) : Mod S H (L2.upd H' p o) := fun b x e z => by
  rcases h with h | h
  · rw [upd_ne (show b ≠ p from fun q => z (by rw [q]; exact h))]
    exact m b x e z
  · rw [upd_ne (ne_of_none e h)]
    exact m b x e z
theorem Mod.same {H H' : Hp} (m : Mod [] H H') : Same H H' := fun b o e => m b o e (by simp)
/-- what an object bears for ever -/
def Fix : HO → Prop
  | .tup _ => True
  | .frz _ _ => True
  | .ins _ _ _ => True
  | _ => False
def Ext (H H' : Hp) : Prop := ∀ b o, H b = some o → Fix o → H' b = some o
theorem Ext.refl (H : Hp) : Ext H H := fun _ _ e _ => e
theorem Ext.trans {H H1 H2 : Hp} (a : Ext H H1) (b : Ext H1 H2) : Ext H H2 := fun c o e f => b c o (a c o e f) f
theorem Same.ext {H H' : Hp} (s : Same H H') : Ext H H' := fun b o e _ => s b o e
theorem Mod.ext {S : List Addr} {H H' : Hp} (m : Mod S H H') (h : ∀ b ∈ S, ∀ o, H b = some o → ¬ Fix o) : Ext H H' := fun b o e f => m b o e fun q => h b q o e f
theorem no_lst {H : Hp} {a : Addr} {xs : List V} (h : H a = some (.lst xs)) : ∀ o, H a = some o → ¬ Fix o := fun o e => by
  rw [h] at e
  cases e
  exact id
theorem no_dk {H : Hp} {a : Addr} {xs : List (Key × V)} (h : H a = some (.dK xs)) : ∀ o, H a = some o → ¬ Fix o := fun o e => by
  rw [h] at e
  cases e
  exact id
theorem no_none {H : Hp} {a : Addr} (h : H a = none) : ∀ o, H a = some o → ¬ Fix o := fun o e => by
  rw [h] at e
  cases e
/-! ### data without lists stays -/
mutual
def noL : PyData → Bool
  | .none | .bool _ | .int _ | .str _ => true
  | .tuple xs => noLs xs
  | _ => false
def noLs : List PyData → Bool
  | [] => true
  | x :: xs => noL x && noLs xs
end
/-! tuples alone -/
def FixT : HO → Prop
  | .tup _ => True
  | .frz _ _ => True
  | _ => False
def ExtT (H H' : Hp) : Prop := ∀ b o, H b = some o → FixT o → H' b = some o
theorem Ext.t {H H' : Hp} (e : Ext H H') : ExtT H H' := fun b o h f => e b o h (by cases o <;> first | exact True.intro | exact f.elim)
theorem ExtT.trans {H H1 H2 : Hp} (a : ExtT H H1) (b : ExtT H1 H2) : ExtT H H2 := fun c o e f => b c o (a c o e f) f
theorem Mod.extT {S : List Addr} {H H' : Hp} (m : Mod S H H') (h : ∀ b ∈ S, ∀ o, H b = some o → ¬ FixT o) : ExtT H H' := fun b o e f => m b o e fun q => h b q o e f
theorem noT_ins {H : Hp} {a C dx : Addr} {fs : List (Str × V)} (h : H a = some (.ins C dx fs)) : ∀ o, H a = some o → ¬ FixT o := fun o e => by
  rw [h] at e
  cases e
  exact id
theorem noT_of {H : Hp} {a : Addr} (h : ∀ o, H a = some o → ¬ Fix o) : ∀ o, H a = some o → ¬ FixT o := fun o e f => h o e (by cases o <;> first | exact True.intro | exact f.elim)
theorem sqT_extT {K : PySem.W.Frag} {H H' : Hp} {a : Addr} {xs : List V} (e : ExtT H H') (h : SqT K H a xs) : SqT K H' a xs := by
  rcases h with (h | ⟨o, h⟩) | h
  · exact .inl (.inl (e _ _ h True.intro))
  · exact .inl (.inr ⟨o, e _ _ h True.intro⟩)
  · exact .inr h
mutual
theorem dp_extT {K : PySem.W.Frag} {H H' : Hp} (e : ExtT H H') : ∀ (d : PyData) (v : V), Dp K H v d → noL d = true → Dp K H' v d
  | .none, _, h, _ => by cases h; exact .non
  | .bool b, _, h, _ => by cases h; exact .bl b
  | .int i, _, h, _ => by cases h; exact .int i
  | .str x, _, h, _ => by cases h; exact .str x
  | .list _, _, _, n => by simp [noL] at n
  | .dict _, _, _, n => by simp [noL] at n
  | .tuple ds, _, h, n => by
    cases h with
    | tup a b => exact .tup (sqT_extT e a) (dps_extT e ds _ b (by simpa [noL] using n))
theorem dps_extT {K : PySem.W.Frag} {H H' : Hp} (e : ExtT H H') : ∀ (ds : List PyData) (vs : List V), DpAll K H vs ds → noLs ds = true → DpAll K H' vs ds
  | [], _, h, _ => by cases h; exact .nil
  | d :: ds, _, h, n => by
    cases h with
    | cons a b =>
      rw [noLs, Bool.and_eq_true] at n
      exact .cons (dp_extT e d _ a n.1) (dps_extT e ds _ b n.2)
end
theorem sqT_ext {K : PySem.W.Frag} {H H' : Hp} {a : Addr} {xs : List V} (e : Ext H H') (h : SqT K H a xs) : SqT K H' a xs := sqT_extT e.t h
theorem dp_ext {K : PySem.W.Frag} {H H' : Hp} (e : Ext H H') (d : PyData) (v : V) (h : Dp K H v d) (n : noL d = true) : Dp K H' v d := dp_extT e.t d v h n
theorem dps_ext {K : PySem.W.Frag} {H H' : Hp} (e : Ext H H') (ds : List PyData) (vs : List V) (h : DpAll K H vs ds) (n : noLs ds = true) : DpAll K H' vs ds := dps_extT e.t ds vs h n
theorem dps_len {K : PySem.W.Frag} {H : Hp} : ∀ {vs : List V} {ds : List PyData}, DpAll K H vs ds → vs.length = ds.length
  | _, _, .nil => rfl
  | _, _, .cons _ t => by rw [List.length_cons, List.length_cons, dps_len t]
theorem dps_snoc {K : PySem.W.Frag} {H : Hp} {v : V} {d : PyData} : ∀ {vs : List V} {ds : List PyData}, DpAll K H vs ds → Dp K H v d → DpAll K H (vs ++ [v]) (ds ++ [d])
  | _, _, .nil, h => .cons h .nil
  | _, _, .cons a t, h => .cons a (dps_snoc t h)
theorem dps_app {K : PySem.W.Frag} {H : Hp} {ws : List V} {es : List PyData} (h : DpAll K H ws es) : ∀ {vs : List V} {ds : List PyData}, DpAll K H vs ds → DpAll K H (vs ++ ws) (ds ++ es)
  | _, _, .nil => h
  | _, _, .cons a t => .cons a (dps_app h t)
theorem dps_at {K : PySem.W.Frag} {H : Hp} : ∀ {vs : List V} {ds : List PyData} {i : Nat} {v : V}, DpAll K H vs ds → vs[i]? = some v → ∃ d, ds[i]? = some d ∧ Dp K H v d
  | _, _, 0, _, .cons a _, h => ⟨_, rfl, by cases h; exact a⟩
  | _, _, i + 1, _, .cons _ t, h => dps_at (i := i) t h
  | _, _, _, _, .nil, h => by cases h
theorem dps_strs {K : PySem.W.Frag} {H : Hp} : ∀ ps : List Str, DpAll K H (ps.map V.str) (ps.map PyData.str)
  | [] => .nil
  | p :: r => .cons (.str p) (dps_strs r)
theorem strs_of {K : PySem.W.Frag} {H : Hp} : ∀ {ps : List Str} {vs : List V}, DpAll K H vs (ps.map PyData.str) → vs = ps.map V.str
  | [], _, .nil => rfl
  | p :: r, _, .cons a t => by
    cases a
    rw [strs_of t]
    rfl
/-! ### sizes of what is shown -/
structure Sh (d : PyData) (n m : Nat) : Prop where
  sw : d.showable = true
  nd : d.hasDict = false
  dp : d.depth ≤ m
  ln : d.shown.length ≤ n
  cl : d.canLay0 = true
theorem sh_none (n m : Nat) (h : 4 ≤ n) : Sh .none n m := ⟨rfl, rfl, Nat.zero_le _, Nat.le_trans (by decide +kernel : (PyData.shown .none).length ≤ 4) h, rfl⟩
theorem sh_int {i : Int} {n m : Nat} (h : i.natAbs < 1000000000000) (hn : 13 ≤ n) : Sh (.int i) n m := by
  refine ⟨?_, rfl, Nat.zero_le _, Nat.le_trans (PyData.shown_int_le h) hn, rfl⟩
  show decide (i.natAbs.log2 < 1920) = true
  exact decide_eq_true (Nat.lt_of_lt_of_le (PySem.Flt.log2_lt_of (k := 40) (by decide) (Nat.lt_of_lt_of_le h (by decide))) (by decide))
theorem str_low {x : Str} (hc : ∀ c ∈ x.cps.toList, c < 128) : PyData.canLay0 (.str x) = true := by
  show x.cps.all (· < 0x110000) = true
  rw [← Array.all_toList, List.all_eq_true]
  exact fun c z => decide_eq_true (Nat.lt_trans (hc c z) (by decide))
theorem sh_str {x : Str} {k n m : Nat} (h : x.length ≤ k) (hc : ∀ c ∈ x.cps.toList, c < 128) (hn : 10 * k + 2 ≤ n) : Sh (.str x) n m :=
  ⟨rfl, rfl, Nat.zero_le _, Nat.le_trans (StrLaws.reprText_len x fun c z => Nat.lt_trans (hc c z) (by decide)) (by omega), str_low hc⟩
structure ShA (ds : List PyData) (n m : Nat) : Prop where
  sw : PyData.showableAll ds = true
  nd : PyData.hasDictAll ds = false
  dp : PyData.depthAll ds ≤ m
  ln : ((PyData.shownAll ds).map (·.length)).sum + 2 * ds.length ≤ n
  cl : PyData.canLayAll0 ds = true
theorem sha_nil (n m : Nat) : ShA [] n m := ⟨rfl, rfl, Nat.zero_le _, Nat.zero_le _, rfl⟩
theorem sha_cons {d : PyData} {ds : List PyData} {a b m : Nat} (h : Sh d a m) (t : ShA ds b m) : ShA (d :: ds) (a + 2 + b) m := by
  refine ⟨?_, ?_, ?_, ?_, ?_⟩
  · rw [PyData.showableAll, h.sw, t.sw]; rfl
  · rw [PyData.hasDictAll, h.nd, t.nd]; rfl
  · rw [PyData.depthAll]; exact Nat.max_le.mpr ⟨h.dp, t.dp⟩
  · rw [PyData.shownAll, List.map_cons, List.sum_cons, List.length_cons]
    have := h.ln
    have := t.ln
    omega
  · rw [PyData.canLayAll0, h.cl, t.cl]; rfl
theorem ShA.mono {ds : List PyData} {a b m m' : Nat} (h : ShA ds a m) (h1 : a ≤ b) (h2 : m ≤ m') : ShA ds b m' := ⟨h.sw, h.nd, Nat.le_trans h.dp h2, Nat.le_trans h.ln h1, h.cl⟩
theorem Sh.mono {d : PyData} {a b m m' : Nat} (h : Sh d a m) (h1 : a ≤ b) (h2 : m ≤ m') : Sh d b m' := ⟨h.sw, h.nd, Nat.le_trans h.dp h2, Nat.le_trans h.ln h1, h.cl⟩
theorem sha_all {a m : Nat} : ∀ {ds : List PyData}, (∀ d ∈ ds, Sh d a m) → ShA ds (ds.length * (a + 2)) m
  | [], _ => sha_nil _ _
  | d :: ds, h => (sha_cons (h d List.mem_cons_self) (sha_all fun e z => h e (List.mem_cons_of_mem _ z))).mono (by rw [List.length_cons, Nat.succ_mul]; omega) (Nat.le_refl _)
theorem shown_len : ∀ ds : List PyData, (PyData.shownAll ds).length = ds.length
  | [] => rfl
  | _ :: r => by rw [PyData.shownAll, List.length_cons, List.length_cons, shown_len r]
theorem sh_tup {ds : List PyData} {n m : Nat} (h : ShA ds n m) : Sh (.tuple ds) (n + 3) (m + 1) := by
  refine ⟨h.sw, h.nd, Nat.succ_le_succ h.dp, ?_, h.cl⟩
  have z := tupleText_len_le (PyData.shownAll ds)
  rw [shown_len] at z
  have := h.ln
  show (tupleText (PyData.shownAll ds)).length ≤ _
  omega
theorem sh_lst {ds : List PyData} {n m : Nat} (h : ShA ds n m) : Sh (.list ds) (n + 3) (m + 1) := by
  refine ⟨h.sw, h.nd, Nat.succ_le_succ h.dp, ?_, h.cl⟩
  have z := listText_len_le (PyData.shownAll ds)
  rw [shown_len] at z
  have := h.ln
  show (listText (PyData.shownAll ds)).length ≤ _
  omega
theorem Sh.shaped {d : PyData} {n m : Nat} (h : Sh d n m) (hm : m ≤ 64) : SeqAt.shaped d = true := by
  unfold SeqAt.shaped
  rw [h.cl, Bool.true_and]
  exact decide_eq_true (Nat.le_trans h.dp hm)
/-! ### good statements -/
def nm (x : Str) : Prop := x.length ≤ 20 ∧ ∀ c ∈ x.cps.toList, c < 128
def Lf (d : PyData) : Prop := noL d = true ∧ Sh d 202 0
mutual
def goodS : Stm → Prop
  | .mk _ x r _ => nm x ∧ noLs r = true ∧ ShA r 1300 1
  | .no _ r _ => noLs r = true ∧ ShA r 1300 1
  | .fn x ps b => nm x ∧ ps.length ≤ 4 ∧ (∀ p ∈ ps, nm p) ∧ goodB b
  | .ite a b1 b2 => Lf a ∧ goodB b1 ∧ goodB b2
  | .whl a b => Lf a ∧ goodB b
  | .tms _ x a b => nm x ∧ Lf a ∧ goodB b
def goodB : Blk → Prop
  | .nil => True
  | .cons s r => goodS s ∧ goodB r
end
theorem noLs_all : ∀ {ds : List PyData}, (∀ d ∈ ds, noL d = true) → noLs ds = true
  | [], _ => rfl
  | d :: ds, h => by
    rw [noLs, h d List.mem_cons_self, noLs_all fun e z => h e (List.mem_cons_of_mem _ z)]
    rfl
theorem noLs_strs (ps : List Str) : noLs (ps.map PyData.str) = true := noLs_all fun d h => by
  obtain ⟨x, _, rfl⟩ := List.mem_map.mp h
  rfl
mutual
theorem noL_dS : ∀ s : Stm, goodS s → noL (dS s) = true
  | .mk w x r h, g => by
    rw [goodS] at g
    rw [dS, noL, noLs, noLs, g.2.1]
    rfl
  | .no w r h, g => by
    rw [goodS] at g
    rw [dS, noL, noLs, g.1]
    rfl
  | .fn x ps b, g => by
    rw [goodS] at g
    simp only [dS, noL, noLs, noLs_strs, noL_dB b g.2.2.2, Bool.and_true]
  | .ite a b1 b2, g => by
    rw [goodS] at g
    simp only [dS, noL, noLs, g.1.1, noL_dB b1 g.2.1, noL_dB b2 g.2.2, Bool.and_true]
  | .whl a b, g => by
    rw [goodS] at g
    simp only [dS, noL, noLs, g.1.1, noL_dB b g.2, Bool.and_true]
  | .tms one x a b, g => by
    rw [goodS] at g
    simp only [dS, noL, noLs, g.2.1.1, noL_dB b g.2.2, Bool.and_true]
theorem noL_dB : ∀ b : Blk, goodB b → noLs (dB b) = true
  | .nil, _ => rfl
  | .cons s r, g => by
    rw [goodB] at g
    rw [dB, noLs, noL_dS s g.1, noL_dB r g.2]
    rfl
end
theorem noL_blk {b : Blk} (g : goodB b) : noL (.tuple (dB b)) = true := by
  rw [noL]
  exact noL_dB b g
end Fb
set_option Elab.async false
set_option linter.all false
set_option maxRecDepth 100000
set_option maxHeartbeats 2000000
namespace Fb
open PySem PySem.Spec PyProof.Rows L2
section
variable {K : PySem.W.Frag} {H : Hp} {v : V}
theorem view_tup {ds : List PyData} (h : Dp K H v (.tuple ds)) : ∃ a vs, v = .ref a ∧ SqT K H a vs ∧ DpAll K H vs ds := by
  cases h with
  | tup a b => exact ⟨_, _, rfl, a, b⟩
theorem view_mk {w x : Str} {r : List PyData} {h0} (h : Dp K H v (dS (.mk w x r h0))) : ∃ a rs, v = .ref a ∧ SqT K H a (.str w :: .str x :: rs) ∧ DpAll K H rs r := by
  rw [dS] at h
  obtain ⟨a, vs, rfl, q, z⟩ := view_tup h
  cases z with
  | cons z1 z => cases z1; cases z with
    | cons z2 z => cases z2; exact ⟨a, _, rfl, q, z⟩
theorem view_no {w : Str} {r : List PyData} {h0} (h : Dp K H v (dS (.no w r h0))) : ∃ a rs, v = .ref a ∧ SqT K H a (.str w :: rs) ∧ DpAll K H rs r := by
  rw [dS] at h
  obtain ⟨a, vs, rfl, q, z⟩ := view_tup h
  cases z with
  | cons z1 z => cases z1; exact ⟨a, _, rfl, q, z⟩
theorem view_fn {x : Str} {ps : List Str} {b : Blk} (h : Dp K H v (dS (.fn x ps b))) : ∃ a pa ba, v = .ref a ∧ SqT K H a [.str "fn", .str x, .ref pa, .ref ba] ∧ SqT K H pa (ps.map V.str) ∧ Dp K H (.ref ba) (.tuple (dB b)) := by
  rw [dS] at h
  obtain ⟨a, vs, rfl, q, z⟩ := view_tup h
  cases z with
  | cons z1 z => cases z1; cases z with
    | cons z2 z => cases z2; cases z with
      | cons z3 z =>
        obtain ⟨pa, us, rfl, q3, y3⟩ := view_tup z3
        cases strs_of y3
        cases z with
        | cons z4 z =>
          obtain ⟨ba, ws, rfl, q4, y4⟩ := view_tup z4
          cases z
          exact ⟨a, pa, ba, rfl, q, q3, z4⟩
theorem view_ite {c : PyData} {b1 b2 : Blk} (h : Dp K H v (dS (.ite c b1 b2))) : ∃ a u p1 p2, v = .ref a ∧ SqT K H a [.str "if", u, .ref p1, .ref p2] ∧ Dp K H (.ref p1) (.tuple (dB b1)) ∧ Dp K H (.ref p2) (.tuple (dB b2)) := by
  rw [dS] at h
  obtain ⟨a, vs, rfl, q, z⟩ := view_tup h
  cases z with
  | cons z1 z => cases z1; cases z with
    | cons z2 z => cases z with
      | cons z3 z =>
        obtain ⟨p1, us, rfl, q3, y3⟩ := view_tup z3
        cases z with
        | cons z4 z =>
          obtain ⟨p2, ws, rfl, q4, y4⟩ := view_tup z4
          cases z
          exact ⟨a, _, p1, p2, rfl, q, z3, z4⟩
theorem view_whl {c : PyData} {b : Blk} (h : Dp K H v (dS (.whl c b))) : ∃ a u p, v = .ref a ∧ SqT K H a [.str "while", u, .ref p] ∧ Dp K H (.ref p) (.tuple (dB b)) := by
  rw [dS] at h
  obtain ⟨a, vs, rfl, q, z⟩ := view_tup h
  cases z with
  | cons z1 z => cases z1; cases z with
    | cons z2 z => cases z with
      | cons z3 z =>
        obtain ⟨p, us, rfl, q3, y3⟩ := view_tup z3
        cases z
        exact ⟨a, _, p, rfl, q, z3⟩
theorem view_tms {one : Bool} {x : Str} {c : PyData} {b : Blk} (h : Dp K H v (dS (.tms one x c b))) : ∃ a u p, v = .ref a ∧ SqT K H a [.str "times", .str (modeS one), .str x, u, .ref p] ∧ Dp K H (.ref p) (.tuple (dB b)) := by
  rw [dS] at h
  obtain ⟨a, vs, rfl, q, z⟩ := view_tup h
  cases z with
  | cons z1 z => cases z1; cases z with
    | cons z2 z => cases z2; cases z with
      | cons z3 z => cases z3; cases z with
        | cons z4 z => cases z with
          | cons z5 z =>
            obtain ⟨p, us, rfl, q5, y5⟩ := view_tup z5
            cases z
            exact ⟨a, _, p, rfl, q, z5⟩
end
/-! rules that name the written part (for blocks of comprehensions) -/
theorem pe_fldK {X : Cx} (K0 : PySem.W.Frag) (hK : X.K = K0) {e : Expr} {ta : TE} {f : Str} {pos : Pos} (he : PE X e ta) (hb : attributeBase e f X.env (eval e X.env) = eval e X.env) : PE X (.Attribute e f pos) (tFld K0 ta f) := by
  subst hK
  exact pe_fld he hb
theorem pg_tupK {X : Cx} (K0 : PySem.W.Frag) (hK : X.K = K0) {es : List Expr} {k : Nat} {pos : Pos} {n : Nat} {t : TGs} (hc : X.calm = true) (h : PGs X es t) (hn : (assignEach es X.env).length = n := by rfl) (hst : (assignEach es X.env).findIdx? (·.1) = none := by rfl) : PG X (.Tuple es k pos) (gTup K0 n t) := by
  subst hK
  exact pg_tup hc h hn hst
theorem ixL {X : Cx} (K0 : PySem.W.Frag) (hK : X.K = K0) : IxR X (rIxL K0) := by
  subst hK
  exact ix_list
theorem ixT {X : Cx} (K0 : PySem.W.Frag) (hK : X.K = K0) : IxR X (rIxT K0) := by
  subst hK
  exact ix_tup
/-- the word of a statement -/
def wordS : Stm → Str
  | .mk w .. => w
  | .no w .. => w
  | .fn .. => "fn"
  | .ite .. => "if"
  | .whl .. => "while"
  | .tms .. => "times"
theorem view_any {K : PySem.W.Frag} {H : Hp} {v : V} {s : Stm} (h : Dp K H v (dS s)) : ∃ a xs, v = .ref a ∧ SqT K H a xs ∧ xs[0]? = some (.str (wordS s)) := by
  cases s with
  | mk w x r h0 =>
    obtain ⟨a, rs, e, q, _⟩ := view_mk h
    exact ⟨a, _, e, q, rfl⟩
  | no w r h0 =>
    obtain ⟨a, rs, e, q, _⟩ := view_no h
    exact ⟨a, _, e, q, rfl⟩
  | fn x ps b =>
    obtain ⟨a, _, _, e, q, _⟩ := view_fn h
    exact ⟨a, _, e, q, rfl⟩
  | ite c b1 b2 =>
    obtain ⟨a, _, _, _, e, q, _⟩ := view_ite h
    exact ⟨a, _, e, q, rfl⟩
  | whl c b =>
    obtain ⟨a, _, _, e, q, _⟩ := view_whl h
    exact ⟨a, _, e, q, rfl⟩
  | tms one x c b =>
    obtain ⟨a, _, _, e, q, _⟩ := view_tms h
    exact ⟨a, _, e, q, rfl⟩
/-! which word it is -/
abbrev mkW : List Str := ["let", "sum", "call"]
theorem mkW_in {w : Str} (h : w = "let" ∨ w = "sum" ∨ w = "call") : inV (.str w) (mkW.map V.str) = true := by
  rcases h with e | e | e <;> (subst e; decide +kernel)
theorem mkW_ne {w : Str} (h : w = "let" ∨ w = "sum" ∨ w = "call") : ¬ w = "fn" ∧ ¬ w = "if" ∧ ¬ w = "while" ∧ ¬ w = "times" := by
  rcases h with e | e | e <;> (subst e; decide +kernel)
theorem noW_in {w : Str} (h : w = "set" ∨ w = "tell" ∨ w = "give") : inV (.str w) (mkW.map V.str) = false := by
  rcases h with e | e | e <;> (subst e; decide +kernel)
theorem noW_ne {w : Str} (h : w = "set" ∨ w = "tell" ∨ w = "give") : ¬ w = "fn" ∧ ¬ w = "if" ∧ ¬ w = "while" ∧ ¬ w = "times" := by
  rcases h with e | e | e <;> (subst e; decide +kernel)
/-! what a statement makes; its blocks -/
def madeD : Stm → Nat → Nat → Nat → List PyData
  | .mk _ x _ _, k, g, _ => [rowM x k g]
  | .fn x ps _, k, g, f => rowM x k g :: ps.map fun p => rowM p k f
  | .tms _ x _ _, k, _, f => [rowM x k f]
  | _, _, _, _ => []
def blks : Stm → List (Str × Blk)
  | .fn _ _ b => [("body", b)]
  | .ite _ b1 b2 => [("one", b1), ("other", b2)]
  | .whl _ b => [("while", b)]
  | .tms _ _ _ b => [("times", b)]
  | _ => []
def kbD (q : Str × Blk) : PyData := .tuple [.str q.1, .tuple (dB q.2)]
def isOne : Stm → Bool
  | .tms true .. => true
  | _ => false
def isFn : Stm → Bool
  | .fn .. => true
  | _ => false
def arnd (s : Stm) (g f : Nat) : Nat := if isOne s then f else g
def bodN (s : Stm) (b n : Nat) : Nat := if isFn s then n else b
theorem metI_eq (s : Stm) (g b : Nat) (t : TS) : metI s g b t = (blks s).map fun q => .blk q.1 (nD t.pl.length) (nD (arnd s g t.gr.length)) (bodN s b t.bd.length) q.2 := by
  cases s with
  | tms one x c b => cases one <;> rfl
  | _ => rfl
theorem metT_pl (s : Stm) (g b : Nat) (t : TS) : (metT s g b t).pl = t.pl ++ [(dS s, g, b)] := by
  cases s with
  | tms one x c b => cases one <;> rfl
  | _ => rfl
theorem metT_mm (s : Stm) (g b : Nat) (t : TS) : (metT s g b t).mm = t.mm ++ madeD s t.pl.length g t.gr.length := by
  cases s with
  | tms one x c b => cases one <;> rfl
  | mk w x r h => rfl
  | fn x ps b => rfl
  | no w r h => exact (List.append_nil _).symm
  | ite c b1 b2 => exact (List.append_nil _).symm
  | whl c b => exact (List.append_nil _).symm
def bdD : Stm → Nat → List PyData
  | .fn _ ps _, k => [rowB (nD k) ps]
  | _, _ => []
def grD : Stm → Nat → Nat → List PyData
  | .tms true .., k, g => [rowG "head" (nD k) (nD g)]
  | _, _, _ => []
theorem metT_bd (s : Stm) (g b : Nat) (t : TS) : (metT s g b t).bd = t.bd ++ bdD s t.pl.length := by
  cases s with
  | fn x ps b => rfl
  | tms one x c b => cases one <;> exact (List.append_nil _).symm
  | _ => exact (List.append_nil _).symm
theorem metT_gr (s : Stm) (g b : Nat) (t : TS) : (metT s g b t).gr = t.gr ++ grD s t.pl.length g := by
  cases s with
  | tms one x c b =>
    cases one
    · exact (List.append_nil _).symm
    · rfl
  | _ => exact (List.append_nil _).symm
theorem madeD_len (s : Stm) (k g f : Nat) : (madeD s k g f).length ≤ wS s := by
  cases s with
  | tms one x c b => simp [madeD, wS]; omega
  | mk w x r h => simp [madeD, wS]
  | fn x ps b => simp [madeD, wS]; omega
  | no w r h => simp [madeD]
  | ite c b1 b2 => simp [madeD]
  | whl c b => simp [madeD]
theorem goodB_blks {s : Stm} (g : goodS s) : ∀ q ∈ blks s, goodB q.2 := by
  cases s with
  | mk w x r h => intro q z; cases z
  | no w r h => intro q z; cases z
  | fn x ps b =>
    rw [goodS] at g
    intro q z
    rw [List.mem_singleton.mp z]
    exact g.2.2.2
  | ite c b1 b2 =>
    rw [goodS] at g
    intro q z
    simp only [blks, List.mem_cons, List.not_mem_nil, or_false] at z
    rcases z with e | e
    · rw [e]; exact g.2.1
    · rw [e]; exact g.2.2
  | whl c b =>
    rw [goodS] at g
    intro q z
    rw [List.mem_singleton.mp z]
    exact g.2
  | tms one x c b =>
    rw [goodS] at g
    intro q z
    rw [List.mem_singleton.mp z]
    exact g.2.2
end Fb
set_option Elab.async false
set_option linter.all false
set_option maxRecDepth 100000
set_option maxHeartbeats 2000000
namespace Fb
open PySem PySem.Spec PyProof.Rows L2
mutual
def nS : Stm → Nat
  | .mk .. => 1
  | .no .. => 1
  | .fn _ _ b => 1 + nB b
  | .ite _ b1 b2 => 1 + nB b1 + nB b2
  | .whl _ b => 1 + nB b
  | .tms _ _ _ b => 1 + nB b
def nB : Blk → Nat
  | .nil => 0
  | .cons s r => nS s + nB r
end
mutual
theorem w9S : ∀ s : Stm, goodS s → wS s ≤ 9 * nS s
  | .mk .., _ => by simp only [wS, nS]; omega
  | .no .., _ => by simp only [wS, nS]; omega
  | .fn _ ps b, g => by
    rw [goodS] at g
    have := w9B b g.2.2.2
    simp only [wS, nS]; omega
  | .ite _ b1 b2, g => by
    rw [goodS] at g
    have := w9B b1 g.2.1
    have := w9B b2 g.2.2
    simp only [wS, nS]; omega
  | .whl _ b, g => by
    rw [goodS] at g
    have := w9B b g.2
    simp only [wS, nS]; omega
  | .tms _ _ _ b, g => by
    rw [goodS] at g
    have := w9B b g.2.2
    simp only [wS, nS]; omega
theorem w9B : ∀ b : Blk, goodB b → wB b ≤ 9 * nB b
  | .nil, _ => Nat.le_refl _
  | .cons s r, g => by
    rw [goodB] at g
    have := w9S s g.1
    have := w9B r g.2
    simp only [wB, nB]; omega
end
/-! ### some more rules -/
section
variable {X : Cx}
theorem mul_ok {z : Str} {n : Int} (h : n = 0 ∨ n = 1) : PySem.MulOk z n := by
  rcases h with rfl | rfl
  · exact ⟨by decide, fun a => absurd (by decide) a, fun a => absurd (by decide) a⟩
  · exact ⟨by decide, fun _ b => by simp at b, fun _ b => by simp at b⟩
theorem mul_is {z : Str} {n : Int} (h : n = 0 ∨ n = 1) : Txt.mul z n = if n = 1 then z else Str.empty := by
  rcases h with rfl | rfl
  · rfl
  · simp [Txt.mul]
theorem op_mul_s01 : OpR X (binaryOp .Mult) (fun x y H Q => ∃ (z : Str) (n : Int), x = .str z ∧ y = .int n ∧ (n = 0 ∨ n = 1) ∧ Q (.str (if n = 1 then z else Str.empty)) H) := by
  intro pins s σ H x y v u Q I rx ry h
  obtain ⟨z, n, rfl, rfl, hn, q⟩ := h
  obtain ⟨t, rfl⟩ := rx
  obtain ⟨t2, rfl⟩ := ry
  refine SB.mul (mul_ok hn) fun t' k => ?_
  rw [mul_is hn]
  exact ⟨.str _, H, I.tok _, ⟨_, rfl⟩, q⟩
theorem lenK (K0 : PySem.W.Frag) (hK : X.K = K0) : CallR X (.builtin "len") (fun xs H Q => ∃ p ys, xs = [.ref p] ∧ (SqL K0 H p ys ∨ SqT K0 H p ys) ∧ Q (.int ys.length) H) := by
  subst hK
  exact call_len_seq
theorem inK (K0 : PySem.W.Frag) (hK : X.K = K0) : OpR X (compareOp .In) (rIn K0 false) := by
  subst hK
  exact op_in_seq
end
/-! ### a block that grows behind -/
def snoc : Blk → Stm → Blk
  | .nil, s => .cons s .nil
  | .cons x r, s => .cons x (snoc r s)
theorem dB_snoc : ∀ (b : Blk) (s : Stm), dB (snoc b s) = dB b ++ [dS s]
  | .nil, s => by rw [snoc, dB, dB, dB]; rfl
  | .cons x r, s => by rw [snoc, dB, dB, dB_snoc r s]; rfl
theorem goodB_snoc : ∀ {b : Blk} {s : Stm}, goodB b → goodS s → goodB (snoc b s)
  | .nil, s, _, h => by rw [snoc, goodB, goodB]; exact ⟨h, True.intro⟩
  | .cons x r, s, g, h => by
    rw [goodB] at g
    rw [snoc, goodB]
    exact ⟨g.1, goodB_snoc g.2 h⟩
theorem nB_snoc : ∀ (b : Blk) (s : Stm), nB (snoc b s) = nB b + nS s
  | .nil, s => by rw [snoc, nB, nB, nB]; omega
  | .cons x r, s => by rw [snoc, nB, nB, nB_snoc r s]; omega
/-! ### the world of names -/
def wD (ln : Addr) (m : Nat) : List (Key × V) := [(.inr "names", .ref ln), (.inr "left", .int (m : Int))]
theorem ne_nl2 : ¬ (kx "names" = kx "left") := by decide +kernel
section
variable {ln wd : Addr} {m x : Nat} {H : Hp}
theorem gw_names (h : H wd = some (.dK (wD ln m))) : DGet H wd (.str "names") (some (.ref ln)) := by
  have z := DGet.k (k := kx "names") h
  rw [show valV (wD ln m) (kx "names") = some (.ref ln) from valV_pos rfl] at z
  exact z
theorem gw_left (h : H wd = some (.dK (wD ln m))) : DGet H wd (.str "left") (some (.int (m : Int))) := by
  have z := DGet.k (k := kx "left") h
  rw [show valV (wD ln m) (kx "left") = some (.int (m : Int)) from (valV_neg ne_nl2).trans (valV_pos rfl)] at z
  exact z
theorem uw_left (h : H wd = some (.dK (wD ln m))) : DPut H wd (.str "left") (.int (x : Int)) (L2.upd H wd (.dK (wD ln x))) := by
  refine .inl ⟨wD ln m, .inr "left", h, rfl, ?_, ?_⟩
  · show 2 < sizeLine
    exact small1000 (by decide)
  · have a := ne_nl2
    have e : putK (wD ln m) (.inr "left") (.int (x : Int)) = wD ln x := by simp [putK, wD, a]
    rw [e]
end
theorem merge_w {ln : Addr} {m : Nat} : mergeK [] (wD ln m) = wD ln m := by
  have a := ne_nl2
  simp [mergeK, putK, wD, a]
structure GenAt (H : Hp) (d l wd ln : Addr) (ns : List Str) (m : Nat) : Prop where
  dl : DealAt H d l
  wa : H wd = some (.dK (wD ln m))
  na : H ln = some (.lst (ns.map V.str))
  n0 : 0 < ns.length
  n1 : ns.length ≤ 100
  gd : ∀ x ∈ ns, nm x
  e1 : wd ≠ d
  e2 : ln ≠ l
theorem GenAt.dealt {H H' : Hp} {d l wd ln : Addr} {ns : List Str} {m : Nat} (g : GenAt H d l wd ln ns m) (D : DealAt H' d l) (k : Keep d l H H') : GenAt H' d l wd ln ns m := by
  obtain ⟨s, n, xs, z⟩ := g.dl
  have a1 : wd ≠ l := ne_of g.wa z.2.1 (by intro q; cases q)
  have a2 : ln ≠ d := ne_of g.na z.1 (by intro q; cases q)
  exact ⟨D, k _ _ g.wa g.e1 a1, k _ _ g.na a2 g.e2, g.n0, g.n1, g.gd, g.e1, g.e2⟩
theorem GenAt.same {H H' : Hp} {d l wd ln : Addr} {ns : List Str} {m : Nat} (g : GenAt H d l wd ln ns m) (s : Same H H') : GenAt H' d l wd ln ns m :=
  ⟨g.dl.same s, s _ _ g.wa, s _ _ g.na, g.n0, g.n1, g.gd, g.e1, g.e2⟩
/-- another object changes -/
theorem GenAt.upd {H : Hp} {d l wd ln p : Addr} {ns : List Str} {m : Nat} {o : HO} (g : GenAt H d l wd ln ns m) (h : p ∉ [d, l, wd, ln]) : GenAt (L2.upd H p o) d l wd ln ns m := by
  simp only [List.mem_cons, List.not_mem_nil, or_false, not_or] at h
  exact ⟨g.dl.upd h.1 h.2.1, by rw [upd_ne (Ne.symm h.2.2.1)]; exact g.wa, by rw [upd_ne (Ne.symm h.2.2.2)]; exact g.na, g.n0, g.n1, g.gd, g.e1, g.e2⟩
theorem GenAt.fresh {H : Hp} {d l wd ln p : Addr} {ns : List Str} {m : Nat} (g : GenAt H d l wd ln ns m) (h : H p = none) : p ∉ [d, l, wd, ln] := by
  simp only [List.mem_cons, List.not_mem_nil, or_false, not_or]
  exact ⟨g.dl.d_ne h, g.dl.l_ne h, (ne_of_none g.wa h).symm, (ne_of_none g.na h).symm⟩
theorem GenAt.left {H : Hp} {d l wd ln : Addr} {ns : List Str} {m x : Nat} (g : GenAt H d l wd ln ns m) : GenAt (L2.upd H wd (.dK (wD ln x))) d l wd ln ns x := by
  obtain ⟨s, n, xs, z⟩ := g.dl
  have a1 : wd ≠ l := ne_of g.wa z.2.1 (by intro q; cases q)
  have a3 : ln ≠ wd := ne_of g.na g.wa (by intro q; cases q)
  exact ⟨⟨s, n, xs, by rw [upd_ne g.e1.symm]; exact z.1, by rw [upd_ne a1.symm]; exact z.2.1, z.2.2⟩, upd_same, by rw [upd_ne a3]; exact g.na, g.n0, g.n1, g.gd, g.e1, g.e2⟩
theorem Keep.mod {d l wd : Addr} {H H' : Hp} (k : Keep d l H H') : Mod [d, l, wd] H H' := fun b o e h => by
  simp only [List.mem_cons, List.not_mem_nil, or_false, not_or] at h
  exact k b o e h.1 h.2.1
theorem GenAt.ext {H H' : Hp} {d l wd ln : Addr} {ns : List Str} {m : Nat} (g : GenAt H d l wd ln ns m) (k : Mod [d, l, wd] H H') : Ext H H' := by
  obtain ⟨s, n, xs, z⟩ := g.dl
  refine k.ext fun b hb => ?_
  simp only [List.mem_cons, List.not_mem_nil, or_false] at hb
  rcases hb with e | e | e <;> subst e
  · exact no_dk z.1
  · exact no_lst z.2.1
  · exact no_dk g.wa
theorem Keep.ext {d l : Addr} {H H' : Hp} (D : DealAt H d l) (k : Keep d l H H') : Ext H H' := fun b o e f => by
  obtain ⟨s, n, xs, z⟩ := D
  exact k b o e (fun q => no_dk z.1 o (by rw [← q]; exact e) f) (fun q => no_lst z.2.1 o (by rw [← q]; exact e) f)
/-! ### atoms -/
def At (v : V) (d : PyData) : Prop := (∃ x, v = .str x ∧ d = .str x ∧ nm x) ∨ ∃ n : Int, v = .int n ∧ d = .int n ∧ 0 ≤ n ∧ n < 1000000000
theorem At.dp {K : PySem.W.Frag} {H : Hp} {v : V} {d : PyData} (h : At v d) : Dp K H v d := by
  rcases h with ⟨x, rfl, rfl, _⟩ | ⟨n, rfl, rfl, _⟩
  · exact .str x
  · exact .int n
theorem nm_sh {x : Str} {n m : Nat} (h : nm x) (hn : 202 ≤ n) : Sh (.str x) n m := sh_str h.1 h.2 hn
theorem At.lf {v : V} {d : PyData} (h : At v d) : Lf d := by
  rcases h with ⟨x, rfl, rfl, hx⟩ | ⟨n, rfl, rfl, h0, h1⟩
  · exact ⟨rfl, nm_sh hx (Nat.le_refl _)⟩
  · exact ⟨rfl, sh_int (by omega) (by decide)⟩
theorem Lf.sh {d : PyData} {m : Nat} (h : Lf d) : Sh d 202 m := h.2.mono (Nat.le_refl _) (Nat.zero_le _)
/-! ### what is shown of a statement -/
theorem sh_ps {ps : List Str} (h : ps.length ≤ 4) (g : ∀ p ∈ ps, nm p) : Sh (.tuple (ps.map PyData.str)) 819 1 := by
  refine (sh_tup (sha_all (a := 202) (m := 0) fun d z => ?_)).mono ?_ (Nat.le_refl _)
  · obtain ⟨x, hx, rfl⟩ := List.mem_map.mp z
    exact nm_sh (g x hx) (Nat.le_refl _)
  · rw [List.length_map]
    have : ps.length * (202 + 2) ≤ 4 * (202 + 2) := Nat.mul_le_mul_right _ h
    omega
theorem sh_word {x : Str} {n m : Nat} (h : nm x) (h2 : x.length ≤ 5) (hn : 52 ≤ n) : Sh (.str x) n m := sh_str h2 h.2 hn
theorem nm_words : ∀ x ∈ (["let", "sum", "call", "set", "tell", "give", "fn", "if", "while", "times", "one", "own", "body", "other", "head"] : List Str), x.length ≤ 5 ∧ ∀ c ∈ x.cps.toList, c < 128 := by decide +kernel
theorem sh_w {x : Str} {m : Nat} (h : x ∈ (["let", "sum", "call", "set", "tell", "give", "fn", "if", "while", "times", "one", "own", "body", "other", "head"] : List Str)) : Sh (.str x) 52 m := sh_str (nm_words x h).1 (nm_words x h).2 (by decide)
theorem Sh.deep {d : PyData} {n m : Nat} (h : Sh d n m) : Sh d n d.depth := ⟨h.sw, h.nd, Nat.le_refl _, h.ln, h.cl⟩
mutual
theorem shS : ∀ s : Stm, goodS s → ∃ m, Sh (dS s) (1602 * nS s - 2) m
  | .mk w x r h, g => by
    rw [goodS] at g
    have hw : w ∈ (["let", "sum", "call", "set", "tell", "give", "fn", "if", "while", "times", "one", "own", "body", "other", "head"] : List Str) := by rcases h with e | e | e <;> (subst e; decide +kernel)
    rw [dS]
    exact ⟨_, (sh_tup (sha_cons (sh_w hw) (sha_cons (nm_sh g.1 (Nat.le_refl _)) g.2.2))).mono (by simp only [nS]; omega) (Nat.le_refl _)⟩
  | .no w r h, g => by
    rw [goodS] at g
    have hw : w ∈ (["let", "sum", "call", "set", "tell", "give", "fn", "if", "while", "times", "one", "own", "body", "other", "head"] : List Str) := by rcases h with e | e | e <;> (subst e; decide +kernel)
    rw [dS]
    exact ⟨_, (sh_tup (sha_cons (sh_w hw) g.2)).mono (by simp only [nS]; omega) (Nat.le_refl _)⟩
  | .fn x ps b, g => by
    rw [goodS] at g
    obtain ⟨m, hm⟩ := shB b g.2.2.2
    rw [dS]
    refine ⟨(m + 1) + 1 + 1, (sh_tup (m := m + 1 + 1) (sha_cons (sh_w (by decide +kernel)) (sha_cons (nm_sh g.1 (Nat.le_refl _)) (sha_cons ((sh_ps g.2.1 g.2.2.1).mono (Nat.le_refl _) (by omega)) (sha_cons ((sh_tup hm).mono (Nat.le_refl _) (by omega)) (sha_nil 0 _)))))).mono (by simp only [nS]; omega) (Nat.le_refl _)⟩
  | .ite a b1 b2, g => by
    rw [goodS] at g
    obtain ⟨m1, h1⟩ := shB b1 g.2.1
    obtain ⟨m2, h2⟩ := shB b2 g.2.2
    rw [dS]
    refine ⟨m1 + m2 + 1 + 1, (sh_tup (m := m1 + m2 + 1) (sha_cons (sh_w (by decide +kernel)) (sha_cons g.1.sh (sha_cons ((sh_tup h1).mono (Nat.le_refl _) (by omega)) (sha_cons ((sh_tup h2).mono (Nat.le_refl _) (by omega)) (sha_nil 0 _)))))).mono (by simp only [nS]; omega) (Nat.le_refl _)⟩
  | .whl a b, g => by
    rw [goodS] at g
    obtain ⟨m, hm⟩ := shB b g.2
    rw [dS]
    refine ⟨m + 1 + 1, (sh_tup (m := m + 1) (sha_cons (sh_w (by decide +kernel)) (sha_cons g.1.sh (sha_cons ((sh_tup hm).mono (Nat.le_refl _) (by omega)) (sha_nil 0 _))))).mono (by simp only [nS]; omega) (Nat.le_refl _)⟩
  | .tms one x a b, g => by
    rw [goodS] at g
    obtain ⟨m, hm⟩ := shB b g.2.2
    have hw : modeS one ∈ (["let", "sum", "call", "set", "tell", "give", "fn", "if", "while", "times", "one", "own", "body", "other", "head"] : List Str) := by cases one <;> decide +kernel
    rw [dS]
    refine ⟨m + 1 + 1, (sh_tup (m := m + 1) (sha_cons (sh_w (by decide +kernel)) (sha_cons (sh_w hw) (sha_cons (nm_sh g.1 (Nat.le_refl _)) (sha_cons g.2.1.sh (sha_cons ((sh_tup hm).mono (Nat.le_refl _) (by omega)) (sha_nil 0 _))))))).mono (by simp only [nS]; omega) (Nat.le_refl _)⟩
theorem shB : ∀ b : Blk, goodB b → ∃ m, ShA (dB b) (1602 * nB b) m
  | .nil, _ => ⟨0, sha_nil _ _⟩
  | .cons s r, g => by
    rw [goodB] at g
    obtain ⟨m1, h1⟩ := shS s g.1
    obtain ⟨m2, h2⟩ := shB r g.2
    have : 1 ≤ nS s := by cases s <;> simp only [nS] <;> omega
    rw [dB]
    refine ⟨m1 + m2, (sha_cons (h1.mono (Nat.le_refl _) (Nat.le_add_right _ _)) (h2.mono (Nat.le_refl _) (Nat.le_add_left _ _))).mono ?_ (Nat.le_refl _)⟩
    simp only [nB]
    omega
end
end Fb
set_option Elab.async false
set_option linter.all false
set_option maxRecDepth 100000
set_option maxHeartbeats 2000000
namespace Fb
open PySem PySem.Spec PyProof.Rows L2
/-! ### blocks as lists; heights -/
def stms : Blk → List Stm
  | .nil => []
  | .cons s r => s :: stms r
theorem dB_stms : ∀ b : Blk, dB b = (stms b).map dS
  | .nil => rfl
  | .cons s r => by rw [dB, stms, List.map_cons, dB_stms r]
def layL (l : List Stm) (g b : Nat) (t : Fb.TS) : Fb.TS := l.foldl (fun t s => layS s g b t) t
theorem layB_stms : ∀ (blk : Blk) (g b : Nat) (t : Fb.TS), layB blk g b t = layL (stms blk) g b t
  | .nil, _, _, _ => rfl
  | .cons s r, g, b, t => by
    rw [layB, layB_stms r]
    rfl
theorem layL_snoc (l : List Stm) (s : Stm) (g b : Nat) (t : Fb.TS) : layL (l ++ [s]) g b t = layS s g b (layL l g b t) := by
  unfold layL
  rw [List.foldl_append]
  rfl
def wL (l : List Stm) : Nat := (l.map wS).sum
theorem wL_snoc (l : List Stm) (s : Stm) : wL (l ++ [s]) = wL l + wS s := by simp [wL]
theorem wB_stms : ∀ b : Blk, wB b = wL (stms b)
  | .nil => rfl
  | .cons s r => by
    rw [wB, stms, wB_stms r]
    simp [wL]
theorem w_layL : ∀ (l : List Stm) (g b : Nat) (t : Fb.TS), (layL l g b t).n ≤ t.n + wL l
  | [], _, _, _ => Nat.le_refl _
  | s :: r, g, b, t => by
    have h1 := w_layL r g b (layS s g b t)
    have h2 := w_layS s g b t
    have e : wL (s :: r) = wS s + wL r := by simp [wL]
    rw [e]
    show (layL r g b (layS s g b t)).n ≤ _
    omega
theorem wL_take (l : List Stm) (i : Nat) : wL (l.take i) ≤ wL l := by
  have h : wL l = wL (l.take i) + wL (l.drop i) := by
    unfold wL
    rw [← List.sum_append_nat, ← List.map_append, List.take_append_drop]
  omega
theorem good_stms : ∀ {b : Blk}, goodB b → ∀ s ∈ stms b, goodS s
  | .nil, _, _, h => by cases h
  | .cons x r, g, s, h => by
    rw [goodB] at g
    rcases List.mem_cons.mp h with e | e
    · rw [e]; exact g.1
    · exact good_stms g.2 s e
mutual
def hS : Stm → Nat
  | .mk .. => 0
  | .no .. => 0
  | .fn _ _ b => 1 + hB b
  | .ite _ b1 b2 => 1 + max (hB b1) (hB b2)
  | .whl _ b => 1 + hB b
  | .tms _ _ _ b => 1 + hB b
def hB : Blk → Nat
  | .nil => 0
  | .cons s r => max (hS s) (hB r)
end
theorem hB_mem : ∀ {b : Blk} {s : Stm}, s ∈ stms b → hS s ≤ hB b
  | .nil, _, h => by cases h
  | .cons x r, s, h => by
    rw [hB]
    rcases List.mem_cons.mp h with e | e
    · rw [e]; exact Nat.le_max_left _ _
    · exact Nat.le_trans (hB_mem e) (Nat.le_max_right _ _)
mutual
theorem hS_dep : ∀ s : Stm, 2 * hS s ≤ (dS s).depth
  | .mk .. => Nat.zero_le _
  | .no .. => Nat.zero_le _
  | .fn x ps b => by
    have := hB_dep b
    simp only [hS, dS, PyData.depth, PyData.depthAll]
    omega
  | .ite c b1 b2 => by
    have := hB_dep b1
    have := hB_dep b2
    simp only [hS, dS, PyData.depth, PyData.depthAll]
    omega
  | .whl c b => by
    have := hB_dep b
    simp only [hS, dS, PyData.depth, PyData.depthAll]
    omega
  | .tms one x c b => by
    have := hB_dep b
    simp only [hS, dS, PyData.depth, PyData.depthAll]
    omega
theorem hB_dep : ∀ b : Blk, 2 * hB b ≤ PyData.depthAll (dB b)
  | .nil => Nat.zero_le _
  | .cons s r => by
    have := hS_dep s
    have := hB_dep r
    rw [dB]
    simp only [hB, PyData.depthAll]
    omega
end
/-! ### rows that stay -/
def Rw (K : PySem.W.Frag) (H : Hp) (l : Addr) (ds : List PyData) : Prop := ∃ vs, H l = some (.lst vs) ∧ DpAll K H vs ds ∧ noLs ds = true
theorem Rw.mod {K : PySem.W.Frag} {H H' : Hp} {l : Addr} {ds : List PyData} (h : Rw K H l ds) (e : Ext H H') (k : ∀ o, H l = some o → H' l = some o) : Rw K H' l ds := by
  obtain ⟨vs, h1, h2, h3⟩ := h
  exact ⟨vs, k _ h1, dps_ext e _ _ h2 h3, h3⟩
/-! ### the dict of lists -/
def fD (ls la lb lg lm : Addr) : List (Key × V) := [(.inr "statements", .ref ls), (.inr "at", .ref la), (.inr "bodies", .ref lb), (.inr "grounds", .ref lg), (.inr "makings", .ref lm)]
theorem fk01 : ¬ (kx "statements" = kx "at") := by decide +kernel
theorem fk02 : ¬ (kx "statements" = kx "bodies") := by decide +kernel
theorem fk03 : ¬ (kx "statements" = kx "grounds") := by decide +kernel
theorem fk04 : ¬ (kx "statements" = kx "makings") := by decide +kernel
theorem fk12 : ¬ (kx "at" = kx "bodies") := by decide +kernel
theorem fk13 : ¬ (kx "at" = kx "grounds") := by decide +kernel
theorem fk14 : ¬ (kx "at" = kx "makings") := by decide +kernel
theorem fk23 : ¬ (kx "bodies" = kx "grounds") := by decide +kernel
theorem fk24 : ¬ (kx "bodies" = kx "makings") := by decide +kernel
theorem fk34 : ¬ (kx "grounds" = kx "makings") := by decide +kernel
theorem gf_st {H : Hp} {fd ls la lb lg lm : Addr} (h : H fd = some (.dK (fD ls la lb lg lm))) : DGet H fd (.str "statements") (some (.ref ls)) := by
  have z := DGet.k (k := kx "statements") h
  rw [show valV (fD ls la lb lg lm) (kx "statements") = some (.ref ls) from valV_pos rfl] at z
  exact z
theorem gf_at_ {H : Hp} {fd ls la lb lg lm : Addr} (h : H fd = some (.dK (fD ls la lb lg lm))) : DGet H fd (.str "at") (some (.ref la)) := by
  have z := DGet.k (k := kx "at") h
  rw [show valV (fD ls la lb lg lm) (kx "at") = some (.ref la) from (valV_neg fk01).trans (valV_pos rfl)] at z
  exact z
theorem gf_bd {H : Hp} {fd ls la lb lg lm : Addr} (h : H fd = some (.dK (fD ls la lb lg lm))) : DGet H fd (.str "bodies") (some (.ref lb)) := by
  have z := DGet.k (k := kx "bodies") h
  rw [show valV (fD ls la lb lg lm) (kx "bodies") = some (.ref lb) from (valV_neg fk02).trans ((valV_neg fk12).trans (valV_pos rfl))] at z
  exact z
theorem gf_gr {H : Hp} {fd ls la lb lg lm : Addr} (h : H fd = some (.dK (fD ls la lb lg lm))) : DGet H fd (.str "grounds") (some (.ref lg)) := by
  have z := DGet.k (k := kx "grounds") h
  rw [show valV (fD ls la lb lg lm) (kx "grounds") = some (.ref lg) from (valV_neg fk03).trans ((valV_neg fk13).trans ((valV_neg fk23).trans (valV_pos rfl)))] at z
  exact z
theorem gf_mm {H : Hp} {fd ls la lb lg lm : Addr} (h : H fd = some (.dK (fD ls la lb lg lm))) : DGet H fd (.str "makings") (some (.ref lm)) := by
  have z := DGet.k (k := kx "makings") h
  rw [show valV (fD ls la lb lg lm) (kx "makings") = some (.ref lm) from (valV_neg fk04).trans ((valV_neg fk14).trans ((valV_neg fk24).trans ((valV_neg fk34).trans (valV_pos rfl))))] at z
  exact z
theorem merge_f {ls la lb lg lm : Addr} : mergeK [] (fD ls la lb lg lm) = fD ls la lb lg lm := by
  have a01 := fk01
  have a02 := fk02
  have a03 := fk03
  have a04 := fk04
  have a12 := fk12
  have a13 := fk13
  have a14 := fk14
  have a23 := fk23
  have a24 := fk24
  have a34 := fk34
  simp [mergeK, putK, fD, a01, a02, a03, a04, a12, a13, a14, a23, a24, a34]
structure FoundAt (K : PySem.W.Frag) (H : Hp) (fd ls la lb lg lm : Addr) (t : Fb.TS) : Prop where
  di : H fd = some (.dK (fD ls la lb lg lm))
  st : Rw K H ls (t.pl.map (·.1))
  at_ : Rw K H la (t.pl.map fun e => nD e.2.2)
  bd : Rw K H lb (t.bd)
  gr : Rw K H lg (t.gr)
  mm : Rw K H lm (t.mm)
  nd : [ls, la, lb, lg, lm].Nodup
section
variable {K : PySem.W.Frag} {H H' : Hp} {fd ls la lb lg lm : Addr} {t : Fb.TS}
theorem FoundAt.nes (h : FoundAt K H fd ls la lb lg lm t) : (ls ≠ la ∧ ls ≠ lb ∧ ls ≠ lg ∧ ls ≠ lm) ∧ (la ≠ lb ∧ la ≠ lg ∧ la ≠ lm) ∧ (lb ≠ lg ∧ lb ≠ lm) ∧ lg ≠ lm := by
  have z := h.nd
  simp only [List.nodup_cons, List.mem_cons, List.not_mem_nil, or_false, not_or, List.nodup_nil, and_true, not_false_eq_true] at z
  exact z
theorem FoundAt.same (h : FoundAt K H fd ls la lb lg lm t) (s : Same H H') : FoundAt K H' fd ls la lb lg lm t :=
  ⟨s _ _ h.di, h.st.mod (Same.ext s) (fun o => s _ o), h.at_.mod (Same.ext s) (fun o => s _ o), h.bd.mod (Same.ext s) (fun o => s _ o), h.gr.mod (Same.ext s) (fun o => s _ o), h.mm.mod (Same.ext s) (fun o => s _ o), h.nd⟩
theorem FoundAt.ext5 (h : FoundAt K H fd ls la lb lg lm t) (m : Mod [ls, la, lb, lg, lm] H H') : Ext H H' := by
  obtain ⟨v0, h0, _⟩ := h.st
  obtain ⟨v1, h1, _⟩ := h.at_
  obtain ⟨v2, h2, _⟩ := h.bd
  obtain ⟨v3, h3, _⟩ := h.gr
  obtain ⟨v4, h4, _⟩ := h.mm
  refine m.ext fun b hb => ?_
  simp only [List.mem_cons, List.not_mem_nil, or_false] at hb
  rcases hb with e | e | e | e | e <;> subst e
  · exact no_lst h0
  · exact no_lst h1
  · exact no_lst h2
  · exact no_lst h3
  · exact no_lst h4
theorem FoundAt.up_st (h : FoundAt K H fd ls la lb lg lm t) (m : Mod [ls] H H') {ds : List PyData} (r : Rw K H' ls ds) : H' fd = some (.dK (fD ls la lb lg lm)) ∧ Rw K H' ls ds ∧ Rw K H' la (t.pl.map fun e => nD e.2.2) ∧ Rw K H' lb (t.bd) ∧ Rw K H' lg (t.gr) ∧ Rw K H' lm (t.mm) := by
  obtain ⟨⟨n01, n02, n03, n04⟩, ⟨n12, n13, n14⟩, ⟨n23, n24⟩, n34⟩ := h.nes
  obtain ⟨v, hv, _⟩ := h.st
  have e : Ext H H' := m.ext fun b hb => by rw [List.mem_singleton.mp hb]; exact no_lst hv
  have k : ∀ {x : Addr}, x ≠ ls → ∀ o, H x = some o → H' x = some o := fun hx o q => m _ o q (by simpa using hx)
  have nf : fd ≠ ls := ne_of h.di hv (by intro z; cases z)
  exact ⟨k nf _ h.di, r, h.at_.mod e (k n01.symm), h.bd.mod e (k n02.symm), h.gr.mod e (k n03.symm), h.mm.mod e (k n04.symm)⟩
theorem FoundAt.up_at_ (h : FoundAt K H fd ls la lb lg lm t) (m : Mod [la] H H') {ds : List PyData} (r : Rw K H' la ds) : H' fd = some (.dK (fD ls la lb lg lm)) ∧ Rw K H' ls (t.pl.map (·.1)) ∧ Rw K H' la ds ∧ Rw K H' lb (t.bd) ∧ Rw K H' lg (t.gr) ∧ Rw K H' lm (t.mm) := by
  obtain ⟨⟨n01, n02, n03, n04⟩, ⟨n12, n13, n14⟩, ⟨n23, n24⟩, n34⟩ := h.nes
  obtain ⟨v, hv, _⟩ := h.at_
  have e : Ext H H' := m.ext fun b hb => by rw [List.mem_singleton.mp hb]; exact no_lst hv
  have k : ∀ {x : Addr}, x ≠ la → ∀ o, H x = some o → H' x = some o := fun hx o q => m _ o q (by simpa using hx)
  have nf : fd ≠ la := ne_of h.di hv (by intro z; cases z)
  exact ⟨k nf _ h.di, h.st.mod e (k n01), r, h.bd.mod e (k n12.symm), h.gr.mod e (k n13.symm), h.mm.mod e (k n14.symm)⟩
theorem FoundAt.up_bd (h : FoundAt K H fd ls la lb lg lm t) (m : Mod [lb] H H') {ds : List PyData} (r : Rw K H' lb ds) : H' fd = some (.dK (fD ls la lb lg lm)) ∧ Rw K H' ls (t.pl.map (·.1)) ∧ Rw K H' la (t.pl.map fun e => nD e.2.2) ∧ Rw K H' lb ds ∧ Rw K H' lg (t.gr) ∧ Rw K H' lm (t.mm) := by
  obtain ⟨⟨n01, n02, n03, n04⟩, ⟨n12, n13, n14⟩, ⟨n23, n24⟩, n34⟩ := h.nes
  obtain ⟨v, hv, _⟩ := h.bd
  have e : Ext H H' := m.ext fun b hb => by rw [List.mem_singleton.mp hb]; exact no_lst hv
  have k : ∀ {x : Addr}, x ≠ lb → ∀ o, H x = some o → H' x = some o := fun hx o q => m _ o q (by simpa using hx)
  have nf : fd ≠ lb := ne_of h.di hv (by intro z; cases z)
  exact ⟨k nf _ h.di, h.st.mod e (k n02), h.at_.mod e (k n12), r, h.gr.mod e (k n23.symm), h.mm.mod e (k n24.symm)⟩
theorem FoundAt.up_gr (h : FoundAt K H fd ls la lb lg lm t) (m : Mod [lg] H H') {ds : List PyData} (r : Rw K H' lg ds) : H' fd = some (.dK (fD ls la lb lg lm)) ∧ Rw K H' ls (t.pl.map (·.1)) ∧ Rw K H' la (t.pl.map fun e => nD e.2.2) ∧ Rw K H' lb (t.bd) ∧ Rw K H' lg ds ∧ Rw K H' lm (t.mm) := by
  obtain ⟨⟨n01, n02, n03, n04⟩, ⟨n12, n13, n14⟩, ⟨n23, n24⟩, n34⟩ := h.nes
  obtain ⟨v, hv, _⟩ := h.gr
  have e : Ext H H' := m.ext fun b hb => by rw [List.mem_singleton.mp hb]; exact no_lst hv
  have k : ∀ {x : Addr}, x ≠ lg → ∀ o, H x = some o → H' x = some o := fun hx o q => m _ o q (by simpa using hx)
  have nf : fd ≠ lg := ne_of h.di hv (by intro z; cases z)
  exact ⟨k nf _ h.di, h.st.mod e (k n03), h.at_.mod e (k n13), h.bd.mod e (k n23), r, h.mm.mod e (k n34.symm)⟩
theorem FoundAt.up_mm (h : FoundAt K H fd ls la lb lg lm t) (m : Mod [lm] H H') {ds : List PyData} (r : Rw K H' lm ds) : H' fd = some (.dK (fD ls la lb lg lm)) ∧ Rw K H' ls (t.pl.map (·.1)) ∧ Rw K H' la (t.pl.map fun e => nD e.2.2) ∧ Rw K H' lb (t.bd) ∧ Rw K H' lg (t.gr) ∧ Rw K H' lm ds := by
  obtain ⟨⟨n01, n02, n03, n04⟩, ⟨n12, n13, n14⟩, ⟨n23, n24⟩, n34⟩ := h.nes
  obtain ⟨v, hv, _⟩ := h.mm
  have e : Ext H H' := m.ext fun b hb => by rw [List.mem_singleton.mp hb]; exact no_lst hv
  have k : ∀ {x : Addr}, x ≠ lm → ∀ o, H x = some o → H' x = some o := fun hx o q => m _ o q (by simpa using hx)
  have nf : fd ≠ lm := ne_of h.di hv (by intro z; cases z)
  exact ⟨k nf _ h.di, h.st.mod e (k n04), h.at_.mod e (k n14), h.bd.mod e (k n24), h.gr.mod e (k n34), r⟩
end
/-- a new tuple, and a list that gets it -/
theorem rw_push {K : PySem.W.Frag} {H : Hp} {l p : Addr} {vs xs : List V} {ds : List PyData} {d : PyData} (h1 : H l = some (.lst vs)) (h2 : DpAll K H vs ds) (h3 : noLs ds = true) (np : H p = none) (nd : noL d = true)
    (hd : Dp K (L2.upd (L2.upd H p (.tup xs)) l (.lst (vs ++ [.ref p]))) (.ref p) d) : Rw K (L2.upd (L2.upd H p (.tup xs)) l (.lst (vs ++ [.ref p]))) l (ds ++ [d]) := by
  have ne : l ≠ p := ne_of_none h1 np
  have e1 : Ext H (L2.upd H p (.tup xs)) := Same.ext (same_new np)
  have hl : (L2.upd H p (.tup xs)) l = some (.lst vs) := same_new np _ _ h1
  have e2 : Ext (L2.upd H p (.tup xs)) (L2.upd (L2.upd H p (.tup xs)) l (.lst (vs ++ [.ref p]))) := fun b x e f => by
    rw [upd_ne (show b ≠ l from fun z => no_lst hl x (by rw [← z]; exact e) f)]
    exact e
  refine ⟨_, upd_same, dps_snoc (dps_ext (e1.trans e2) _ _ h2 h3) hd, ?_⟩
  have z : ∀ (a : List PyData), noLs a = true → noLs (a ++ [d]) = true := fun a => by
    induction a with
    | nil => intro _; rw [List.nil_append, noLs, nd]; rfl
    | cons x r ih =>
      intro q
      rw [noLs, Bool.and_eq_true] at q
      rw [List.cons_append, noLs, q.1, ih q.2]
      rfl
  exact z ds h3
end Fb
set_option Elab.async false
set_option linter.all false
set_option maxRecDepth 100000
set_option maxHeartbeats 2000000
namespace Fb
open PySem PySem.Spec PyProof.Rows L2
theorem noattr {K : PySem.W.Frag} {C : Addr} {f : Str} (h : PySem.W.findIn K (.ref C) f = some none) : NoAttr K C f := h
theorem kit_self {K : PySem.W.Frag} {C : Addr} : PySem.W.kitOne K (.ref C) (.ref C) = some true := by
  unfold PySem.W.kitOne
  rw [if_pos (by simp)]
theorem kit_no {K : PySem.W.Frag} {a b : Addr} {r : Bool} (ne : (Value.ref a == Value.ref b) = false) (h1 : PySem.W.isClsIn K b = true) (h2 : PySem.W.typeIn K (.ref b) = some (.type "type")) (h3 : PySem.W.subIn K (.ref a) (.ref b) = some r) : PySem.W.kitOne K (.ref a) (.ref b) = some r := by
  unfold PySem.W.kitOne
  rw [if_neg (by rw [ne]; exact Bool.false_ne_true)]
  unfold PySem.W.kitCls
  have h1' : (PySem.W.clsIn K b).isSome = true := h1
  simp only [h1', h2, Bool.true_and]
  rw [if_pos (by simp), h3]
def RowsOk (t : Fb.TS) : Prop := (∀ d ∈ t.gr, Sh d 900 2) ∧ (∀ d ∈ t.mm, Sh d 900 2) ∧ ∀ d ∈ t.bd, Sh d 900 2
theorem sh_nD {n m k : Nat} (h : n ≤ 1000000) (hk : 13 ≤ k) : Sh (nD n) k m := sh_int (by omega) hk
theorem sh_rowG {s : Str} {k a : PyData} (hs : s ∈ (["let", "sum", "call", "set", "tell", "give", "fn", "if", "while", "times", "one", "own", "body", "other", "head"] : List Str)) (hk : Sh k 13 1) (ha : Sh a 13 1) : Sh (rowG s k a) 900 2 :=
  (sh_tup (sha_cons (sh_w hs) (sha_cons hk (sha_cons ha (sha_nil 0 1))))).mono (by decide) (by decide)
theorem sh_rowM {x : Str} {k g : Nat} (hx : nm x) (hk : k ≤ 1000000) (hg : g ≤ 1000000) : Sh (rowM x k g) 900 2 :=
  (sh_tup (m := 1) (sha_cons (nm_sh (n := 202) hx (Nat.le_refl _)) (sha_cons (sh_nD (k := 13) hk (Nat.le_refl _)) (sha_cons (sh_nD (k := 13) hg (Nat.le_refl _)) (sha_nil 0 1))))).mono (by decide) (by decide)
theorem sh_rowB {k : PyData} {ps : List Str} (hk : Sh k 13 1) (h : ps.length ≤ 4) (g : ∀ p ∈ ps, nm p) : Sh (rowB k ps) 900 2 :=
  (sh_tup (m := 1) (sha_cons hk (sha_cons (sh_ps h g) (sha_nil 0 1)))).mono (by decide) (by decide)
theorem all_snoc {ds : List PyData} {d : PyData} (h : ∀ e ∈ ds, Sh e 900 2) (hd : Sh d 900 2) : ∀ e ∈ ds ++ [d], Sh e 900 2 := fun e z => by
  rcases List.mem_append.mp z with q | q
  · exact h e q
  · rw [List.mem_singleton.mp q]; exact hd
theorem all_app {a b : List PyData} (h : ∀ e ∈ a, Sh e 900 2) (k : ∀ e ∈ b, Sh e 900 2) : ∀ e ∈ a ++ b, Sh e 900 2 := fun e z => by
  rcases List.mem_append.mp z with q | q
  · exact h e q
  · exact k e q
mutual
theorem rowsS : ∀ (s : Stm) (g b : Nat) (t : Fb.TS), goodS s → g ≤ 100000 → t.n + wS s ≤ 100000 → RowsOk t → RowsOk (layS s g b t)
  | .mk w x r h, g, b, t, gs, hg, hn, hr => by
    rw [goodS] at gs
    rw [layS]
    simp only [TS.n] at hn
    exact ⟨hr.1, all_snoc hr.2.1 (sh_rowM gs.1 (by omega) (by omega)), hr.2.2⟩
  | .no w r h, g, b, t, gs, hg, hn, hr => by
    rw [layS]
    exact hr
  | .fn x ps blk, g, b, t, gs, hg, hn, hr => by
    rw [goodS] at gs
    rw [layS]
    simp only [TS.n, wS] at hn
    refine rowsB blk _ _ _ gs.2.2.2 (by omega) (by simp only [TS.n, List.length_append, List.length_cons, List.length_nil, List.length_map]; omega) ⟨all_snoc hr.1 (sh_rowG (by decide +kernel) (sh_nD (by omega) (Nat.le_refl _)) (sh_nD (by omega) (Nat.le_refl _))), ?_, all_snoc hr.2.2 (sh_rowB (sh_nD (by omega) (Nat.le_refl _)) gs.2.1 gs.2.2.1)⟩
    refine all_app hr.2.1 fun e z => ?_
    rcases List.mem_cons.mp z with q | q
    · rw [q]; exact sh_rowM gs.1 (by omega) (by omega)
    · obtain ⟨y, hy, rfl⟩ := List.mem_map.mp q
      exact sh_rowM (gs.2.2.1 y hy) (by omega) (by omega)
  | .ite c b1 b2, g, b, t, gs, hg, hn, hr => by
    rw [goodS] at gs
    rw [layS]
    simp only [TS.n, wS] at hn
    have w1 := w_layB b1 t.gr.length b { t with pl := t.pl ++ [(dS (.ite c b1 b2), g, b)], gr := t.gr ++ [rowG "one" (nD t.pl.length) (nD g)] }
    have r1 := rowsB b1 t.gr.length b { t with pl := t.pl ++ [(dS (.ite c b1 b2), g, b)], gr := t.gr ++ [rowG "one" (nD t.pl.length) (nD g)] } gs.2.1 (by omega) (by simp only [TS.n, List.length_append, List.length_cons, List.length_nil]; omega) ⟨all_snoc hr.1 (sh_rowG (by decide +kernel) (sh_nD (by omega) (Nat.le_refl _)) (sh_nD (by omega) (Nat.le_refl _))), hr.2.1, hr.2.2⟩
    simp only [TS.n, List.length_append, List.length_cons, List.length_nil] at w1
    refine rowsB b2 _ _ _ gs.2.2 ?_ ?_ ⟨all_snoc r1.1 (sh_rowG (by decide +kernel) (sh_nD (by omega) (Nat.le_refl _)) (sh_nD (by omega) (Nat.le_refl _))), r1.2.1, r1.2.2⟩
    · omega
    · simp only [TS.n, List.length_append, List.length_cons, List.length_nil]
      omega
  | .whl c blk, g, b, t, gs, hg, hn, hr => by
    rw [goodS] at gs
    rw [layS]
    simp only [TS.n, wS] at hn
    exact rowsB blk _ _ _ gs.2 (by omega) (by simp only [TS.n, List.length_append, List.length_cons, List.length_nil]; omega) ⟨all_snoc hr.1 (sh_rowG (by decide +kernel) (sh_nD (by omega) (Nat.le_refl _)) (sh_nD (by omega) (Nat.le_refl _))), hr.2.1, hr.2.2⟩
  | .tms true x c blk, g, b, t, gs, hg, hn, hr => by
    rw [goodS] at gs
    rw [layS]
    simp only [TS.n, wS] at hn
    exact rowsB blk _ _ _ gs.2.2 (by omega) (by simp only [TS.n, List.length_append, List.length_cons, List.length_nil]; omega) ⟨all_snoc (all_snoc hr.1 (sh_rowG (by decide +kernel) (sh_nD (by omega) (Nat.le_refl _)) (sh_nD (by omega) (Nat.le_refl _)))) (sh_rowG (by decide +kernel) (sh_nD (by omega) (Nat.le_refl _)) (sh_nD (by omega) (Nat.le_refl _))), all_snoc hr.2.1 (sh_rowM gs.1 (by omega) (by omega)), hr.2.2⟩
  | .tms false x c blk, g, b, t, gs, hg, hn, hr => by
    rw [goodS] at gs
    rw [layS]
    simp only [TS.n, wS] at hn
    exact rowsB blk _ _ _ gs.2.2 (by omega) (by simp only [TS.n, List.length_append, List.length_cons, List.length_nil]; omega) ⟨all_snoc hr.1 (sh_rowG (by decide +kernel) (sh_nD (by omega) (Nat.le_refl _)) (sh_nD (by omega) (Nat.le_refl _))), all_snoc hr.2.1 (sh_rowM gs.1 (by omega) (by omega)), hr.2.2⟩
theorem rowsB : ∀ (blk : Blk) (g b : Nat) (t : Fb.TS), goodB blk → g ≤ 100000 → t.n + wB blk ≤ 100000 → RowsOk t → RowsOk (layB blk g b t)
  | .nil, g, b, t, _, _, _, hr => hr
  | .cons s r, g, b, t, gb, hg, hn, hr => by
    rw [goodB] at gb
    rw [layB]
    simp only [wB] at hn
    have w1 := w_layS s g b t
    exact rowsB r g b _ gb.2 hg (by omega) (rowsS s g b t gb.1 hg (by omega) hr)
end
/-- a list of good rows is shown -/
theorem sh_rows {ds : List PyData} (h : ∀ d ∈ ds, Sh d 900 2) (n : ds.length ≤ 1000) : Sh (.list ds) 1000000 3 := by
  refine (sh_lst (sha_all h)).mono ?_ (Nat.le_refl _)
  have : ds.length * (900 + 2) ≤ 1000 * (900 + 2) := Nat.mul_le_mul_right _ n
  omega
end Fb
set_option Elab.async false
set_option linter.all false
set_option maxRecDepth 100000
set_option maxHeartbeats 2000000
namespace Fb
open PySem PySem.Spec PyProof.Rows L2
/-! ### the statements in reading order: how many, how they are shown -/
mutual
theorem lenS : ∀ (s : Stm) (g b : Nat) (t : Fb.TS), (layS s g b t).pl.length = t.pl.length + nS s
  | .mk w x r h, g, b, t => by simp [layS, nS]
  | .no w r h, g, b, t => by simp [layS, nS]
  | .fn x ps blk, g, b, t => by
    rw [layS, lenB blk]
    simp only [nS, List.length_append, List.length_cons, List.length_nil]
    omega
  | .ite c b1 b2, g, b, t => by
    rw [layS, lenB b2, lenB b1]
    simp only [nS, List.length_append, List.length_cons, List.length_nil]
    omega
  | .whl c blk, g, b, t => by
    rw [layS, lenB blk]
    simp only [nS, List.length_append, List.length_cons, List.length_nil]
    omega
  | .tms true x c blk, g, b, t => by
    rw [layS, lenB blk]
    simp only [nS, List.length_append, List.length_cons, List.length_nil]
    omega
  | .tms false x c blk, g, b, t => by
    rw [layS, lenB blk]
    simp only [nS, List.length_append, List.length_cons, List.length_nil]
    omega
theorem lenB : ∀ (blk : Blk) (g b : Nat) (t : Fb.TS), (layB blk g b t).pl.length = t.pl.length + nB blk
  | .nil, g, b, t => rfl
  | .cons s r, g, b, t => by
    rw [layB, lenB r, lenS s]
    simp only [nB]
    omega
end
def PlOk (t : Fb.TS) : Prop := ∀ e ∈ t.pl, Sh e.1 96118 40 ∧ e.2.2 ≤ 100000
theorem pl_snoc {l : List (PyData × Nat × Nat)} {d : PyData} {g b : Nat} (h : ∀ e ∈ l, Sh e.1 96118 40 ∧ e.2.2 ≤ 100000) (hd : Sh d 96118 40) (hb : b ≤ 100000) : ∀ e ∈ l ++ [(d, g, b)], Sh e.1 96118 40 ∧ e.2.2 ≤ 100000 := fun e z => by
  rcases List.mem_append.mp z with q | q
  · exact h e q
  · rw [List.mem_singleton.mp q]; exact ⟨hd, hb⟩
theorem sh_stm {s : Stm} (g : goodS s) (n : nS s ≤ 60) (d : (dS s).depth ≤ 40) : Sh (dS s) 96118 40 := by
  obtain ⟨m, h⟩ := shS s g
  exact h.deep.mono (by omega) d
mutual
theorem plS : ∀ (s : Stm) (g b : Nat) (t : Fb.TS), goodS s → nS s ≤ 60 → (dS s).depth ≤ 40 → b ≤ 100000 → t.n + wS s ≤ 100000 → PlOk t → PlOk (layS s g b t)
  | .mk w x r h, g, b, t, gs, hn, hd, hb, hw, hp => by
    rw [layS]
    exact pl_snoc hp (sh_stm gs hn hd) hb
  | .no w r h, g, b, t, gs, hn, hd, hb, hw, hp => by
    rw [layS]
    exact pl_snoc hp (sh_stm gs hn hd) hb
  | .fn x ps blk, g, b, t, gs, hn, hd, hb, hw, hp => by
    have s0 := sh_stm gs hn hd
    rw [goodS] at gs
    rw [layS]
    simp only [nS] at hn
    simp only [dS, PyData.depth, PyData.depthAll] at hd
    simp only [TS.n, wS] at hw
    exact plB blk _ _ _ gs.2.2.2 (by omega) (by omega) (by omega) (by simp only [TS.n, List.length_append, List.length_cons, List.length_nil, List.length_map]; omega) (pl_snoc hp s0 hb)
  | .ite c b1 b2, g, b, t, gs, hn, hd, hb, hw, hp => by
    have s0 := sh_stm gs hn hd
    rw [goodS] at gs
    rw [layS]
    simp only [nS] at hn
    simp only [dS, PyData.depth, PyData.depthAll] at hd
    simp only [TS.n, wS] at hw
    have w1 := w_layB b1 t.gr.length b { t with pl := t.pl ++ [(dS (.ite c b1 b2), g, b)], gr := t.gr ++ [rowG "one" (nD t.pl.length) (nD g)] }
    simp only [TS.n, List.length_append, List.length_cons, List.length_nil] at w1
    refine plB b2 _ _ _ gs.2.2 (by omega) (by omega) hb ?_ (plB b1 _ _ _ gs.2.1 (by omega) (by omega) hb (by simp only [TS.n, List.length_append, List.length_cons, List.length_nil]; omega) (pl_snoc hp s0 hb))
    simp only [TS.n, List.length_append, List.length_cons, List.length_nil]
    omega
  | .whl c blk, g, b, t, gs, hn, hd, hb, hw, hp => by
    have s0 := sh_stm gs hn hd
    rw [goodS] at gs
    rw [layS]
    simp only [nS] at hn
    simp only [dS, PyData.depth, PyData.depthAll] at hd
    simp only [TS.n, wS] at hw
    exact plB blk _ _ _ gs.2 (by omega) (by omega) hb (by simp only [TS.n, List.length_append, List.length_cons, List.length_nil]; omega) (pl_snoc hp s0 hb)
  | .tms true x c blk, g, b, t, gs, hn, hd, hb, hw, hp => by
    have s0 := sh_stm gs hn hd
    rw [goodS] at gs
    rw [layS]
    simp only [nS] at hn
    simp only [dS, PyData.depth, PyData.depthAll] at hd
    simp only [TS.n, wS] at hw
    exact plB blk _ _ _ gs.2.2 (by omega) (by omega) hb (by simp only [TS.n, List.length_append, List.length_cons, List.length_nil]; omega) (pl_snoc hp s0 hb)
  | .tms false x c blk, g, b, t, gs, hn, hd, hb, hw, hp => by
    have s0 := sh_stm gs hn hd
    rw [goodS] at gs
    rw [layS]
    simp only [nS] at hn
    simp only [dS, PyData.depth, PyData.depthAll] at hd
    simp only [TS.n, wS] at hw
    exact plB blk _ _ _ gs.2.2 (by omega) (by omega) hb (by simp only [TS.n, List.length_append, List.length_cons, List.length_nil]; omega) (pl_snoc hp s0 hb)
theorem plB : ∀ (blk : Blk) (g b : Nat) (t : Fb.TS), goodB blk → nB blk ≤ 60 → PyData.depthAll (dB blk) ≤ 40 → b ≤ 100000 → t.n + wB blk ≤ 100000 → PlOk t → PlOk (layB blk g b t)
  | .nil, g, b, t, _, _, _, _, _, hp => hp
  | .cons s r, g, b, t, gb, hn, hd, hb, hw, hp => by
    rw [goodB] at gb
    rw [layB]
    simp only [wB] at hw
    simp only [nB] at hn
    simp only [dB, PyData.depthAll] at hd
    have w1 := w_layS s g b t
    exact plB r g b _ gb.2 (by omega) (by omega) hb (by omega) (plS s g b t gb.1 (by omega) (by omega) hb (by omega) hp)
end
theorem sh_nums {l : List (PyData × Nat × Nat)} (h : ∀ e ∈ l, Sh e.1 96118 40 ∧ e.2.2 ≤ 100000) (n : l.length ≤ 60) : Sh (.list (l.map fun e => nD e.2.2)) 1000 1 := by
  refine (sh_lst (sha_all (a := 13) (m := 0) fun d z => ?_)).mono ?_ (Nat.le_refl _)
  · obtain ⟨e, he, rfl⟩ := List.mem_map.mp z
    exact sh_nD (by have := (h e he).2; omega) (Nat.le_refl _)
  · rw [List.length_map]
    have : l.length * (13 + 2) ≤ 60 * (13 + 2) := Nat.mul_le_mul_right _ n
    omega
theorem sh_stms {l : List (PyData × Nat × Nat)} (h : ∀ e ∈ l, Sh e.1 96118 40 ∧ e.2.2 ≤ 100000) (n : l.length ≤ 60) : Sh (.list (l.map (·.1))) 6000000 41 := by
  have h1 : ∀ d ∈ l.map (·.1), Sh d 96118 40 := fun d z => by
    obtain ⟨e, he, rfl⟩ := List.mem_map.mp z
    exact (h e he).1
  have h2 := sha_all h1
  have h3 := sh_lst h2
  have n2 : (l.map (·.1)).length ≤ 60 := by rw [List.length_map]; exact n
  generalize (l.map (·.1)).length = k at h3 n2
  have h4 : k * (96118 + 2) + 3 ≤ 6000000 := by omega
  exact h3.mono h4 (by omega)
end Fb
set_option Elab.async false
set_option linter.all false
set_option maxRecDepth 100000
set_option maxHeartbeats 2000000
namespace Fb
open PySem
/-! ### a statement put in at a place -/
mutual
def putS (m : Stm) : Stm → Int → Stm × Int
  | .mk w x r h, n => (.mk w x r h, n)
  | .no w r h, n => (.no w r h, n)
  | .fn x ps b, n => (.fn x ps (putB m b n).1, (putB m b n).2)
  | .ite a b1 b2, n => (.ite a (putB m b1 n).1 (putB m b2 (putB m b1 n).2).1, (putB m b2 (putB m b1 n).2).2)
  | .whl a b, n => (.whl a (putB m b n).1, (putB m b n).2)
  | .tms one x a b, n => (.tms one x a (putB m b n).1, (putB m b n).2)
def putB (m : Stm) : Blk → Int → Blk × Int
  | .nil, n => (if n = 0 then .cons m .nil else .nil, n - 1)
  | .cons s r, n => (if n = 0 then .cons m (.cons (putS m s (n - 1)).1 (putB m r (putS m s (n - 1)).2).1) else .cons (putS m s (n - 1)).1 (putB m r (putS m s (n - 1)).2).1, (putB m r (putS m s (n - 1)).2).2)
end
mutual
def cpS : Stm → Nat
  | .mk .. => 0
  | .no .. => 0
  | .fn _ _ b => cpB b
  | .ite _ b1 b2 => cpB b1 + cpB b2
  | .whl _ b => cpB b
  | .tms _ _ _ b => cpB b
def cpB : Blk → Nat
  | .nil => 1
  | .cons s r => 1 + cpS s + cpB r
end
variable {m : Stm}
mutual
theorem putS_2 : ∀ (s : Stm) (n : Int), (putS m s n).2 = n - cpS s
  | .mk .., n => by simp only [putS, cpS]; omega
  | .no .., n => by simp only [putS, cpS]; omega
  | .fn x ps b, n => by simp only [putS, cpS, putB_2 b]
  | .ite a b1 b2, n => by simp only [putS, cpS, putB_2 b1, putB_2 b2]; omega
  | .whl a b, n => by simp only [putS, cpS, putB_2 b]
  | .tms one x a b, n => by simp only [putS, cpS, putB_2 b]
theorem putB_2 : ∀ (b : Blk) (n : Int), (putB m b n).2 = n - cpB b
  | .nil, n => by simp only [putB, cpB]; omega
  | .cons s r, n => by simp only [putB, cpB, putB_2 r, putS_2 s]; omega
end
mutual
theorem putS_neg : ∀ (s : Stm) (n : Int), n < 0 → (putS m s n).1 = s
  | .mk .., n, h => rfl
  | .no .., n, h => rfl
  | .fn x ps b, n, h => by simp only [putS, putB_neg b n h]
  | .ite a b1 b2, n, h => by simp only [putS, putB_neg b1 n h, putB_2 b1, putB_neg b2 (n - cpB b1) (by omega)]
  | .whl a b, n, h => by simp only [putS, putB_neg b n h]
  | .tms one x a b, n, h => by simp only [putS, putB_neg b n h]
theorem putB_neg : ∀ (b : Blk) (n : Int), n < 0 → (putB m b n).1 = b
  | .nil, n, h => by simp only [putB]; rw [if_neg (by omega)]
  | .cons s r, n, h => by
    simp only [putB]
    rw [if_neg (by omega), putS_neg s (n - 1) (by omega), putS_2, putB_neg r _ (by omega)]
end
mutual
theorem putS_far : ∀ (s : Stm) (n : Int), (cpS s : Int) ≤ n → (putS m s n).1 = s
  | .mk .., n, h => rfl
  | .no .., n, h => rfl
  | .fn x ps b, n, h => by simp only [cpS] at h; simp only [putS, putB_far b n h]
  | .ite a b1 b2, n, h => by simp only [cpS] at h; simp only [putS, putB_far b1 n (by omega), putB_2 b1, putB_far b2 (n - cpB b1) (by omega)]
  | .whl a b, n, h => by simp only [cpS] at h; simp only [putS, putB_far b n h]
  | .tms one x a b, n, h => by simp only [cpS] at h; simp only [putS, putB_far b n h]
theorem putB_far : ∀ (b : Blk) (n : Int), (cpB b : Int) ≤ n → (putB m b n).1 = b
  | .nil, n, h => by simp only [cpB] at h; simp only [putB]; rw [if_neg (by omega)]
  | .cons s r, n, h => by
    simp only [cpB] at h
    simp only [putB]
    rw [if_neg (by omega), putS_far s (n - 1) (by omega), putS_2, putB_far r _ (by omega)]
end
mutual
theorem putS_good (gm : goodS m) : ∀ (s : Stm) (n : Int), goodS s → goodS (putS m s n).1
  | .mk .., n, h => h
  | .no .., n, h => h
  | .fn x ps b, n, h => by
    rw [goodS] at h
    simp only [putS]
    rw [goodS]
    exact ⟨h.1, h.2.1, h.2.2.1, putB_good gm b n h.2.2.2⟩
  | .ite a b1 b2, n, h => by
    rw [goodS] at h
    simp only [putS]
    rw [goodS]
    exact ⟨h.1, putB_good gm b1 n h.2.1, putB_good gm b2 _ h.2.2⟩
  | .whl a b, n, h => by
    rw [goodS] at h
    simp only [putS]
    rw [goodS]
    exact ⟨h.1, putB_good gm b n h.2⟩
  | .tms one x a b, n, h => by
    rw [goodS] at h
    simp only [putS]
    rw [goodS]
    exact ⟨h.1, h.2.1, putB_good gm b n h.2.2⟩
theorem putB_good (gm : goodS m) : ∀ (b : Blk) (n : Int), goodB b → goodB (putB m b n).1
  | .nil, n, h => by
    simp only [putB]
    split
    · rw [goodB]; exact ⟨gm, h⟩
    · exact h
  | .cons s r, n, h => by
    rw [goodB] at h
    have h2 : goodB (.cons (putS m s (n - 1)).1 (putB m r (putS m s (n - 1)).2).1) := by
      rw [goodB]
      exact ⟨putS_good gm s _ h.1, putB_good gm r _ h.2⟩
    simp only [putB]
    split
    · rw [goodB]; exact ⟨gm, h2⟩
    · exact h2
end
mutual
theorem putS_n (h1 : nS m = 1) : ∀ (s : Stm) (n : Int), 0 ≤ n → n < cpS s → nS (putS m s n).1 = nS s + 1
  | .mk .., n, a, b => by simp only [cpS] at b; omega
  | .no .., n, a, b => by simp only [cpS] at b; omega
  | .fn x ps b, n, h0, h => by simp only [cpS] at h; simp only [putS, nS, putB_n h1 b n h0 h]; omega
  | .ite a b1 b2, n, h0, h => by
    simp only [cpS] at h
    simp only [putS, nS, putB_2 b1]
    by_cases c : n < cpB b1
    · rw [putB_n h1 b1 n h0 c, putB_neg b2 _ (by omega)]; omega
    · rw [putB_far b1 n (by omega), putB_n h1 b2 (n - cpB b1) (by omega) (by omega)]; omega
  | .whl a b, n, h0, h => by simp only [cpS] at h; simp only [putS, nS, putB_n h1 b n h0 h]; omega
  | .tms one x a b, n, h0, h => by simp only [cpS] at h; simp only [putS, nS, putB_n h1 b n h0 h]; omega
theorem putB_n (h1 : nS m = 1) : ∀ (b : Blk) (n : Int), 0 ≤ n → n < cpB b → nB (putB m b n).1 = nB b + 1
  | .nil, n, h0, h => by
    simp only [cpB] at h
    simp only [putB]
    rw [if_pos (by omega)]
    simp only [nB, h1]
  | .cons s r, n, h0, h => by
    simp only [cpB] at h
    simp only [putB]
    by_cases c : n = 0
    · rw [if_pos c, putS_neg s _ (by omega), putS_2, putB_neg r _ (by omega), nB, h1]; omega
    · rw [if_neg c, putS_2, nB, nB]
      by_cases c2 : n - 1 < cpS s
      · rw [putS_n h1 s (n - 1) (by omega) c2, putB_neg r _ (by omega)]; omega
      · rw [putS_far s (n - 1) (by omega), putB_n h1 r _ (by omega) (by omega)]; omega
end
mutual
theorem putS_d (h1 : (dS m).depth ≤ 1) : ∀ (s : Stm) (n : Int), (dS (putS m s n).1).depth ≤ (dS s).depth + 1
  | .mk .., n => Nat.le_succ _
  | .no .., n => Nat.le_succ _
  | .fn x ps b, n => by
    have := putB_d h1 b n
    simp only [putS, dS, PyData.depth, PyData.depthAll]
    omega
  | .ite a b1 b2, n => by
    have := putB_d h1 b1 n
    have := putB_d h1 b2 (putB m b1 n).2
    simp only [putS, dS, PyData.depth, PyData.depthAll]
    omega
  | .whl a b, n => by
    have := putB_d h1 b n
    simp only [putS, dS, PyData.depth, PyData.depthAll]
    omega
  | .tms one x a b, n => by
    have := putB_d h1 b n
    simp only [putS, dS, PyData.depth, PyData.depthAll]
    omega
theorem putB_d (h1 : (dS m).depth ≤ 1) : ∀ (b : Blk) (n : Int), PyData.depthAll (dB (putB m b n).1) ≤ PyData.depthAll (dB b) + 1
  | .nil, n => by
    simp only [putB]
    split
    · simp only [dB, PyData.depthAll]; omega
    · exact Nat.le_succ _
  | .cons s r, n => by
    have a := putS_d h1 s (n - 1)
    have b := putB_d h1 r (putS m s (n - 1)).2
    simp only [putB]
    split
    · simp only [dB, PyData.depthAll]; omega
    · simp only [dB, PyData.depthAll]; omega
end
/-! ### what is laid of it -/
/-- a number, one more where it is at j or behind -/
def shD (j : Nat) : PyData → PyData
  | .int i => .int (i + if (j : Int) ≤ i then 1 else 0)
  | d => d
def latB (j : Nat) : PyData → PyData
  | .tuple (k :: r) => .tuple (shD j k :: r)
  | d => d
def latG (j : Nat) : PyData → PyData
  | .tuple (a :: k :: r) => .tuple (a :: shD j k :: r)
  | d => d
def kept (j : Nat) : PyData → Bool
  | .tuple (_ :: .int k :: _) => !decide (k = (j : Int))
  | _ => true
theorem sh_up {j n : Nat} (h : j ≤ n) : shD j (nD n) = nD (n + 1) := by
  show PyData.int _ = _
  rw [if_pos (by omega)]
  rfl
theorem sh_low {j n : Nat} (h : n < j) : shD j (nD n) = nD n := by
  show PyData.int _ = _
  rw [if_neg (by omega), Int.add_zero]
inductive Sim : PyData → PyData → Prop
  | same (d : PyData) : Sim d d
  | blk (w : Str) (r r' : List PyData) (h : w = "fn" ∨ w = "if" ∨ w = "while" ∨ w = "times") : Sim (.tuple (.str w :: r)) (.tuple (.str w :: r'))
abbrev PE3 := PyData × Nat × Nat
inductive A2 : List PE3 → List PE3 → Prop
  | nil : A2 [] []
  | cons {d d' : PyData} {q : Nat × Nat} {l l' : List PE3} : Sim d d' → A2 l l' → A2 ((d, q) :: l) ((d', q) :: l')
theorem A2.snoc {d d' : PyData} {q : Nat × Nat} (h : Sim d d') : ∀ {l l' : List PE3}, A2 l l' → A2 (l ++ [(d, q)]) (l' ++ [(d', q)])
  | _, _, .nil => .cons h .nil
  | _, _, .cons a t => .cons a (t.snoc h)
theorem A2.len : ∀ {l l' : List PE3}, A2 l l' → l.length = l'.length
  | _, _, .nil => rfl
  | _, _, .cons _ t => by rw [List.length_cons, List.length_cons, t.len]
theorem A2.app {a a' : List PE3} : ∀ {l l' : List PE3}, A2 l l' → A2 a a' → A2 (l ++ a) (l' ++ a')
  | _, _, .nil, h => h
  | _, _, .cons s t, h => .cons s (t.app h)
/-- ahead of the place -/
structure R0 (t t' : TS) : Prop where
  pl : A2 t.pl t'.pl
  bd : t'.bd = t.bd
  gr : t'.gr = t.gr
  mm : t'.mm = t.mm
  fb : ∀ d ∈ t.bd, ∀ j, t.pl.length ≤ j → latB j d = d
  fg : ∀ d ∈ t.gr, ∀ j, t.pl.length ≤ j → latG j d = d
  fm : ∀ d ∈ t.mm, ∀ j, t.pl.length ≤ j → latG j d = d ∧ kept j d = true
/-- behind it: c how many makings came in -/
structure R1 (m : Stm) (c j : Nat) (t t' : TS) : Prop where
  pl : ∃ A B A' B' q, t.pl = A ++ B ∧ t'.pl = A' ++ (dS m, q) :: B' ∧ A.length = j ∧ A2 A A' ∧ A2 B B'
  bd : t'.bd = t.bd.map (latB j)
  gr : t'.gr = t.gr.map (latG j)
  mm : t'.mm.filter (kept j) = t.mm.map (latG j)
  mn : t'.mm.length = t.mm.length + c
theorem R0.len {t t' : TS} (h : R0 t t') : t'.pl.length = t.pl.length := h.pl.len.symm
theorem R1.le {c j : Nat} {t t' : TS} (h : R1 m c j t t') : j ≤ t.pl.length := by
  obtain ⟨A, B, A', B', q, e, _, l, _, _⟩ := h.pl
  rw [e, List.length_append]
  omega
theorem R1.len {c j : Nat} {t t' : TS} (h : R1 m c j t t') : t'.pl.length = t.pl.length + 1 := by
  obtain ⟨A, B, A', B', q, e, e', l, a, b⟩ := h.pl
  have := a.len
  have := b.len
  rw [e, e', List.length_append, List.length_append, List.length_cons]
  omega
theorem R1.bl {c j : Nat} {t t' : TS} (h : R1 m c j t t') : t'.bd.length = t.bd.length := by rw [h.bd, List.length_map]
theorem R1.gl {c j : Nat} {t t' : TS} (h : R1 m c j t t') : t'.gr.length = t.gr.length := by rw [h.gr, List.length_map]
theorem R1.push {c j : Nat} {t t' : TS} (h : R1 m c j t t') {d d' : PyData} (q : Nat × Nat) (s : Sim d d') : R1 m c j { t with pl := t.pl ++ [(d, q)] } { t' with pl := t'.pl ++ [(d', q)] } := by
  obtain ⟨A, B, A', B', q', e, e', l, a, b⟩ := h.pl
  exact ⟨⟨A, B ++ [(d, q)], A', B' ++ [(d', q)], q', by rw [← List.append_assoc, ← e], by show t'.pl ++ _ = _; rw [e', List.append_assoc]; rfl, l, a, b.snoc s⟩, h.bd, h.gr, h.mm, h.mn⟩
theorem R1.ground {c j : Nat} {t t' : TS} (h : R1 m c j t t') {k : Str} {n : Nat} (hn : j ≤ n) (a : PyData) : R1 m c j { t with gr := t.gr ++ [rowG k (nD n) a] } { t' with gr := t'.gr ++ [rowG k (nD (n + 1)) a] } :=
  ⟨h.pl, h.bd, by show t'.gr ++ [rowG k (nD (n + 1)) a] = List.map (latG j) (t.gr ++ [rowG k (nD n) a]); rw [List.map_append, h.gr, ← sh_up hn]; rfl, h.mm, h.mn⟩
theorem R1.body {c j : Nat} {t t' : TS} (h : R1 m c j t t') {n : Nat} (hn : j ≤ n) (ps : List Str) : R1 m c j { t with bd := t.bd ++ [rowB (nD n) ps] } { t' with bd := t'.bd ++ [rowB (nD (n + 1)) ps] } :=
  ⟨h.pl, by show t'.bd ++ [rowB (nD (n + 1)) ps] = List.map (latB j) (t.bd ++ [rowB (nD n) ps]); rw [List.map_append, h.bd, ← sh_up hn]; rfl, h.gr, h.mm, h.mn⟩
theorem kept_up {j n g : Nat} {x : Str} (h : j ≤ n) : kept j (rowM x (n + 1) g) = true := by
  show (!decide (((n + 1 : Nat) : Int) = (j : Int))) = true
  rw [decide_eq_false (by omega)]
  rfl
theorem R1.make {c j : Nat} {t t' : TS} (h : R1 m c j t t') {n : Nat} (hn : j ≤ n) (x : Str) (g : Nat) : R1 m c j { t with mm := t.mm ++ [rowM x n g] } { t' with mm := t'.mm ++ [rowM x (n + 1) g] } := by
  refine ⟨h.pl, h.bd, h.gr, ?_, ?_⟩
  · show List.filter (kept j) (t'.mm ++ [rowM x (n + 1) g]) = List.map (latG j) (t.mm ++ [rowM x n g])
    rw [List.filter_append, List.map_append, h.mm, List.filter_cons, kept_up hn]
    simp only [if_true, List.filter_nil, List.map_cons, List.map_nil]
    rw [show latG j (rowM x n g) = rowM x (n + 1) g from by show PyData.tuple [_, shD j (nD n), _] = _; rw [sh_up hn]; rfl]
  · show (t'.mm ++ [rowM x (n + 1) g]).length = (t.mm ++ [rowM x n g]).length + c
    have := h.mn
    rw [List.length_append, List.length_append]
    simp only [List.length_cons, List.length_nil]
    omega
theorem R1.makes {c j n g : Nat} (hn : j ≤ n) : ∀ (ps : List Str) {t t' : TS}, R1 m c j t t' → R1 m c j { t with mm := t.mm ++ ps.map fun p => rowM p n g } { t' with mm := t'.mm ++ ps.map fun p => rowM p (n + 1) g }
  | [], t, t', h => by simp only [List.map_nil, List.append_nil]; exact h
  | p :: r, t, t', h => by
    have z := R1.makes (g := g) hn r (h.make hn p g)
    simp only [List.append_assoc] at z
    exact z
mutual
theorem r1S {c j : Nat} : ∀ (s : Stm) (g b : Nat) (t t' : TS), R1 m c j t t' → R1 m c j (layS s g b t) (layS s g b t')
  | .mk w x r h, g, b, t, t', z => by
    rw [layS, layS, z.len]
    exact (z.push (g, b) (.same _)).make z.le x g
  | .no w r h, g, b, t, t', z => by
    rw [layS, layS]
    exact z.push (g, b) (.same _)
  | .fn x ps blk, g, b, t, t', z => by
    rw [layS, layS, z.len, z.bl, z.gl]
    refine r1B blk _ _ _ _ ?_
    have y := R1.makes (g := t.gr.length) z.le ps (((z.push (g, b) (.same (dS (.fn x ps blk)))).make z.le x g))
    simp only [List.append_assoc] at y
    exact (y.body z.le ps).ground z.le (nD g)
  | .ite a b1 b2, g, b, t, t', z => by
    have y := r1B b1 t.gr.length b _ _ ((z.push (g, b) (.same (dS (.ite a b1 b2)))).ground (k := "one") z.le (nD g))
    rw [layS, layS, z.len, z.gl]
    have yl := y.gl
    have w := r1B b2 (layB b1 t.gr.length b { t with pl := t.pl ++ [(dS (.ite a b1 b2), g, b)], gr := t.gr ++ [rowG "one" (nD t.pl.length) (nD g)] }).gr.length b _ _ (y.ground (k := "other") z.le (nD g))
    rw [yl]
    exact w
  | .whl a blk, g, b, t, t', z => by
    rw [layS, layS, z.len, z.gl]
    exact r1B blk _ _ _ _ ((z.push (g, b) (.same (dS (.whl a blk)))).ground z.le (nD g))
  | .tms true x a blk, g, b, t, t', z => by
    rw [layS, layS, z.len, z.gl]
    exact r1B blk _ _ _ _ ((((z.push (g, b) (.same (dS (.tms true x a blk)))).make z.le x t.gr.length).ground z.le (nD g)).ground z.le (nD t.gr.length))
  | .tms false x a blk, g, b, t, t', z => by
    rw [layS, layS, z.len, z.gl]
    exact r1B blk _ _ _ _ (((z.push (g, b) (.same (dS (.tms false x a blk)))).make z.le x t.gr.length).ground z.le (nD g))
theorem r1B {c j : Nat} : ∀ (blk : Blk) (g b : Nat) (t t' : TS), R1 m c j t t' → R1 m c j (layB blk g b t) (layB blk g b t')
  | .nil, _, _, _, _, z => z
  | .cons s r, g, b, t, t', z => by
    rw [layB, layB]
    exact r1B r g b _ _ (r1S s g b t t' z)
end
/-! ahead of the place: nothing is otherwise but the statements around -/
theorem fixB {n j : Nat} {k : PyData} {ps : List Str} (h : shD j k = k) : latB j (rowB k ps) = rowB k ps := by
  show PyData.tuple (shD j k :: _) = _
  rw [h]
  rfl
theorem fixG {j : Nat} {s : Str} {k a : PyData} (h : shD j k = k) : latG j (rowG s k a) = rowG s k a := by
  show PyData.tuple (_ :: shD j k :: _) = _
  rw [h]
  rfl
theorem fixM {j n g : Nat} {x : Str} (h : n < j) : latG j (rowM x n g) = rowM x n g ∧ kept j (rowM x n g) = true := by
  refine ⟨?_, ?_⟩
  · show PyData.tuple (_ :: shD j (nD n) :: _) = _
    rw [sh_low h]
    rfl
  · show (!decide ((n : Int) = (j : Int))) = true
    rw [decide_eq_false (by omega)]
    rfl
theorem R0.push {t t' : TS} (h : R0 t t') {d d' : PyData} (q : Nat × Nat) (s : Sim d d') : R0 { t with pl := t.pl ++ [(d, q)] } { t' with pl := t'.pl ++ [(d', q)] } := by
  have up : ∀ j, (t.pl ++ [(d, q)]).length ≤ j → t.pl.length ≤ j := fun j z => by
    rw [List.length_append] at z
    simp only [List.length_cons, List.length_nil] at z
    omega
  exact ⟨h.pl.snoc s, h.bd, h.gr, h.mm, fun e z j y => h.fb e z j (up j y), fun e z j y => h.fg e z j (up j y), fun e z j y => h.fm e z j (up j y)⟩
theorem R0.ground {t t' : TS} (h : R0 t t') {k : Str} {n : Nat} (hn : n < t.pl.length) (a : PyData) : R0 { t with gr := t.gr ++ [rowG k (nD n) a] } { t' with gr := t'.gr ++ [rowG k (nD n) a] } := by
  refine ⟨h.pl, h.bd, by show t'.gr ++ _ = t.gr ++ _; rw [h.gr], h.mm, h.fb, fun e z j y => ?_, h.fm⟩
  have y' : t.pl.length ≤ j := y
  rcases List.mem_append.mp z with q | q
  · exact h.fg e q j y
  · rw [List.mem_singleton.mp q]
    exact fixG (sh_low (by omega))
theorem R0.body {t t' : TS} (h : R0 t t') {n : Nat} (hn : n < t.pl.length) (ps : List Str) : R0 { t with bd := t.bd ++ [rowB (nD n) ps] } { t' with bd := t'.bd ++ [rowB (nD n) ps] } := by
  refine ⟨h.pl, by show t'.bd ++ _ = t.bd ++ _; rw [h.bd], h.gr, h.mm, fun e z j y => ?_, h.fg, h.fm⟩
  have y' : t.pl.length ≤ j := y
  rcases List.mem_append.mp z with q | q
  · exact h.fb e q j y
  · rw [List.mem_singleton.mp q]
    exact fixB (n := n) (sh_low (by omega))
theorem R0.makes {t t' : TS} (h : R0 t t') {n : Nat} (hn : n < t.pl.length) (l : List (Str × Nat)) : R0 { t with mm := t.mm ++ l.map fun p => rowM p.1 n p.2 } { t' with mm := t'.mm ++ l.map fun p => rowM p.1 n p.2 } := by
  refine ⟨h.pl, h.bd, h.gr, by show t'.mm ++ _ = t.mm ++ _; rw [h.mm], h.fb, h.fg, fun e z j y => ?_⟩
  have y' : t.pl.length ≤ j := y
  rcases List.mem_append.mp z with q | q
  · exact h.fm e q j y
  · obtain ⟨p, _, rfl⟩ := List.mem_map.mp q
    exact fixM (by omega)
theorem lt_push {t : TS} {e : PE3} : t.pl.length < (t.pl ++ [e]).length := by
  rw [List.length_append]
  simp
mutual
theorem r0S : ∀ (s : Stm) (g b : Nat) (t t' : TS), R0 t t' → R0 (layS s g b t) (layS s g b t')
  | .mk w x r h, g, b, t, t', z => by
    rw [layS, layS, z.len]
    exact (z.push (g, b) (.same _)).makes lt_push [(x, g)]
  | .no w r h, g, b, t, t', z => by
    rw [layS, layS]
    exact z.push (g, b) (.same _)
  | .fn x ps blk, g, b, t, t', z => by
    rw [layS, layS, z.len, z.bd, z.gr]
    refine r0B blk _ _ _ _ ?_
    have y := ((((z.push (g, b) (.same (dS (.fn x ps blk)))).makes lt_push ((x, g) :: ps.map fun p => (p, t.gr.length))).body lt_push ps).ground (k := "body") lt_push (nD g))
    simp only [List.map_cons, List.map_map, z.bd, z.gr] at y
    exact y
  | .ite a b1 b2, g, b, t, t', z => by
    have y := r0B b1 t.gr.length b _ _ ((z.push (g, b) (.same (dS (.ite a b1 b2)))).ground (k := "one") lt_push (nD g))
    rw [layS, layS, z.len, show t'.gr.length = t.gr.length by rw [z.gr]]
    have yl : (layB b1 t.gr.length b { t' with pl := t'.pl ++ [(dS (.ite a b1 b2), g, b)], gr := t'.gr ++ [rowG "one" (nD t.pl.length) (nD g)] }).gr.length = (layB b1 t.gr.length b { t with pl := t.pl ++ [(dS (.ite a b1 b2), g, b)], gr := t.gr ++ [rowG "one" (nD t.pl.length) (nD g)] }).gr.length := congrArg List.length y.gr
    have lb := lenB b1 t.gr.length b { t with pl := t.pl ++ [(dS (.ite a b1 b2), g, b)], gr := t.gr ++ [rowG "one" (nD t.pl.length) (nD g)] }
    have lp : t.pl.length < (t.pl ++ [(dS (.ite a b1 b2), g, b)]).length := lt_push
    rw [yl]
    exact r0B b2 _ b _ _ (y.ground (k := "other") (n := t.pl.length) (by rw [lb]; exact Nat.lt_of_lt_of_le lp (Nat.le_add_right _ _)) (nD g))
  | .whl a blk, g, b, t, t', z => by
    rw [layS, layS, z.len, show t'.gr.length = t.gr.length by rw [z.gr]]
    exact r0B blk _ _ _ _ ((z.push (g, b) (.same (dS (.whl a blk)))).ground lt_push (nD g))
  | .tms true x a blk, g, b, t, t', z => by
    rw [layS, layS, z.len, show t'.gr.length = t.gr.length by rw [z.gr]]
    exact r0B blk _ _ _ _ ((((z.push (g, b) (.same (dS (.tms true x a blk)))).makes lt_push [(x, t.gr.length)]).ground lt_push (nD g)).ground lt_push (nD t.gr.length))
  | .tms false x a blk, g, b, t, t', z => by
    rw [layS, layS, z.len, show t'.gr.length = t.gr.length by rw [z.gr]]
    exact r0B blk _ _ _ _ (((z.push (g, b) (.same (dS (.tms false x a blk)))).makes lt_push [(x, t.gr.length)]).ground lt_push (nD g))
theorem r0B : ∀ (blk : Blk) (g b : Nat) (t t' : TS), R0 t t' → R0 (layB blk g b t) (layB blk g b t')
  | .nil, _, _, _, _, z => z
  | .cons s r, g, b, t, t', z => by
    rw [layB, layB]
    exact r0B r g b _ _ (r0S s g b t t' z)
end
/-! ### the place -/
def cM : Stm → Nat
  | .mk .. => 1
  | _ => 0
def flatS : Stm → Prop
  | .mk .. => True
  | .no .. => True
  | _ => False
theorem map_fix {α : Type} {f : α → α} : ∀ {l : List α}, (∀ d ∈ l, f d = d) → l.map f = l
  | [], _ => rfl
  | d :: r, h => by rw [List.map_cons, h d List.mem_cons_self, map_fix fun e z => h e (List.mem_cons_of_mem _ z)]
theorem filter_all {α : Type} {f : α → Bool} : ∀ {l : List α}, (∀ d ∈ l, f d = true) → l.filter f = l
  | [], _ => rfl
  | d :: r, h => by rw [List.filter_cons, if_pos (h d List.mem_cons_self), filter_all fun e z => h e (List.mem_cons_of_mem _ z)]
theorem R0.base {t t' : TS} (fm : flatS m) (h : R0 t t') (g b : Nat) : R1 m (cM m) t.pl.length t (layS m g b t') := by
  have e1 : t.bd.map (latB t.pl.length) = t.bd := map_fix fun d z => h.fb d z _ (Nat.le_refl _)
  have e2 : t.gr.map (latG t.pl.length) = t.gr := map_fix fun d z => h.fg d z _ (Nat.le_refl _)
  have e3 : t.mm.map (latG t.pl.length) = t.mm := map_fix fun d z => (h.fm d z _ (Nat.le_refl _)).1
  have e4 : t.mm.filter (kept t.pl.length) = t.mm := filter_all fun d z => (h.fm d z _ (Nat.le_refl _)).2
  cases m with
  | mk w x r hw =>
    rw [layS]
    refine ⟨⟨t.pl, [], t'.pl, [], (g, b), (List.append_nil _).symm, rfl, rfl, h.pl, .nil⟩, by rw [e1]; exact h.bd, by rw [e2]; exact h.gr, ?_, ?_⟩
    · show List.filter (kept t.pl.length) (t'.mm ++ [rowM x t'.pl.length g]) = List.map (latG t.pl.length) t.mm
      rw [List.filter_append, h.mm, e4, e3, h.len, List.filter_cons, if_neg, List.filter_nil, List.append_nil]
      show ¬ (!decide ((t.pl.length : Int) = (t.pl.length : Int))) = true
      rw [decide_eq_true rfl]
      exact Bool.false_ne_true
    · show (t'.mm ++ [rowM x t'.pl.length g]).length = t.mm.length + 1
      rw [List.length_append, h.mm]
      rfl
  | no w r hw =>
    rw [layS]
    exact ⟨⟨t.pl, [], t'.pl, [], (g, b), (List.append_nil _).symm, rfl, rfl, h.pl, .nil⟩, by rw [e1]; exact h.bd, by rw [e2]; exact h.gr, by rw [e3]; show List.filter _ t'.mm = _; rw [h.mm, e4], by show t'.mm.length = _; rw [h.mm]; rfl⟩
  | fn x ps b => exact fm.elim
  | ite a b1 b2 => exact fm.elim
  | whl a b => exact fm.elim
  | tms one x a b => exact fm.elim
theorem R1.low {c j : Nat} {t t' : TS} (h : R1 m c j t t') {k : Str} {n : Nat} (hn : n < j) (a : PyData) : R1 m c j { t with gr := t.gr ++ [rowG k (nD n) a] } { t' with gr := t'.gr ++ [rowG k (nD n) a] } :=
  ⟨h.pl, h.bd, by show t'.gr ++ [rowG k (nD n) a] = List.map (latG j) (t.gr ++ [rowG k (nD n) a]); rw [List.map_append, h.gr, List.map_cons, fixG (sh_low hn)]; rfl, h.mm, h.mn⟩
theorem sim_fn {x : Str} {ps : List Str} {b b' : Blk} : Sim (dS (.fn x ps b)) (dS (.fn x ps b')) := by
  rw [dS, dS]
  exact .blk _ _ _ (.inl rfl)
theorem sim_ite {a : PyData} {b b' c c' : Blk} : Sim (dS (.ite a b c)) (dS (.ite a b' c')) := by
  rw [dS, dS]
  exact .blk _ _ _ (.inr (.inl rfl))
theorem sim_whl {a : PyData} {b b' : Blk} : Sim (dS (.whl a b)) (dS (.whl a b')) := by
  rw [dS, dS]
  exact .blk _ _ _ (.inr (.inr (.inl rfl)))
theorem sim_tms {one : Bool} {x : Str} {a : PyData} {b b' : Blk} : Sim (dS (.tms one x a b)) (dS (.tms one x a b')) := by
  rw [dS, dS]
  exact .blk _ _ _ (.inr (.inr (.inr rfl)))
theorem len_push {t : TS} {e : PE3} : (t.pl ++ [e]).length = t.pl.length + 1 := by
  rw [List.length_append]
  rfl
mutual
theorem putS_rel (fm : flatS m) : ∀ (s : Stm) (n : Int) (g b : Nat) (t t' : TS), 0 ≤ n → n < cpS s → R0 t t' → ∃ j, t.pl.length < j ∧ R1 m (cM m) j (layS s g b t) (layS (putS m s n).1 g b t')
  | .mk .., n, _, _, _, _, h0, h1, _ => by simp only [cpS] at h1; omega
  | .no .., n, _, _, _, _, h0, h1, _ => by simp only [cpS] at h1; omega
  | .fn x ps blk, n, g, b, t, t', h0, h1, z => by
    simp only [cpS] at h1
    have y := ((((z.push (g, b) (sim_fn (x := x) (ps := ps) (b := blk) (b' := (putB m blk n).1))).makes lt_push ((x, g) :: ps.map fun p => (p, t.gr.length))).body lt_push ps).ground (k := "body") lt_push (nD g))
    simp only [List.map_cons, List.map_map, z.bd, z.gr] at y
    obtain ⟨j, hj, w⟩ := putB_rel fm blk n t.gr.length t.bd.length _ _ h0 h1 y
    refine ⟨j, Nat.lt_of_lt_of_le lt_push hj, ?_⟩
    simp only [putS]
    rw [layS, layS, z.len, z.bd, z.gr]
    exact w
  | .ite a b1 b2, n, g, b, t, t', h0, h1, z => by
    simp only [cpS] at h1
    simp only [putS, putB_2]
    rw [layS, layS, z.len, show t'.gr.length = t.gr.length by rw [z.gr]]
    by_cases c : n < cpB b1
    · rw [putB_neg b2 (n - cpB b1) (by omega)]
      obtain ⟨j, hj, w⟩ := putB_rel fm b1 n t.gr.length b _ _ h0 c ((z.push (g, b) (sim_ite (a := a) (b := b1) (b' := (putB m b1 n).1) (c := b2) (c' := b2))).ground (k := "one") lt_push (nD g))
      have hj' : t.pl.length < j := Nat.lt_of_lt_of_le lt_push hj
      have wl := w.gl
      refine ⟨j, hj', ?_⟩
      rw [wl]
      exact r1B b2 _ b _ _ (w.low (k := "other") hj' (nD g))
    · rw [putB_far b1 n (by omega)]
      have y := r0B b1 t.gr.length b _ _ ((z.push (g, b) (sim_ite (a := a) (b := b1) (b' := b1) (c := b2) (c' := (putB m b2 (n - cpB b1)).1))).ground (k := "one") lt_push (nD g))
      have yl := congrArg List.length y.gr
      have lb := lenB b1 t.gr.length b { t with pl := t.pl ++ [(dS (.ite a b1 b2), g, b)], gr := t.gr ++ [rowG "one" (nD t.pl.length) (nD g)] }
      have lp : t.pl.length < (t.pl ++ [(dS (.ite a b1 b2), g, b)]).length := lt_push
      have ll : t.pl.length < (layB b1 t.gr.length b { t with pl := t.pl ++ [(dS (.ite a b1 b2), g, b)], gr := t.gr ++ [rowG "one" (nD t.pl.length) (nD g)] }).pl.length := by
        rw [lb]
        exact Nat.lt_of_lt_of_le lp (Nat.le_add_right _ _)
      obtain ⟨j, hj, w⟩ := putB_rel fm b2 (n - cpB b1) (layB b1 t.gr.length b { t with pl := t.pl ++ [(dS (.ite a b1 b2), g, b)], gr := t.gr ++ [rowG "one" (nD t.pl.length) (nD g)] }).gr.length b _ _ (by omega) (by omega) (y.ground (k := "other") (n := t.pl.length) ll (nD g))
      refine ⟨j, Nat.lt_of_lt_of_le ll hj, ?_⟩
      rw [yl]
      exact w
  | .whl a blk, n, g, b, t, t', h0, h1, z => by
    simp only [cpS] at h1
    obtain ⟨j, hj, w⟩ := putB_rel fm blk n t.gr.length b _ _ h0 h1 ((z.push (g, b) (sim_whl (a := a) (b := blk) (b' := (putB m blk n).1))).ground (k := "while") lt_push (nD g))
    refine ⟨j, Nat.lt_of_lt_of_le lt_push hj, ?_⟩
    simp only [putS]
    rw [layS, layS, z.len, show t'.gr.length = t.gr.length by rw [z.gr]]
    exact w
  | .tms true x a blk, n, g, b, t, t', h0, h1, z => by
    simp only [cpS] at h1
    obtain ⟨j, hj, w⟩ := putB_rel fm blk n (t.gr.length + 1) b _ _ h0 h1 ((((z.push (g, b) (sim_tms (one := true) (x := x) (a := a) (b := blk) (b' := (putB m blk n).1))).makes lt_push [(x, t.gr.length)]).ground (k := "head") lt_push (nD g)).ground (k := "times") lt_push (nD t.gr.length))
    refine ⟨j, Nat.lt_of_lt_of_le lt_push hj, ?_⟩
    simp only [putS]
    rw [layS, layS, z.len, show t'.gr.length = t.gr.length by rw [z.gr]]
    exact w
  | .tms false x a blk, n, g, b, t, t', h0, h1, z => by
    simp only [cpS] at h1
    obtain ⟨j, hj, w⟩ := putB_rel fm blk n t.gr.length b _ _ h0 h1 (((z.push (g, b) (sim_tms (one := false) (x := x) (a := a) (b := blk) (b' := (putB m blk n).1))).makes lt_push [(x, t.gr.length)]).ground (k := "times") lt_push (nD g))
    refine ⟨j, Nat.lt_of_lt_of_le lt_push hj, ?_⟩
    simp only [putS]
    rw [layS, layS, z.len, show t'.gr.length = t.gr.length by rw [z.gr]]
    exact w
theorem putB_rel (fm : flatS m) : ∀ (blk : Blk) (n : Int) (g b : Nat) (t t' : TS), 0 ≤ n → n < cpB blk → R0 t t' → ∃ j, t.pl.length ≤ j ∧ R1 m (cM m) j (layB blk g b t) (layB (putB m blk n).1 g b t')
  | .nil, n, g, b, t, t', h0, h1, z => by
    simp only [cpB] at h1
    simp only [putB]
    rw [if_pos (by omega), layB, layB, layB]
    exact ⟨_, Nat.le_refl _, z.base fm g b⟩
  | .cons s r, n, g, b, t, t', h0, h1, z => by
    simp only [cpB] at h1
    simp only [putB]
    by_cases c : n = 0
    · rw [if_pos c, putS_neg s _ (by omega), putS_2, putB_neg r _ (by omega), layB, layB, layB]
      exact ⟨_, Nat.le_refl _, r1B r g b _ _ (r1S s g b _ _ (z.base fm g b))⟩
    · rw [if_neg c, putS_2, layB, layB]
      by_cases c2 : n - 1 < cpS s
      · rw [putB_neg r _ (by omega)]
        obtain ⟨j, hj, w⟩ := putS_rel fm s (n - 1) g b t t' (by omega) c2 z
        exact ⟨j, Nat.le_of_lt hj, r1B r g b _ _ w⟩
      · rw [putS_far s (n - 1) (by omega)]
        obtain ⟨j, hj, w⟩ := putB_rel fm r (n - 1 - cpS s) g b _ _ (by omega) (by omega) (r0S s g b _ _ z)
        have ls := lenS s g b t
        exact ⟨j, by omega, w⟩
end
end Fb
set_option Elab.async false
set_option linter.all false
set_option maxRecDepth 100000
set_option maxHeartbeats 2000000
namespace Fb
open PySem PySem.Spec PyProof.Rows L2
/-! rules that name the written part -/
section
variable {X : Cx} (K0 : PySem.W.Frag) (hK : X.K = K0)
include hK
theorem piLK {tg l : Expr} {tl : TE} (hl : PE X l tl) : PI X tg l (iList K0 tl) := by
  subst hK
  exact pi_list hl
theorem piTK {tg l : Expr} {tl : TE} (hl : PE X l tl) : PI X tg l (iTup K0 tl) := by
  subst hK
  exact pi_tup hl
theorem sumK (hc : X.calm = true) : CallR X (.builtin "sum") (rSum K0) := by
  subst hK
  exact cr_sum hc
/-- t + u, whatever they are -/
def rCatU (K : PySem.W.Frag) : R2 := fun x y H Q => ∃ a b xs ys, x = .ref a ∧ y = .ref b ∧ SqT K H a xs ∧ SqT K H b ys ∧ xs.length + ys.length ≤ sizeLine ∧ ∀ p H', SqT K H' p (xs ++ ys) → Same H H' → Q (.ref p) H'
theorem catU : OpR X (binaryOp .Add) (rCatU K0) := by
  subst hK
  intro pins s σ H x y v u Q I rx ry h
  obtain ⟨a, b, xs, ys, rfl, rfl, ha, hb, hz, q⟩ := h
  refine op_catA pins s σ H _ _ v u Q I rx ry ⟨a, b, xs, ys, rfl, rfl, ha, hb, hz, fun e => ?_, fun _ e => ?_, fun _ _ p np => q p _ (SqT.of upd_same) (same_new np)⟩
  · subst e
    exact q b H hb fun _ _ e => e
  · subst e
    exact q a H (by rw [List.append_nil]; exact ha) fun _ _ e => e
/-- t[lo:hi], whatever it is -/
def rSlU (K : PySem.W.Frag) : V → Option Int → Option Int → Hp → VK → Prop := fun x lo hi H Q => ∃ a xs, x = .ref a ∧ SqT K H a xs ∧ ∀ p H', SqT K H' p (cutV xs lo hi) → Same H H' → Q (.ref p) H'
theorem slU : SlR X (rSlU K0) := by
  subst hK
  intro pins s σ H x v vl vu lo hi sl Q I rx hs pl pu h
  obtain ⟨a, xs, rfl, hx, q⟩ := h
  refine sl_tupA pins s σ H _ v vl vu lo hi sl Q I rx hs pl pu ⟨a, xs, rfl, hx, fun e => q a H ?_ fun _ _ e => e, fun _ p np => q p _ (SqT.of upd_same) (same_new np)⟩
  unfold cutV
  rw [e.1, e.2, List.drop_zero, Nat.sub_zero, List.take_length]
  exact hx
theorem listK : CallR X (.type "list") (fun xs H Q => ∃ p ys, xs = [.ref p] ∧ (SqL K0 H p ys ∨ SqT K0 H p ys) ∧ ∀ l, H l = none → Q (.ref l) (L2.upd H l (.lst ys))) := by
  subst hK
  exact call_list_of
end
/-! cuts -/
theorem cut_to {xs : List V} {j : Nat} (h : j ≤ xs.length) : cutV xs none (some (j : Int)) = xs.take j := by
  unfold cutV
  rw [HT.sIx_none, HT.sIx_nat, List.drop_zero, Nat.sub_zero, Nat.min_eq_left h]
theorem cut_from {xs : List V} {j : Nat} (h : j ≤ xs.length) : cutV xs (some (j : Int)) none = xs.drop j := by
  unfold cutV
  rw [HT.sIx_none, HT.sIx_nat, Nat.min_eq_left h]
  exact List.take_of_length_le (by rw [List.length_drop]; omega)
theorem dps_take {K : PySem.W.Frag} {H : Hp} : ∀ {vs : List V} {ds : List PyData} (j : Nat), DpAll K H vs ds → DpAll K H (vs.take j) (ds.take j)
  | _, _, 0, _ => by rw [List.take_zero, List.take_zero]; exact .nil
  | _, _, _ + 1, .nil => .nil
  | _, _, j + 1, .cons a t => .cons a (dps_take j t)
theorem dps_drop {K : PySem.W.Frag} {H : Hp} : ∀ {vs : List V} {ds : List PyData} (j : Nat), DpAll K H vs ds → DpAll K H (vs.drop j) (ds.drop j)
  | _, _, 0, h => h
  | _, _, _ + 1, .nil => .nil
  | _, _, j + 1, .cons a t => dps_drop j t
/-! what is like itself -/
mutual
theorem eqv_refl : ∀ d : PyData, d.canLay0 = true → PyData.eqv d d = true
  | .none, _ => rfl
  | .bool b, _ => by show (b == b) = true; exact beq_self_eq_true b
  | .int i, _ => by show (i == i) = true; exact beq_self_eq_true i
  | .str x, _ => by show (x == x) = true; exact beq_self_eq_true x
  | .list xs, h => by
    show PyData.eqvAll xs xs = true
    exact eqvs_refl xs h
  | .tuple xs, h => by
    show PyData.eqvAll xs xs = true
    exact eqvs_refl xs h
  | .dict _, h => by cases h
theorem eqvs_refl : ∀ ds : List PyData, PyData.canLayAll0 ds = true → PyData.eqvAll ds ds = true
  | [], _ => rfl
  | d :: r, h => by
    rw [PyData.canLayAll0, Bool.and_eq_true] at h
    rw [PyData.eqvAll, eqv_refl d h.1, eqvs_refl r h.2]
    rfl
end
/-! ### the way of the loop: statement by statement, part by part -/
def bks : Stm → List Blk
  | .fn _ _ b => [b]
  | .ite _ b1 b2 => [b1, b2]
  | .whl _ b => [b]
  | .tms _ _ _ b => [b]
  | _ => []
def tB (b : Blk) : PyData := .tuple (dB b)
/-- what stands ahead of its blocks -/
def hdS : Stm → List PyData
  | .mk w x r _ => .str w :: .str x :: r
  | .no w r _ => .str w :: r
  | .fn x ps _ => [.str "fn", .str x, .tuple (ps.map .str)]
  | .ite a _ _ => [.str "if", a]
  | .whl a _ => [.str "while", a]
  | .tms one x a _ => [.str "times", .str (modeS one), .str x, a]
theorem dS_parts (s : Stm) : dS s = .tuple (hdS s ++ (bks s).map tB) := by
  cases s <;> simp [dS, hdS, bks, tB]
def parts (m : Stm) : List Blk → Int → List Blk × Int
  | [], n => ([], n)
  | b :: r, n => ((putB m b n).1 :: (parts m r (putB m b n).2).1, (parts m r (putB m b n).2).2)
theorem parts_snoc {m : Stm} : ∀ (l : List Blk) (b : Blk) (n : Int), parts m (l ++ [b]) n = ((parts m l n).1 ++ [(putB m b (parts m l n).2).1], (putB m b (parts m l n).2).2)
  | [], b, n => rfl
  | c :: r, b, n => by
    show ((putB m c n).1 :: (parts m (r ++ [b]) (putB m c n).2).1, (parts m (r ++ [b]) (putB m c n).2).2) = _
    rw [parts_snoc r]
    rfl
theorem put_parts {m : Stm} (s : Stm) (n : Int) : hdS (putS m s n).1 = hdS s ∧ bks (putS m s n).1 = (parts m (bks s) n).1 ∧ (putS m s n).2 = (parts m (bks s) n).2 := by
  cases s <;> simp [putS, hdS, bks, parts]
theorem parts_len {m : Stm} : ∀ (l : List Blk) (n : Int), (parts m l n).1.length = l.length
  | [], _ => rfl
  | b :: r, n => by
    show ((putB m b n).1 :: _).length = _
    rw [List.length_cons, parts_len r, List.length_cons]
def way (m : Stm) : List Stm → Int → List Stm × Int
  | [], n => ([], n)
  | s :: r, n => ((if n = 0 then [m] else []) ++ (putS m s (n - 1)).1 :: (way m r (putS m s (n - 1)).2).1, (way m r (putS m s (n - 1)).2).2)
theorem way_snoc {m : Stm} : ∀ (l : List Stm) (s : Stm) (n : Int), way m (l ++ [s]) n = ((way m l n).1 ++ (if (way m l n).2 = 0 then [m] else []) ++ [(putS m s ((way m l n).2 - 1)).1], (putS m s ((way m l n).2 - 1)).2)
  | [], s, n => by
    show ((if n = 0 then [m] else []) ++ (putS m s (n - 1)).1 :: [], (putS m s (n - 1)).2) = _
    rfl
  | c :: r, s, n => by
    show ((if n = 0 then [m] else []) ++ (putS m c (n - 1)).1 :: (way m (r ++ [s]) (putS m c (n - 1)).2).1, (way m (r ++ [s]) (putS m c (n - 1)).2).2) = _
    rw [way_snoc r]
    show _ = (((if n = 0 then [m] else []) ++ (putS m c (n - 1)).1 :: (way m r (putS m c (n - 1)).2).1) ++ _ ++ _, _)
    simp only [List.append_assoc, List.cons_append]
    rfl
theorem way_put {m : Stm} : ∀ (b : Blk) (n : Int), stms (putB m b n).1 = (way m (stms b) n).1 ++ (if (way m (stms b) n).2 = 0 then [m] else []) ∧ (putB m b n).2 = (way m (stms b) n).2 - 1
  | .nil, n => by
    simp only [putB, stms, way, List.nil_append]
    refine ⟨?_, trivial⟩
    by_cases h : n = 0
    · rw [if_pos h, if_pos h]; rfl
    · rw [if_neg h, if_neg h]; rfl
  | .cons s r, n => by
    obtain ⟨h1, h2⟩ := way_put (m := m) r (putS m s (n - 1)).2
    simp only [putB, stms, way]
    refine ⟨?_, h2⟩
    by_cases h : n = 0
    · rw [if_pos h, if_pos h]
      show m :: (putS m s (n - 1)).1 :: stms _ = _
      rw [h1]
      rfl
    · rw [if_neg h, if_neg h]
      show (putS m s (n - 1)).1 :: stms _ = _
      rw [h1]
      rfl
theorem hS_bks {s : Stm} {b : Blk} (h : b ∈ bks s) : hB b + 1 ≤ hS s := by
  cases s with
  | mk w x r hw => cases h
  | no w r hw => cases h
  | fn x ps c => rw [List.mem_singleton.mp h, hS]; omega
  | ite a b1 b2 =>
    rw [hS]
    simp only [bks, List.mem_cons, List.not_mem_nil, or_false] at h
    rcases h with e | e <;> (rw [e]; omega)
  | whl a c => rw [List.mem_singleton.mp h, hS]; omega
  | tms one x a c => rw [List.mem_singleton.mp h, hS]; omega
theorem good_bks {s : Stm} (g : goodS s) {b : Blk} (h : b ∈ bks s) : goodB b := by
  cases s with
  | mk w x r hw => cases h
  | no w r hw => cases h
  | fn x ps c => rw [goodS] at g; rw [List.mem_singleton.mp h]; exact g.2.2.2
  | ite a b1 b2 =>
    rw [goodS] at g
    simp only [bks, List.mem_cons, List.not_mem_nil, or_false] at h
    rcases h with e | e
    · rw [e]; exact g.2.1
    · rw [e]; exact g.2.2
  | whl a c => rw [goodS] at g; rw [List.mem_singleton.mp h]; exact g.2
  | tms one x a c => rw [goodS] at g; rw [List.mem_singleton.mp h]; exact g.2.2
theorem nS_bks {s : Stm} {b : Blk} (h : b ∈ bks s) : nB b ≤ nS s := by
  cases s with
  | mk w x r hw => cases h
  | no w r hw => cases h
  | fn x ps c => rw [List.mem_singleton.mp h, nS]; omega
  | ite a b1 b2 =>
    rw [nS]
    simp only [bks, List.mem_cons, List.not_mem_nil, or_false] at h
    rcases h with e | e <;> (rw [e]; omega)
  | whl a c => rw [List.mem_singleton.mp h, nS]; omega
  | tms one x a c => rw [List.mem_singleton.mp h, nS]; omega
theorem nS_mem : ∀ {b : Blk} {s : Stm}, s ∈ stms b → nS s ≤ nB b
  | .nil, _, h => by cases h
  | .cons x r, s, h => by
    rw [nB]
    rcases List.mem_cons.mp h with e | e
    · rw [e]; omega
    · have := nS_mem e
      omega
theorem stms_len : ∀ b : Blk, (stms b).length ≤ nB b
  | .nil => Nat.le_refl _
  | .cons s r => by
    rw [stms, List.length_cons, nB]
    have := stms_len r
    have : 1 ≤ nS s := by cases s <;> simp only [nS] <;> omega
    omega
theorem way_len {m : Stm} : ∀ (l : List Stm) (n : Int), (way m l n).1.length ≤ 2 * l.length
  | [], _ => Nat.le_refl _
  | s :: r, n => by
    have := way_len (m := m) r (putS m s (n - 1)).2
    show ((if n = 0 then [m] else []) ++ (putS m s (n - 1)).1 :: _).length ≤ 2 * (s :: r).length
    rw [List.length_append, List.length_cons, List.length_cons]
    by_cases h : n = 0
    · rw [if_pos h]; simp only [List.length_cons, List.length_nil]; omega
    · rw [if_neg h]; simp only [List.length_nil]; omega
/-- how many places, as the law sums them -/
def cps (s : Stm) : List Int := (bks s).map fun b => (cpB b : Int)
theorem cps_sum (s : Stm) : (cps s).sum = cpS s := by
  cases s <;> simp [cps, bks, cpS]
theorem cp_sum : ∀ b : Blk, 1 + ((stms b).map fun s => 1 + (cps s).sum).sum = (cpB b : Int)
  | .nil => rfl
  | .cons s r => by
    have := cp_sum r
    rw [stms, List.map_cons, List.sum_cons, cps_sum, cpB]
    omega
end Fb
set_option Elab.async false
set_option linter.all false
set_option maxRecDepth 100000
set_option maxHeartbeats 2000000
namespace VL
open PySem PySem.Spec PyProof.Rows L2
/-! ### bridges -/
theorem fnOk_mono {P : Program} {w : World} {K : PySem.W.Frag} {mg : Str → Option Value} {base : Heap} {CX : CXT} {k : Nat} {f : Addr} {fd : FuncData} {ps : List Str} {sp sp' : Sp} (h : FnOk P w K mg base CX k f fd ps sp) (i : ∀ vs H Q E, sp' vs H Q E → sp vs H Q E) : FnOk P w K mg base CX k f fd ps sp' :=
  ⟨fun vs H Q E z => h.len vs H Q E (i vs H Q E z), fun A outer s H args us vs Q E hr e0 hb r z => h.run A outer s H args us vs Q E hr e0 hb r (i vs H Q E z)⟩
theorem cal_mono {P : Program} {w : World} {K : PySem.W.Frag} {mg : Str → Option Value} {base : Heap} {k : Nat} {x : Str} {sp sp' : Sp} {dvs : List V} (h : C8.Cal P w K mg base k x sp dvs) (i : ∀ vs H Q E, sp' vs H Q E → sp vs H Q E) : C8.Cal P w K mg base k x sp' dvs := by
  obtain ⟨f, fd, ps, ds, F, h⟩ := h.ex
  exact ⟨f, fd, ps, ds, fnOk_mono F i, h⟩
theorem cal_vac {P : Program} {w : World} {K : PySem.W.Frag} {mg : Str → Option Value} {base : Heap} {k : Nat} {x : Str} {st : Stmt} {f : Addr} {fd : FuncData} {ps : List Str} {pM : List Sh} {rsh : Sh} {sp : VSp} (F : L2.Fun K x x st f fd) (gm : mg x = some (.ref f)) (b : Binds K fd ps []) (no : ∀ ds Q Qx, ¬ sp ds Q Qx) : C8.Cal P w K mg base k x (spOf K pM rsh sp) [] :=
  ⟨f, fd, ps, [], ⟨fun vs H Q E h => (let ⟨_, ds, Qv, Qx, _, _, _, _, _, z, _⟩ := h; (no ds Qv Qx z).elim), fun A outer s H args us vs Q E hr e0 hb r h => (let ⟨_, ds, Qv, Qx, _, _, _, _, _, z, _⟩ := h; (no ds Qv Qx z).elim)⟩, gm, F.kp, b, .nil⟩
/-! data that is shown, as data here -/
mutual
def dD : PyData → D
  | .none => .non
  | .bool b => .bl b
  | .int i => .int i
  | .str s => .str s
  | .tuple l => .tup (dDs l)
  | .list l => .lst (dDs l)
  | .dict _ => .non
def dDs : List PyData → List D
  | [] => []
  | d :: ds => dD d :: dDs ds
end
mutual
theorem py_dD : ∀ p : PyData, Fb.noL p = true → py (dD p) = p ∧ plain (dD p) = true
  | .none, _ => by simp [dD, py, plain]
  | .bool b, _ => by simp [dD, py, plain]
  | .int i, _ => by simp [dD, py, plain]
  | .str s, _ => by simp [dD, py, plain]
  | .tuple l, h => by
    have z := pys_dDs l (by simpa [Fb.noL] using h)
    simp [dD, py, plain, z]
  | .list l, h => by simp [Fb.noL] at h
  | .dict l, h => by simp [Fb.noL] at h
theorem pys_dDs : ∀ l : List PyData, Fb.noLs l = true → pys (dDs l) = l ∧ plains (dDs l) = true
  | [], _ => by simp [dDs, pys, plains]
  | d :: ds, h => by
    rw [Fb.noLs, Bool.and_eq_true] at h
    have a := py_dD d h.1
    have b := pys_dDs ds h.2
    simp [dDs, pys, plains, a, b]
end
theorem dDs_map : ∀ l : List PyData, dDs l = l.map dD
  | [] => by rw [dDs]; rfl
  | d :: r => by rw [dDs, dDs_map r]; rfl
section
variable {K : PySem.W.Frag} {ow : Addr → Prop} {H : Hp}
mutual
theorem rs_dp : ∀ (p : PyData) (v : V), Dp K H v p → Fb.noL p = true → RS K ow H (dD p) v
  | .none, _, h, _ => by cases h; rw [dD]; exact rs_non
  | .bool b, _, h, _ => by cases h; rw [dD]; exact rs_bl
  | .int i, _, h, _ => by cases h; rw [dD]; exact rs_int
  | .str s, _, h, _ => by cases h; rw [dD]; exact rs_str
  | .tuple l, _, h, n => by
    cases h with
    | tup a b =>
      rw [dD]
      simp only [RS]
      exact ⟨_, _, rfl, a, rss_dp l _ b (by simpa [Fb.noL] using n)⟩
  | .list l, _, _, n => by simp [Fb.noL] at n
  | .dict l, _, _, n => by simp [Fb.noL] at n
theorem rss_dp : ∀ (l : List PyData) (vs : List V), DpAll K H vs l → Fb.noLs l = true → RSs K ow H (dDs l) vs
  | [], _, h, _ => by cases h; rw [dDs]; exact .nil
  | d :: ds, _, h, n => by
    rw [Fb.noLs, Bool.and_eq_true] at n
    cases h with
    | cons a b =>
      rw [dDs]
      exact .cons (rs_dp d _ a n.1) (rss_dp ds _ b n.2)
end
theorem dp_rs {p : PyData} {v : V} (h : RS K ow H (dD p) v) (n : Fb.noL p = true) : Dp K H v p := by
  have z := py_dD p n
  have y := RS.dp _ _ h z.2
  rw [z.1] at y
  exact y
end
/-- a call without things of the caller's own: what it gives is new or read only -/
theorem spOf_S {K : PySem.W.Frag} {pM : List Sh} {rsh : Sh} {sp : VSp} {vs : List V} {H : Hp} {Q : VK} {E : XK} (h : spOf K pM rsh sp vs H Q E) : ∃ (ow : Addr → Prop) (ds : List D) (Qv : D → Env → Prop) (Qx : Exn → Env → Prop), (∀ sh ∈ pM, sh = .s) → RSs K ow H ds vs ∧ ds.length = pM.length ∧ sp ds Qv Qx ∧
    (∀ v r fp H', Same H H' → fp.Nodup → (∀ a ∈ fp, H a = none) → (∀ ow', (∀ a, ow' a → ow a ∨ a ∈ fp) → RO K ow' H' r rsh v fp) → Qv r (List.replicate pM.length none) → Q v H') := by
  obtain ⟨c, ds, Qv, Qx, rfl, rfl, rfl, h4, ⟨hdl, fT, fV, hX⟩, hs, hq, he⟩ := h
  refine ⟨owOf c fT fV, ds, Qv, Qx, fun hall => ?_⟩
  have svr := hX.vr.strict (by rw [List.length_map]; exact hdl)
  have hlen := svr.len
  rw [List.length_map, List.length_map] at hlen
  have key : ∀ (M : List Sh) (vs : List V) (ds : List D) (fp : List Addr), (∀ sh ∈ M, sh = .s) → RV c.K (owOf c fT fV) c.H0 M (vs.map some) (ds.map some) fp → RSs c.K (owOf c fT fV) c.H0 ds vs := fun M => by
    induction M with
    | nil =>
      rintro vs ds fp _ ⟨a, b, _⟩
      cases vs with
      | nil =>
        cases ds with
        | nil => exact .nil
        | cons _ _ => cases b
      | cons _ _ => cases a
    | cons sh M ih =>
      rintro vs ds fp hs ⟨x, σ', y, e', g1, g2, e1, e2, e3, h1, h3⟩
      cases vs with
      | nil => cases e1
      | cons v vs =>
        cases ds with
        | nil => cases e2
        | cons d ds =>
          rw [List.map_cons] at e1 e2
          cases e1
          cases e2
          have e := hs sh List.mem_cons_self
          subst e
          obtain ⟨u, eu, r⟩ := h1
          cases eu
          exact .cons (RO_s.mp r).2 (ih vs ds g2 (fun sh z => hs sh (List.mem_cons_of_mem _ z)) h3)
  refine ⟨key _ _ _ _ hall svr, hlen.2, hs, fun v r fp H' sm nd fr ro q => hq v r _ H' (by simp) ?_ q⟩
  have hfT : fT = [] := hX.tm
  subst hfT
  have hfV : fV = [] := RV.fpS hall svr
  subst hfV
  have X2 := hX.pushO sm nd fr (sh := rsh) (v := v) (d := r) (ro _ fun a z => by
    rcases z with z | z
    · right
      simpa using z
    · left
      exact .inr z)
  refine ⟨_, _, X2.tm, ?_, X2.nd, X2.fr, X2.kp, X2.tp, X2.al, X2.ok, X2.rt⟩
  have nn : ∀ (M : List Sh) (vs : List V), vs.length = M.length → (∀ sh ∈ M, sh = .s) → RV c.K (owOf c (fp ++ []) []) H' M (vs.map some) (List.replicate M.length none) [] := fun M => by
    induction M with
    | nil =>
      intro vs hl _
      cases vs with
      | nil => exact ⟨rfl, rfl, rfl⟩
      | cons _ _ => cases hl
    | cons sh M ih =>
      intro vs hl hs
      cases vs with
      | nil => cases hl
      | cons v vs => exact ⟨some v, vs.map some, none, _, [], [], rfl, rfl, rfl, rfl, ih vs (Nat.succ.inj hl) fun sh z => hs sh (List.mem_cons_of_mem _ z)⟩
  exact .of (nn c.M vs hlen.1 hall)
end VL
set_option Elab.async false
set_option linter.all false
set_option maxRecDepth 100000
set_option maxHeartbeats 2000000
namespace VL
open PySem PySem.Spec PyProof.Rows L2
/-- a promise whose first parameter is the caller's own -/
theorem spOf_io1 {K : PySem.W.Frag} {sh : Sh} {Ms : List Sh} {rsh : Sh} {sp : VSp} {vs : List V} {H : Hp} {Q : VK} {E : XK} (h : spOf K (sh :: Ms) rsh sp vs H Q E) (hs : ∀ s ∈ Ms, s = .s) (hns : isS sh = false) :
    ∃ (ow : Addr → Prop) (v0 : V) (ws : List V) (d0 : D) (ds : List D) (fp : List Addr) (Qv : D → Env → Prop) (Qx : Exn → Env → Prop), vs = v0 :: ws ∧ RO K ow H d0 sh v0 fp ∧ RSs K ow H ds ws ∧ fp.Nodup ∧ (∀ a ∈ fp, ow a) ∧ ds.length = Ms.length ∧ sp (d0 :: ds) Qv Qx ∧
      ∀ (v : V) (r d' : D) (fp' fpr : List Addr) (H' : Hp), (∀ b o, H b = some o → b ∉ fp → H' b = some o) → ExtT H H' → (∀ b, H b ≠ none → H' b ≠ none) → (fpr ++ fp').Nodup → (∀ a ∈ fpr ++ fp', a ∈ fp ∨ H a = none) → (∀ ow', (∀ a, ow' a → ow a ∨ H a = none) → RO K ow' H' d' sh v0 fp') → (∀ ow', (∀ a, ow' a → ow a ∨ H a = none) → RO K ow' H' r rsh v fpr) →
        Qv r (some d' :: List.replicate Ms.length none) → Q v H' := by
  obtain ⟨c, ds, Qv, Qx, rfl, hM, rfl, h4, ⟨hdl, fT, fV, hX⟩, hsp, hq, he⟩ := h
  have svr := hX.vr.strict (by rw [List.length_map, hM]; exact hdl)
  have hlen := svr.len
  rw [List.length_map, List.length_map, hM] at hlen
  have hfT : fT = [] := hX.tm
  subst hfT
  have vr := svr
  rw [hM] at vr
  obtain ⟨x, σ', y, e', f1, f2, e1, e2, e3, h1, h3⟩ := vr
  cases vs with
  | nil => cases e1
  | cons v0 ws =>
    cases ds with
    | nil => cases e2
    | cons d0 ds =>
      rw [List.map_cons] at e1 e2
      cases e1
      cases e2
      obtain ⟨u, eu, ro⟩ := h1
      cases eu
      have hf2 := RV.fpS hs h3
      subst hf2
      rw [List.append_nil] at e3
      subst e3
      have key : ∀ (M : List Sh) (vs : List V) (ds : List D) (fp : List Addr), (∀ sh ∈ M, sh = .s) → RV c.K (owOf c [] fV) c.H0 M (vs.map some) (ds.map some) fp → RSs c.K (owOf c [] fV) c.H0 ds vs := fun M => by
        induction M with
        | nil =>
          rintro vs ds fp _ ⟨a, b, _⟩
          cases vs with
          | nil =>
            cases ds with
            | nil => exact .nil
            | cons _ _ => cases b
          | cons _ _ => cases a
        | cons sh M ih =>
          rintro vs ds fp hs ⟨x, σ', y, e', g1, g2, e1, e2, e3, h1, h3⟩
          cases vs with
          | nil => cases e1
          | cons v vs =>
            cases ds with
            | nil => cases e2
            | cons d ds =>
              rw [List.map_cons] at e1 e2
              cases e1
              cases e2
              have e := hs sh List.mem_cons_self
              subst e
              obtain ⟨u, eu, r⟩ := h1
              cases eu
              exact .cons (RO_s.mp r).2 (ih vs ds g2 (fun sh z => hs sh (List.mem_cons_of_mem _ z)) h3)
      have nd := hX.nd
      rw [List.nil_append] at nd
      refine ⟨owOf c [] fV, v0, ws, d0, ds, fV, Qv, Qx, rfl, ro, key _ _ _ _ hs h3, nd, fun a z => .inl z, Nat.succ.inj hlen.2, hsp, fun v r d' fp' fpr H' hk hT hal nd' hf' ro' rr q => hq v r _ H' (by simp) ?_ q⟩
      have how : ∀ a, owOf c fpr fp' a → owOf c [] fV a ∨ c.H0 a = none := fun a z => by
        rcases z with z | z
        · rcases hf' a z with w | w
          · exact .inl (.inl w)
          · exact .inr w
        · exact .inl (.inr z)
      have nn : ∀ (M : List Sh) (vs : List V), vs.length = M.length → RV c.K (owOf c fpr fp') H' M (vs.map some) (List.replicate M.length none) [] := fun M => by
        induction M with
        | nil =>
          intro vs hl
          cases vs with
          | nil => exact ⟨rfl, rfl, rfl⟩
          | cons _ _ => cases hl
        | cons sh M ih =>
          intro vs hl
          cases vs with
          | nil => cases hl
          | cons v vs => exact ⟨some v, vs.map some, none, _, [], [], rfl, rfl, rfl, rfl, ih vs (Nat.succ.inj hl)⟩
      have vr' : RV c.K (owOf c fpr fp') H' (sh :: Ms) ((v0 :: ws).map some) (some d' :: List.replicate Ms.length none) fp' := ⟨some v0, ws.map some, some d', _, fp', [], rfl, rfl, by rw [List.append_nil], ⟨v0, rfl, ro' _ how⟩, nn Ms ws (Nat.succ.inj hlen.1)⟩
      have io0 : ∀ a ∈ fV, c.io a := fun a z => by
        rcases hX.fr a (by rw [List.nil_append]; exact z) with w | w
        · exact w
        · obtain ⟨o, u, _⟩ := hX.at a (by rw [List.nil_append]; exact z)
          rw [w] at u
          cases u
      refine ⟨fpr, fp', ⟨fpr, [], by rw [List.append_nil], rr _ how, rfl⟩, by rw [hM]; exact .of vr', nd', fun a z => ?_, fun b o z n => hk b o z fun y => n (io0 b y), hT, hal, hX.ok, hX.rt⟩
      rcases hf' a z with w | w
      · exact .inl (io0 a w)
      · exact .inr w
/-! ### the deal -/
def dealSh : Sh := .d fun k => if k = .inr "left" then .l .s else .s
def dealK : List Key := [.inr "seed", .inr "number", .inr "left"]
def dealV (s n : Int) (ns : List Int) : D := .dct dealK [.int s, .int n, .lst (ns.map D.int)]
def dealOk (s n : Int) (ns : List Int) : Prop := 0 ≤ s ∧ s < 2147483648 ∧ 0 ≤ n ∧ ∀ x ∈ ns, 0 < x
theorem rs_ints {K : PySem.W.Frag} {ow : Addr → Prop} {H : Hp} : ∀ ns : List Int, RSs K ow H (ns.map D.int) (ns.map V.int)
  | [] => .nil
  | _ :: ns => .cons rs_int (rs_ints ns)
theorem RO_deal {K : PySem.W.Frag} {ow : Addr → Prop} {H : Hp} {s n : Int} {ns : List Int} {v : V} {fp : List Addr} : RO K ow H (dealV s n ns) dealSh v fp ↔ ∃ d l, v = .ref d ∧ H d = some (.dK (Fb.dealD s n l)) ∧ H l = some (.lst (ns.map V.int)) ∧ fp = [d, l] := by
  have n1 : ¬ (Fb.kx "seed" = Fb.kx "left") := Fb.ne_sl
  have n2 : ¬ (Fb.kx "number" = Fb.kx "left") := Fb.ne_nl
  unfold dealV dealSh
  simp only [RO, dealK, List.map_cons, List.map_nil]
  rw [if_neg n1, if_neg n2, if_pos trivial]
  constructor
  · rintro ⟨a, vs, fps, rfl, q, hl, t, rfl⟩
    simp only [ROs] at t
    obtain ⟨s1, t1, v1, r1, f1, g1, a1, b1, c1, h1, s2, t2, v2, r2, f2, g2, a2, b2, c2, h2, s3, t3, v3, r3, f3, g3, a3, b3, c3, h3, a4, b4, c4⟩ := t
    cases a1
    cases a2
    cases a3
    subst b1 b2 b3 b4 c1 c2 c3 c4
    have h1 := RO_s.mp h1
    have h2 := RO_s.mp h2
    obtain ⟨z1, z2⟩ := h1
    obtain ⟨z3, z4⟩ := h2
    subst z1 z3
    have e1 := z2.b.int
    have e2 := z4.b.int
    subst e1 e2
    obtain ⟨l, a', ws, el, ea, ha, rs, ef⟩ := RO_l.mp h3
    cases el
    subst ea ef
    have ew := rs.ints
    subst ew
    exact ⟨a, a', rfl, q, ha, rfl⟩
  · rintro ⟨d, l, rfl, hd, hl, rfl⟩
    refine ⟨d, [.int s, .int n, .ref l], [l], rfl, hd, rfl, ?_, rfl⟩
    simp only [ROs]
    exact ⟨.s, _, _, _, [], [l], rfl, rfl, rfl, RO_s.mpr ⟨rfl, rs_int⟩, .s, _, _, _, [], [l], rfl, rfl, rfl, RO_s.mpr ⟨rfl, rs_int⟩, .l .s, _, _, _, [l], [], rfl, rfl, rfl, RO_l.mpr ⟨_, l, _, rfl, rfl, hl, rs_ints ns, rfl⟩, rfl, rfl, rfl⟩
def vpDraw : VSp := fun ds Q _ => ∃ s n ns many, ds = [dealV s n ns, .int many] ∧ dealOk s n ns ∧ 0 < many ∧ many < 4611686018427387904 ∧ ∀ r s' n' ns', 0 ≤ r → r < many → dealOk s' n' ns' → Q (.int r) [some (dealV s' n' ns'), none]
def vpDeal : VSp := fun ds Q _ => ∃ ns : List Int, ds = [.lst (ns.map D.int)] ∧ ns.length ≤ 63 ∧ ∀ s n ls, dealOk s n ls → Q (dealV s n ls) [none]
section
variable {P : Program} {w : World} {K : PySem.W.Frag} {mg : Str → Option Value} {base : Heap} {k : Nat}
theorem keep_frame {H H' : Hp} {d l : Addr} (k : Fb.Keep d l H H') : ∀ b o, H b = some o → b ∉ [d, l] → H' b = some o := fun b o e n => by
  simp only [List.mem_cons, List.not_mem_nil, or_false, not_or] at n
  exact k b o e n.1 n.2
theorem keep_ext {H H' : Hp} {d l : Addr} {s n : Int} {ns : List Int} (D : Fb.DealX H d l s n ns) (k : Fb.Keep d l H H') : ExtT H H' := fun b o e f => by
  refine k b o e (fun q => ?_) (fun q => ?_)
  · subst q
    rw [D.1] at e
    cases e
    exact f
  · subst q
    rw [D.2.1] at e
    cases e
    exact f
theorem keep_al {H H' : Hp} {d l : Addr} {s' n' : Int} {ns' : List Int} (D' : Fb.DealX H' d l s' n' ns') (k : Fb.Keep d l H H') : ∀ b, H b ≠ none → H' b ≠ none := fun b q => by
  by_cases e1 : b = d
  · rw [e1, D'.1]; simp
  · by_cases e2 : b = l
    · rw [e2, D'.2.1]; simp
    · cases z : H b with
      | none => exact absurd z q
      | some o => rw [k b o z e1 e2]; simp
theorem v_draw (h : C8.Cal P w K mg base k "_law_draw" Fb.spDraw []) : C8.Cal P w K mg base k "_law_draw" (spOf K [dealSh, .s] .s vpDraw) [] := cal_mono h fun vs H Q E h => by
  obtain ⟨ow, v0, ws, d0, ds, fp, Qv, Qx, rfl, ro, rs, nd, how, hl, ⟨s, n, ns, many, ed, ok, h0, h1, q⟩, kk⟩ := spOf_io1 h (by simp) rfl
  injection ed with e1 e2
  subst e1 e2
  have ew := rs.i1
  subst ew
  obtain ⟨d, l, rfl, hd, hll, rfl⟩ := RO_deal.mp ro
  refine ⟨d, l, many, rfl, ⟨s, n, ns, hd, hll, ok⟩, h0, h1, fun r H' r0 r1 D' K' => ?_⟩
  obtain ⟨s', n', ns', dx⟩ := D'
  refine kk (.int r) (.int r) (dealV s' n' ns') [d, l] [] H' (keep_frame K') (keep_ext ⟨hd, hll, ok⟩ K') (keep_al dx K') (by simpa using nd) (fun a z => .inl z) (fun ow' _ => RO_deal.mpr ⟨d, l, rfl, dx.1, dx.2.1, rfl⟩) (fun ow' _ => RO_s.mpr ⟨rfl, rs_int⟩) (q r s' n' ns' r0 r1 dx.2.2)
theorem v_deal (h : C8.Cal P w K mg base k "_law_deal" (Fb.spDeal K) []) : C8.Cal P w K mg base k "_law_deal" (spOf K [.s] dealSh vpDeal) [] := cal_mono h fun vs H Q E h => by
  obtain ⟨ow, ds, Qv, Qx, kk⟩ := spOf_S h
  obtain ⟨rs, hl, ⟨ns, rfl, hn, q⟩, k2⟩ := kk (by simp)
  simp only [RSs] at rs
  obtain ⟨v, r, rfl, rv, rfl⟩ := rs
  obtain ⟨a, ws, rfl, sq, rw⟩ := rv.b.lst
  have ew := rw.ints
  subst ew
  refine ⟨a, ns, rfl, sq.sq, hn, fun d l H' nd nl D' sm => ?_⟩
  obtain ⟨s', n', ns', dx⟩ := D'
  refine k2 (.ref d) (dealV s' n' ns') [d, l] H' sm ?_ (fun a z => ?_) (fun ow' _ => RO_deal.mpr ⟨d, l, rfl, dx.1, dx.2.1, rfl⟩) (q s' n' ns' dx.2.2)
  · simp [dx.ne]
  · simp only [List.mem_cons, List.not_mem_nil, or_false] at z
    rcases z with z | z <;> (rw [z]; assumption)
end
/-! a list that a def of the program tells of a program -/
open Fb in
theorem v_rows {P : Program} {w : World} {K : PySem.W.Frag} {mg : Str → Option Value} {base : Heap} {k : Nat} {x : Str} {okP : Blk → Prop} {g : Blk → List PyData} (hg : ∀ b, okP b → goodB b)
    (h : C8.Cal P w K mg base k x (fun vs H Q _ => ∃ (v : V) (b : Blk), vs = [v] ∧ Dp K H v (.tuple (dB b)) ∧ okP b ∧ ∀ l H', Rw K H' l (g b) → H l = none → Same H H' → Q (.ref l) H') []) :
    C8.Cal P w K mg base k x (spOf K [.s] (.l .s) fun ds Q _ => ∃ b, ds = [dD (.tuple (dB b))] ∧ okP b ∧ (noLs (g b) = true → Q (.lst (dDs (g b))) [none])) [] := cal_mono h fun vs H Q E h => by
  obtain ⟨ow, ds, Qv, Qx, kk⟩ := spOf_S h
  obtain ⟨rs, hl, ⟨b, rfl, ok, q⟩, k2⟩ := kk (by simp)
  simp only [RSs] at rs
  obtain ⟨v, r, rfl, rv, rfl⟩ := rs
  refine ⟨v, b, rfl, dp_rs rv (noL_blk (hg b ok)), ok, fun l H' rw' nl sm => ?_⟩
  obtain ⟨us, hu, du, nu⟩ := rw'
  exact k2 (.ref l) _ [l] H' sm (by simp) (fun a z => by rw [List.mem_singleton.mp z]; exact nl) (fun ow' _ => RO_l.mpr ⟨_, l, us, rfl, rfl, hu, rss_dp _ _ du nu, rfl⟩) (q nu)
end VL
set_option Elab.async false
set_option linter.all false
set_option maxRecDepth 100000
set_option maxHeartbeats 2000000
namespace VL
open PySem PySem.Spec PyProof.Rows L2
/-! ### promises with the things that several hold -/
def spA (K : PySem.W.Frag) (pM : List Sh) (rsh : Sh) (sp : VSp) : Sp := fun vs H Q E => ∃ (c : Vc) (ds : List D) (al : List Addr) (l : List D) (Qv : D → Env → Prop) (Qx : Exn → Env → Prop), c.K = K ∧ c.M = pM ∧ c.H0 = H ∧ c.rt = roots pM 0 vs ∧ (ds.length = pM.length ∧ R c [] (vs.map some) (ds.map some ++ [some (.mem al l)]) H) ∧ sp (ds ++ [.mem al l]) Qv Qx ∧
  (∀ v r ps H', R c [(rsh, v, r)] (vs.map some) ps H' → Qv r ps → Q v H') ∧ (∀ x d ps H', R c [] (vs.map some) ps H' → XAt H' x d → Qx x ps → E (.ref x.C) d H')
theorem spA.len {K : PySem.W.Frag} {pM : List Sh} {rsh : Sh} {sp : VSp} {vs : List V} {H : Hp} {Q : VK} {E : XK} (h : spA K pM rsh sp vs H Q E) : vs.length = pM.length := by
  obtain ⟨c, ds, al, l, Qv, Qx, h1, h2, h3, h4, ⟨_, h5⟩, _⟩ := h
  have z := h5.len.1
  rw [List.length_map, h2] at z
  exact z
def ioA (pM : List Sh) (n : Nat) (e : Env) : Env := ioP pM e ++ e.drop n
/-- a def by its body -/
theorem fn_runA {K : PySem.W.Frag} {pM M2 : List Sh} {rsh : Sh} {sp : VSp} {W : XW} {exV : (Exn → Env → Prop) → QX} {ts : TS} {f : VTS} {N : List Str} {vs : List V} {H : Hp} {Q : VK} {E : XK} (hN : N.length = (pM ++ M2).length)
    (hb : ∀ (H0 : Hp) (io av : Addr → Prop) (rt : List (Nat × V)), (∀ i, i ∉ ioIx pM 0 → ∀ p ∈ rt, p.1 ≠ i) → VS ⟨K, H0, io, av, pM ++ M2, rt⟩ W rsh ts f)
    (hx : ∀ (Qx : Exn → Env → Prop) (c : Vc) (T : List Tm) (x : Exn) (d : Option Addr) (σ : L2.St) (e : Env) (H' : Hp), c.M = pM ++ M2 → R c T σ e H' → XAt H' x d → exV Qx x e → (∀ ps, ps = ioA pM (pM ++ M2).length e → Qx x ps → E (.ref x.C) d H') → W (.ref x.C) d σ H')
    (hsp : ∀ (ds : List D) (al : List Addr) (l : List D) (Qv : D → Env → Prop) (Qx : Exn → Env → Prop), ds.length = pM.length → sp (ds ++ [.mem al l]) Qv Qx → f ⟨fun e => rsh = .s ∧ Qv .non (ioA pM (pM ++ M2).length e), fun r e => Qv r (ioA pM (pM ++ M2).length e), fun _ => False, fun _ => False, exV Qx⟩ (ds.map some ++ (nones M2 ++ [some (.mem al l)])))
    (h : spA K pM rsh sp vs H Q E) : ts { nx := fun _ H' => Q .non H', rt := Q } (L2.start N vs) H := by
  have hl := h.len
  obtain ⟨c, ds, al, l, Qv, Qx, rfl, rfl, rfl, h4, ⟨hdl, fT, fV, hX⟩, hs, hq, he⟩ := h
  have hr : ∀ i, i ∉ ioIx c.M 0 → ∀ p ∈ c.rt, p.1 ≠ i := fun i hi p hp z => hi (by
    rw [h4] at hp
    rw [← z]
    exact roots_ix _ _ _ p hp)
  have hst : L2.start N vs = vs.map some ++ List.replicate M2.length none := by
    unfold L2.start
    rw [hN, List.length_append, hl]
    congr 2
    omega
  have hfT : fT = [] := hX.tm
  subst hfT
  have hml : (ds.map some : Env).length = c.M.length := by rw [List.length_map]; exact hdl
  obtain ⟨e0, f0, ee, l0, ef, rv0, rm⟩ := hX.memAt (as := al) (l := l) (by rw [List.getElem?_append_right (by omega), hml, Nat.sub_self]; rfl)
  obtain ⟨ee, -⟩ := List.append_inj ee (by omega)
  subst ee ef
  have start' : R ⟨c.K, c.H0, c.io, c.av, c.M ++ M2, c.rt⟩ [] (vs.map some ++ List.replicate M2.length none) (ds.map some ++ (List.replicate M2.length none ++ [some (.mem al l)])) c.H0 := by
    refine ⟨[], f0 ++ al, rfl, ?_, hX.nd, hX.fr, hX.kp, hX.tp, hX.al, hX.ok, fun p hp => ?_⟩
    · have z := RV.app (RV.nones (K := c.K) (ow := owOf c [] (f0 ++ al)) (H := c.H0) M2) rv0
      rw [List.append_nil] at z
      exact ⟨_, [some (.mem al l)], f0, al, by rw [List.append_assoc], rfl, z, rfl, rm⟩
    · have z := hX.rt p hp
      rw [List.getElem?_append_left ((List.getElem?_eq_some_iff.mp z).1)]
      exact z
  have back : ∀ {T : List Tm} {σ : L2.St} {e : Env} {H' : Hp}, R ⟨c.K, c.H0, c.io, c.av, c.M ++ M2, c.rt⟩ T σ e H' → R c T (vs.map some) (ioA c.M (c.M ++ M2).length e) H' := by
    rintro T σ e H' ⟨gT, gV, Y⟩
    obtain ⟨e0, tl, g0, gt, ee, eg, rv, tt⟩ := Y.vr
    subst ee eg
    have le0 := rv.len
    obtain ⟨σ1, σ2, e1, e2, f1, f2, a, b, cc, h6, h7⟩ := RV.unapp rv
    subst a b cc
    have sub : ∀ x, x ∈ gT ++ (f1 ++ gt) → x ∈ gT ++ ((f1 ++ f2) ++ gt) := fun x z => by
      simp only [List.mem_append] at z ⊢
      rcases z with z | z | z <;> simp [z]
    have how : ∀ x, owOf c gT (f1 ++ gt) x → owOf ⟨c.K, c.H0, c.io, c.av, c.M ++ M2, c.rt⟩ gT ((f1 ++ f2) ++ gt) x ∨ H' x = none := fun x z => by
      rcases z with z | z
      · exact .inl (.inl (sub x z))
      · exact .inl (.inr z)
    have l1 := h6.len
    have ed : ((e1 ++ e2) ++ tl).drop (c.M ++ M2).length = tl := List.drop_left' le0.2
    unfold ioA
    rw [ed, List.append_assoc, ioP_app l1.2]
    refine ⟨gT, f1 ++ gt, Y.tm.fr (fun _ _ q _ => q) (ExtT.refl H') how (fun _ _ _ q => q), ⟨_, tl, f1, gt, rfl, rfl, ?_, tt.fr (fun _ _ q _ => q) (ExtT.refl H') how (fun _ _ _ q => q)⟩, ?_, fun x z => Y.fr x (sub x z), Y.kp, Y.tp, Y.al, Y.ok, fun p hp => ?_⟩
    · refine RV.io (n := 0) (h6.fr (fun _ _ q _ => q) (ExtT.refl H') how (fun _ _ _ q => q)) hl fun p hp => ?_
      have z := Y.rt p (by rw [h4]; exact hp)
      obtain ⟨j, a, b⟩ := roots_at _ _ _ p hp
      refine ⟨j, a, ?_⟩
      rw [Nat.zero_add] at a
      rw [a, List.getElem?_append_left (by
        rw [l1.1, ← hl]
        exact (List.getElem?_eq_some_iff.mp b).1)] at z
      exact z
    · have p1 : List.Perm (gT ++ ((f1 ++ f2) ++ gt)) (f2 ++ (gT ++ (f1 ++ gt))) := by
        rw [List.perm_iff_count]
        intro a
        simp only [List.count_append]
        omega
      exact (List.nodup_append.mp (p1.nodup Y.nd)).2.1
    · have hp' := hp
      rw [h4] at hp'
      obtain ⟨j, a, b⟩ := roots_at _ _ _ p hp'
      rw [Nat.zero_add] at a
      rw [a, List.getElem?_map, b]
      rfl
  rw [hst]
  have hsp' := hsp ds al l Qv Qx hdl hs
  rw [nones_eq] at hsp'
  refine hb c.H0 c.io c.av c.rt hr [] _ _ c.H0 _ _ start' hsp' ⟨fun σ e H' r q => ?_, fun v d σ e H' r q => hq v d _ H' (back r) q, fun _ _ _ _ q => q.elim, fun _ _ _ _ q => q.elim, fun x d σ e H' r y q => hx Qx _ _ x d σ e H' rfl r y q fun ps ep z => ?_⟩
  · obtain ⟨e1, q⟩ := q
    subst e1
    obtain ⟨gT, gV, Y⟩ := r
    exact hq .non .non _ H' (back ⟨gT, gV, Y.pushS rs_non⟩) q
  · subst ep
    exact he x d _ H' (back r) y z
theorem fn_runA0 {K : PySem.W.Frag} {pM M2 : List Sh} {rsh : Sh} {sp : VSp} {ts : TS} {f : VTS} {N : List Str} {vs : List V} {H : Hp} {Q : VK} {E : XK} (hN : N.length = (pM ++ M2).length)
    (hb : ∀ (H0 : Hp) (io av : Addr → Prop) (rt : List (Nat × V)), (∀ i, i ∉ ioIx pM 0 → ∀ p ∈ rt, p.1 ≠ i) → VS ⟨K, H0, io, av, pM ++ M2, rt⟩ W0 rsh ts f)
    (hsp : ∀ (ds : List D) (al : List Addr) (l : List D) (Qv : D → Env → Prop) (Qx : Exn → Env → Prop), ds.length = pM.length → sp (ds ++ [.mem al l]) Qv Qx → f ⟨fun e => rsh = .s ∧ Qv .non (ioA pM (pM ++ M2).length e), fun r e => Qv r (ioA pM (pM ++ M2).length e), fun _ => False, fun _ => False, fun _ _ => False⟩ (ds.map some ++ (nones M2 ++ [some (.mem al l)])))
    (h : spA K pM rsh sp vs H Q E) : ts { nx := fun _ H' => Q .non H', rt := Q } (L2.start N vs) H :=
  fn_runA (exV := fun _ _ _ => False) hN hb (fun _ _ _ _ _ _ _ _ _ _ _ z => z.elim) hsp h
/-! ### calls of such defs -/
def putA (n k : Nat) (as : List (Option Nat)) (ps e : Env) : Env := (giveE as ps (wipeIO as e)).set n (ps[k]?).join
section
variable {c : Vc} {T : List Tm} {σ : L2.St} {e : Env} {H1 : Hp}
theorem wipeIO_app {e1 : Env} {y : Option D} {M : List Sh} : ∀ {as : List (Option Nat)} {pM : List Sh}, e1.length = M.length → ShOk M as pM → ∃ e2, wipeIO as (e1 ++ [y]) = e2 ++ [y] ∧ e2.length = M.length
  | [], _, hl, _ => ⟨e1, rfl, hl⟩
  | none :: as, [], _, hs => by simp only [ShOk] at hs
  | some i :: as, [], _, hs => by simp only [ShOk] at hs
  | none :: as, sh :: pM, hl, ⟨_, hs⟩ => wipeIO_app (as := as) hl hs
  | some i :: as, sh :: pM, hl, ⟨hM, _, _, hs⟩ => by
    obtain ⟨e2, h1, h2⟩ := wipeIO_app (as := as) hl hs
    have hi : i < e2.length := by
      rw [h2]
      exact (List.getElem?_eq_some_iff.mp hM).1
    exact ⟨e2.set i none, by show (wipeIO as (e1 ++ [y])).set i none = _; rw [h1, List.set_append_left _ _ hi], by rw [List.length_set]; exact h2⟩
theorem giveE_set {n : Nat} {x : Option D} {M : List Sh} (hn : n = M.length) : ∀ {as : List (Option Nat)} {pM : List Sh} {ps e : Env}, ShOk M as pM → giveE as ps (e.set n x) = (giveE as ps e).set n x
  | [], _, ps, e, _ => by simp
  | none :: as, [], _, _, hs => by simp only [ShOk] at hs
  | some i :: as, [], _, _, hs => by simp only [ShOk] at hs
  | none :: as, sh :: pM, [], e, hs => rfl
  | some i :: as, sh :: pM, [], e, hs => rfl
  | none :: as, sh :: pM, y :: ps, e, ⟨_, hs⟩ => giveE_set hn (as := as) (ps := ps) hs
  | some i :: as, sh :: pM, none :: ps, e, ⟨_, _, _, hs⟩ => giveE_set hn (as := as) (ps := ps) hs
  | some i :: as, sh :: pM, some d :: ps, e, ⟨hM, _, _, hs⟩ => by
    have hi : i ≠ n := by
      have := (List.getElem?_eq_some_iff.mp hM).1
      omega
    simp only [giveE]
    rw [List.set_comm _ _ hi.symm]
    exact giveE_set hn (as := as) (ps := ps) hs
theorem giveE_app {tl : Env} {M : List Sh} : ∀ {as : List (Option Nat)} {pM : List Sh} {ps e : Env}, ShOk M as pM → ps.length = pM.length → giveE as (ps ++ tl) e = giveE as ps e
  | [], [], ps, e, _, hl => by simp
  | [], _ :: _, _, _, hs, _ => by simp only [ShOk] at hs
  | none :: as, [], _, _, hs, _ => by simp only [ShOk] at hs
  | some i :: as, [], _, _, hs, _ => by simp only [ShOk] at hs
  | _ :: as, sh :: pM, [], e, hs, hl => by cases hl
  | none :: as, sh :: pM, y :: ps, e, ⟨_, hs⟩, hl => giveE_app (as := as) (ps := ps) hs (Nat.succ.inj hl)
  | some i :: as, sh :: pM, none :: ps, e, ⟨_, _, _, hs⟩, hl => giveE_app (as := as) (ps := ps) hs (Nat.succ.inj hl)
  | some i :: as, sh :: pM, some d :: ps, e, ⟨hM, _, _, hs⟩, hl => giveE_app (as := as) (ps := ps) hs (Nat.succ.inj hl)
theorem spA_use {pM : List Sh} {rsh : Sh} {sp : VSp} {as : List (Option Nat)} {fT fV : List Addr} {vs : List V} {ds full : List D} {Q : VK} {E : XK} {al : List Addr} {l : List D} {Qv : QV} {Qx : QX} (X1 : RX c fT fV T σ e H1) (av : ArgV c.K (owOf c fT fV) H1 σ as vs ds) (hfl : fill as ds e = some full) (hs : ShOk c.M as pM)
    (hm : e[c.M.length]? = some (some (.mem al l))) (q : sp (full ++ [.mem al l]) (fun r ps => Qv r (putA c.M.length pM.length as ps e)) (fun x ps => Qx x (putA c.M.length pM.length as ps e)))
    (hn : ∀ v r e' H', R c ((rsh, v, r) :: T) σ e' H' → Qv r e' → Q v H') (hx : ∀ x d e' H', R c T σ e' H' → XAt H' x d → Qx x e' → E (.ref x.C) d H') : spA c.K pM rsh sp vs H1 Q E := by
  obtain ⟨L, gT, gV, X2, eqv, ar⟩ := takeAll X1 av hfl hs
  obtain ⟨fL, fT0, ef, tL, tT⟩ := X2.tm.unapp
  subst ef
  obtain ⟨e1, g1, ee, le1, -, -, -⟩ := X1.memAt hm
  subst ee
  obtain ⟨e2, ew, le2⟩ := wipeIO_app (y := some (.mem al l)) le1 hs
  rw [ew] at X2
  obtain ⟨e3, gV0, ee, le3, eg, rv0, rm0⟩ := X2.memAt (as := al) (l := l) (by rw [List.getElem?_append_right (by omega), le2, Nat.sub_self]; rfl)
  obtain ⟨ee, -⟩ := List.append_inj ee (by omega)
  subst ee eg
  have nd := X2.nd
  have p0 : List.Perm ((fL ++ fT0) ++ (gV0 ++ al)) ((fL ++ al) ++ (fT0 ++ gV0)) := by
    rw [List.perm_iff_count]
    intro a
    simp only [List.count_append]
    omega
  obtain ⟨ndL, ndR, ndX⟩ := List.nodup_append.mp (p0.nodup nd)
  have inX : ∀ a, a ∈ (fL ++ al) ++ (fT0 ++ gV0) ↔ a ∈ (fL ++ fT0) ++ (gV0 ++ al) := fun a => p0.mem_iff.symm
  have noav : ∀ a ∈ fL ++ al, ¬ c.av a := fun a z y => by
    rcases X2.fr a ((inX a).mp (List.mem_append_left _ z)) with w | w
    · exact (X2.ok a y).2 w
    · exact (X2.ok a y).1 w
  have ow1 : ∀ a, (a ∈ ([] : List Addr) ++ (fL ++ al) ∨ (a ∈ fT0 ++ gV0 ∨ c.av a)) → owOf c (fL ++ fT0) (gV0 ++ al) a := fun a z => by
    rcases z with z | z | z
    · exact .inl ((inX a).mp (List.mem_append_left _ z))
    · exact .inl ((inX a).mp (List.mem_append_right _ z))
    · exact .inr z
  have lfull := (ArgR.rv ar tL).len.2
  rw [List.length_map] at lfull
  have rv := (ArgR.rv ar tL).fr (H' := H1) (ow' := fun a => a ∈ ([] : List Addr) ++ (fL ++ al) ∨ (a ∈ fT0 ++ gV0 ∨ c.av a)) (fun _ _ q _ => q) (ExtT.refl H1) (fun a z => .inl (ow1 a z)) (fun _ _ _ q => q)
  have rm := rm0.fr (H' := H1) (ow' := fun a => a ∈ ([] : List Addr) ++ (fL ++ al) ∨ (a ∈ fT0 ++ gV0 ∨ c.av a)) (fun _ _ q _ => q) (ExtT.refl H1) (fun a z => .inl (ow1 a z)) (fun _ _ _ q => q)
  have main : ∀ (t : Tm) (ps : Env) (H' : Hp), R ⟨c.K, H1, fun a => a ∈ fL ++ al, fun a => a ∈ fT0 ++ gV0 ∨ c.av a, pM, roots pM 0 vs⟩ [t] (vs.map some) ps H' → R c (t :: T) σ (putA c.M.length pM.length as ps (e1 ++ [some (.mem al l)])) H' := by
    rintro t ps H' ⟨kT, kV, Y⟩
    obtain ⟨ps0, tl, k0, kt, ep, ek, rvp, tlp⟩ := Y.vr
    subst ep ek
    have lps : ps0.length = pM.length := rvp.len.2
    have tb := RV.back rvp
    obtain ⟨f1, f2, e2', r1, r2⟩ := Y.tm
    have r2 : f2 = [] := r2
    subst r2
    rw [List.append_nil] at e2'
    subst e2'
    have ow2 : ∀ a, owOf c (kT ++ (k0 ++ fT0)) (gV0 ++ kt) a → (a ∈ kT ++ (k0 ++ kt) ∨ (a ∈ fT0 ++ gV0 ∨ c.av a)) := fun a z => by
      rcases z with z | z
      · simp only [List.mem_append] at z ⊢
        rcases z with (z | z | z) | z | z <;> simp [z]
      · exact .inr (.inr z)
    have ow3 : ∀ a, owOf c (kT ++ (k0 ++ fT0)) (gV0 ++ kt) a → owOf c (fL ++ fT0) (gV0 ++ al) a ∨ H1 a = none := fun a z => by
      rcases ow2 a z with z | z | z
      · rcases Y.fr a z with y | y
        · exact .inl (.inl ((inX a).mp (List.mem_append_left _ y)))
        · exact .inr y
      · exact .inl (.inl ((inX a).mp (List.mem_append_right _ z)))
      · exact .inl (.inr z)
    have kp1 : ∀ b o, H1 b = some o → ¬ owOf c (fL ++ fT0) (gV0 ++ al) b → H' b = some o := fun b o z n => Y.kp b o z fun y => n (.inl ((inX b).mp (List.mem_append_left _ y)))
    have kp2 : ∀ b ∈ fT0 ++ gV0, ∀ o, H1 b = some o → H' b = some o := fun b z o w => Y.kp b o w fun y => ndX b y b z rfl
    have mem1 : RX c (kT ++ (k0 ++ fT0)) (gV0 ++ kt) (t :: (backL pM vs ps0 ++ T)) σ (e2 ++ tl) H' := by
      refine ⟨⟨kT, k0 ++ fT0, rfl, RO.fr (fun _ _ q _ => q) (ExtT.refl H') (fun a z => .inl (ow2 a z)) _ _ _ _ r1 (fun _ _ _ q => q), RT.app (tT.fr kp1 Y.tp ow3 (fun b z => kp2 b (List.mem_append_left _ z))) (tb.fr (fun _ _ q _ => q) (ExtT.refl H') (fun a z => .inl (ow2 a z)) (fun _ _ _ q => q))⟩, ⟨e2, tl, gV0, kt, rfl, rfl, rv0.fr kp1 Y.tp ow3 (fun b z => kp2 b (List.mem_append_right _ z)), tlp.fr (fun _ _ q _ => q) (ExtT.refl H') (fun a z => .inl (ow2 a z)) (fun _ _ _ q => q)⟩, ?_, fun a z => ?_, fun b o q n => ?_, X2.tp.trans Y.tp, fun b q => Y.al b (X2.al b q), X2.ok, X2.rt⟩
      · have nn : ((kT ++ (k0 ++ kt)) ++ (fT0 ++ gV0)).Nodup := List.nodup_append.mpr ⟨Y.nd, ndR, fun a z b y q => by
          subst q
          rcases Y.fr a z with w | w
          · exact ndX a w a y rfl
          · obtain ⟨o, u, _⟩ := X2.at a ((inX a).mp (List.mem_append_right _ y))
            have w : H1 a = none := w
            rw [w] at u
            cases u⟩
        have p1 : List.Perm ((kT ++ (k0 ++ kt)) ++ (fT0 ++ gV0)) ((kT ++ (k0 ++ fT0)) ++ (gV0 ++ kt)) := by
          rw [List.perm_iff_count]
          intro a
          simp only [List.count_append]
          omega
        exact p1.nodup nn
      · have z' : a ∈ kT ++ (k0 ++ kt) ∨ a ∈ fT0 ++ gV0 := by
          simp only [List.mem_append] at z ⊢
          rcases z with (z | z | z) | z | z <;> simp [z]
        rcases z' with z | z
        · rcases Y.fr a z with w | w
          · exact X2.fr a ((inX a).mp (List.mem_append_left _ w))
          · exact .inr (X2.new w).2
        · exact X2.fr a ((inX a).mp (List.mem_append_right _ z))
      · refine Y.kp b o (X2.kp b o q n) fun z => ?_
        rcases X2.fr b ((inX b).mp (List.mem_append_left _ z)) with y | y
        · exact n y
        · rw [y] at q
          cases q
    have fin : ∀ (x : Option D), Tail c.K (owOf c (kT ++ (k0 ++ fT0)) (gV0 ++ kt)) H' [x] kt → R c (t :: (backL pM vs ps0 ++ T)) σ (e2 ++ [x]) H' := fun x z => by
      obtain ⟨e4, tl4, g4, gt4, e5, e6, r4, t4⟩ := mem1.vr
      refine ⟨_, _, mem1.tm, ⟨e2, [x], gV0, kt, rfl, rfl, ?_, z⟩, mem1.nd, mem1.fr, mem1.kp, mem1.tp, mem1.al, mem1.ok, mem1.rt⟩
      exact rv0.fr kp1 Y.tp ow3 (fun b z => kp2 b (List.mem_append_right _ z))
    have hput : putA c.M.length pM.length as (ps0 ++ tl) (e1 ++ [some (.mem al l)]) = giveE as ps0 (e2 ++ [(tl[0]?).join]) := by
      unfold putA
      rw [ew, giveE_app hs lps, ← giveE_set rfl hs, List.set_append_right _ _ (by omega), le2, Nat.sub_self, List.getElem?_append_right (by omega), lps, Nat.sub_self]
      rfl
    rw [hput]
    refine giveAll (ps := ps0) (fin _ ?_) av hs lps
    rcases (tlp.fr (fun _ _ q _ => q) (ExtT.refl H') (fun a z => Or.inl (ow2 a z)) (fun _ _ _ q => q) : Tail c.K (owOf c (kT ++ (k0 ++ fT0)) (gV0 ++ kt)) H' tl kt).cs with ⟨rfl, rfl⟩ | ⟨rfl, rfl⟩ | ⟨as', l', rfl, rfl, r⟩
    · rfl
    · rfl
    · exact ⟨rfl, r⟩
  refine ⟨⟨c.K, H1, fun a => a ∈ fL ++ al, fun a => a ∈ fT0 ++ gV0 ∨ c.av a, pM, roots pM 0 vs⟩, full, al, l, fun r ps => Qv r (putA c.M.length pM.length as ps (e1 ++ [some (.mem al l)])), fun x ps => Qx x (putA c.M.length pM.length as ps (e1 ++ [some (.mem al l)])), rfl, rfl, rfl, rfl, ⟨lfull, [], fL ++ al, rfl, ⟨_, _, fL, al, rfl, rfl, rv, rfl, rm⟩, ndL, fun a z => .inl z, fun b o q _ => q, ExtT.refl H1, fun b q => q, fun a z => ?_, fun p hp => ?_⟩, q, fun v r ps H' Y q => hn v r _ H' (main _ ps H' Y) q, fun x d ps H' Y hX q => ?_⟩
  · rcases z with z | z
    · refine ⟨?_, fun y => ndX a y a z rfl⟩
      obtain ⟨o, w, _⟩ := X2.at a ((inX a).mp (List.mem_append_right _ z))
      show H1 a ≠ none
      rw [w]
      simp
    · exact ⟨X2.avn z, fun y => noav a y z⟩
  · obtain ⟨j, a, b⟩ := roots_at _ _ _ p hp
    rw [Nat.zero_add] at a
    rw [a, List.getElem?_map, b]
    rfl
  · obtain ⟨kT, kV, Y⟩ := Y
    exact hx x d _ H' (main (.s, .non, .non) ps H' ⟨kT, kV, Y.pushS rs_non⟩).pop hX q
variable {W : XW} {tA : TA} {fA : VTA} {as : List (Option Nat)}
def vCallA (n k : Nat) (as : List (Option Nat)) (sp : VSp) (fA : VTA) : VT := fun e Q Qx => fA e (fun ds e1 => ∃ full al l, fill as ds e1 = some full ∧ e1[n]? = some (some (.mem al l)) ∧ sp (full ++ [.mem al l]) (fun r ps => Q r (putA n k as ps e1)) fun _ _ => False) Qx
def vCallAX (n k : Nat) (as : List (Option Nat)) (sp : VSp) (fA : VTA) : VT := fun e Q Qx => fA e (fun ds e1 => ∃ full al l, fill as ds e1 = some full ∧ e1[n]? = some (some (.mem al l)) ∧ sp (full ++ [.mem al l]) (fun r ps => Q r (putA n k as ps e1)) fun x ps => Qx x (putA n k as ps e1)) Qx
theorem v_callA {pM : List Sh} {rsh : Sh} {sp : VSp} {E : XK} (hA : VAx c W tA as fA) (hs : ShOk c.M as pM) : VE c W .e (tCall (spA c.K pM rsh sp) [] E tA) rsh (vCallA c.M.length pM.length as sp fA) := fun T σ e H Q Qv Qx hR hf hn hx => by
  refine hA T σ e H _ _ Qx hR hf (fun fT fV vs ds e1 H1 X1 av ⟨full, al, l, hfl, hm, q⟩ => ?_) hx
  rw [List.append_nil]
  exact spA_use (Qx := fun _ _ => False) X1 av hfl hs hm q (fun v r e' H' r1 q1 => hn v r e' H' r1 Post.e q1) (fun x d e' H' _ _ z => z.elim)
theorem v_callAX {pM : List Sh} {rsh : Sh} {sp : VSp} (hA : VAx c W tA as fA) (hs : ShOk c.M as pM) : VE c W .e (tCallS (spA c.K pM rsh sp) (fun σ x d H => W x d σ H) tA) rsh (vCallAX c.M.length pM.length as sp fA) := fun T σ e H Q Qv Qx hR hf hn hx => by
  refine hA T σ e H _ _ Qx hR hf (fun fT fV vs ds e1 H1 X1 av ⟨full, al, l, hfl, hm, q⟩ => ?_) hx
  exact spA_use X1 av hfl hs hm q (fun v r e' H' r1 q1 => hn v r e' H' r1 Post.e q1) (fun x d e' H' r1 y z => hx x d e' H' r1 y z)
end
end VL
set_option Elab.async false
set_option linter.all false
set_option maxRecDepth 100000
set_option maxHeartbeats 2000000
namespace VL
open PySem PySem.Spec PyProof.Rows L2
/-! ### cells read, changed, made -/
def getF {α : Type} : List Str → List α → Str → Option α
  | g :: fs, d :: l, f => if g = f then some d else getF fs l f
  | _, _, _ => none
def putN : List Str → Str → List Str
  | [], f => [f]
  | g :: fs, f => if g = f then g :: fs else g :: putN fs f
def putV {α : Type} : List Str → List α → Str → α → List α
  | g :: fs, d :: l, f, x => if g = f then x :: l else d :: putV fs l f x
  | _, _, _, x => [x]
theorem lookup_zip {f : Str} : ∀ {fs : List Str} {vs : List V}, (fs.zip vs).lookup f = getF fs vs f
  | [], vs => by simp [getF]
  | g :: fs, [] => by simp [getF]
  | g :: fs, v :: vs => by
    rw [List.zip_cons_cons, List.lookup, getF, lookup_zip]
    by_cases e : g = f
    · subst e
      simp
    · have : (f == g) = false := by simp; exact fun z => e z.symm
      rw [this, if_neg e]
theorem putF_zip {f : Str} {y : V} : ∀ {fs : List Str} {vs : List V}, fs.length = vs.length → putF f y (fs.zip vs) = (putN fs f).zip (putV fs vs f y)
  | [], [], _ => rfl
  | g :: fs, v :: vs, h => by
    rw [List.zip_cons_cons, putF, putN, putV]
    by_cases e : g = f
    · rw [if_pos e, if_pos e, if_pos e, List.zip_cons_cons]
    · rw [if_neg e, if_neg e, if_neg e, List.zip_cons_cons, putF_zip (Nat.succ.inj h)]
  | [], _ :: _, h => by cases h
  | _ :: _, [], h => by cases h
theorem putN_len {f : Str} {y : V} : ∀ {fs : List Str} {vs : List V}, fs.length = vs.length → (putN fs f).length = (putV fs vs f y).length
  | [], [], _ => rfl
  | g :: fs, v :: vs, h => by
    rw [putN, putV]
    by_cases e : g = f
    · rw [if_pos e, if_pos e]; exact h
    · rw [if_neg e, if_neg e, List.length_cons, List.length_cons, putN_len (Nat.succ.inj h)]
  | [], _ :: _, h => by cases h
  | _ :: _, [], h => by cases h
section
variable {K : PySem.W.Frag} {ow : Addr → Prop} {H : Hp}
theorem RSs.getF {f : Str} : ∀ {fs : List Str} {l : List D} {vs : List V} {d : D}, RSs K ow H l vs → VL.getF fs l f = some d → ∃ v, VL.getF fs vs f = some v ∧ RS K ow H d v
  | [], _, _, _, _, e => by simp [VL.getF] at e
  | g :: fs, [], _, _, _, e => by simp [VL.getF] at e
  | g :: fs, x :: l, _, d, h, e => by
    simp only [RSs] at h
    obtain ⟨v, r, rfl, h1, h2⟩ := h
    simp only [VL.getF] at e ⊢
    by_cases q : g = f
    · rw [if_pos q] at e ⊢
      cases e
      exact ⟨v, rfl, h1⟩
    · rw [if_neg q] at e ⊢
      exact RSs.getF h2 e
theorem RSs.putV {f : Str} {y : V} {dy : D} (ry : RS K ow H dy y) : ∀ {fs : List Str} {l : List D} {vs : List V}, RSs K ow H l vs → RSs K ow H (VL.putV fs l f dy) (VL.putV fs vs f y)
  | [], _, _, _ => by simp only [VL.putV]; exact .cons ry .nil
  | g :: fs, [], _, h => by
    simp only [RSs] at h
    subst h
    simp only [VL.putV]; exact .cons ry .nil
  | g :: fs, x :: l, _, h => by
    simp only [RSs] at h
    obtain ⟨v, r, rfl, h1, h2⟩ := h
    simp only [VL.putV]
    by_cases q : g = f
    · rw [if_pos q, if_pos q]
      exact .cons ry h2
    · rw [if_neg q, if_neg q]
      exact .cons h1 (RSs.putV ry h2)
/-- a cell, as it stands in the heap -/
theorem RO.cell {d : D} {a : Addr} (h : RO K ow H d (cellSh d) (.ref a) [a]) : (∃ l vs, d = .lst l ∧ H a = some (.lst vs) ∧ RSs K ow H l vs) ∨ (∃ ks l vs, d = .dct ks l ∧ H a = some (.dK (ks.zip vs)) ∧ ks.length = vs.length ∧ RSs K ow H l vs) ∨ (∃ C fs l dx vs, d = .obj C fs l ∧ H a = some (.ins C dx (fs.zip vs)) ∧ fs.length = vs.length ∧ RSs K ow H l vs) ∨ ∃ P w t ks l vs, d = .nd P w t ks l ∧ NDa K H P w t a ks vs ∧ ks.length = vs.length ∧ RSs K ow H l vs := by
  have sm : ∀ {ds : List D} {shs : List Sh} {vs : List V} {fp : List Addr}, (∀ s ∈ shs, s = .s) → ROs K ow H ds shs vs fp → RSs K ow H ds vs := fun {ds} => by
    induction ds with
    | nil =>
      intro shs vs fp _ h
      simp only [ROs] at h
      rw [h.2.1]
      exact .nil
    | cons d ds ih =>
      intro shs vs fp hs h
      simp only [ROs] at h
      obtain ⟨sh, shs', v, vs', f1, f2, e1, e2, e3, h1, h2⟩ := h
      subst e1 e2
      have z := hs sh List.mem_cons_self
      subst z
      exact .cons (RO_s.mp h1).2 (ih (fun s z => hs s (List.mem_cons_of_mem _ z)) h2)
  cases d with
  | lst l =>
    simp only [cellSh, RO] at h
    obtain ⟨a', vs, fps, e, q, t, _⟩ := h
    cases e
    exact .inl ⟨l, vs, rfl, q, sm (fun s z => by obtain ⟨_, _, e⟩ := List.mem_map.mp z; exact e.symm) t⟩
  | dct ks l =>
    simp only [cellSh, RO] at h
    obtain ⟨a', vs, fps, e, q, n, t, _⟩ := h
    cases e
    exact .inr (.inl ⟨ks, l, vs, rfl, q, n, sm (fun s z => by obtain ⟨_, _, e⟩ := List.mem_map.mp z; exact e.symm) t⟩)
  | obj C fs l =>
    simp only [cellSh, RO] at h
    obtain ⟨a', dx, vs, fps, e, q, n, t, _⟩ := h
    cases e
    exact .inr (.inr (.inl ⟨C, fs, l, dx, vs, rfl, q, n, sm (fun s z => by obtain ⟨_, _, e⟩ := List.mem_map.mp z; exact e.symm) t⟩))
  | nd P w t ks l =>
    simp only [cellSh, RO] at h
    obtain ⟨a', vs, fps, e, q, n, t, _⟩ := h
    cases e
    exact .inr (.inr (.inr ⟨P, w, _, ks, l, vs, rfl, q, n, sm (fun s z => by obtain ⟨_, _, e⟩ := List.mem_map.mp z; exact e.symm) t⟩))
  | _ => simp [cellSh, RO] at h
theorem ROs.ofS {l : List D} {vs : List V} {shs : List Sh} (hs : ∀ s ∈ shs, s = .s) (hl : shs.length = l.length) (h : RSs K ow H l vs) : ROs K ow H l shs vs [] := by
  induction l generalizing shs vs with
  | nil =>
    cases shs with
    | nil =>
      simp only [RSs] at h
      simp only [ROs]
      exact ⟨trivial, h, trivial⟩
    | cons _ _ => cases hl
  | cons d l ih =>
    cases shs with
    | nil => cases hl
    | cons s shs =>
      simp only [RSs] at h
      obtain ⟨v, r, rfl, h1, h2⟩ := h
      have z := hs s List.mem_cons_self
      subst z
      simp only [ROs]
      exact ⟨.s, shs, v, r, [], [], rfl, rfl, rfl, RO_s.mpr ⟨rfl, h1⟩, ih (fun s z => hs s (List.mem_cons_of_mem _ z)) (Nat.succ.inj hl) h2⟩
theorem RO.lcell {l : List D} {vs : List V} {a : Addr} (q : H a = some (.lst vs)) (h : RSs K ow H l vs) : RO K ow H (.lst l) (cellSh (.lst l)) (.ref a) [a] := by
  simp only [cellSh, RO]
  exact ⟨a, vs, [], rfl, q, ROs.ofS (fun s z => by obtain ⟨_, _, e⟩ := List.mem_map.mp z; exact e.symm) (by simp) h, rfl⟩
theorem RO.dcell {ks : List Key} {l : List D} {vs : List V} {a : Addr} (q : H a = some (.dK (ks.zip vs))) (n : ks.length = vs.length) (h : RSs K ow H l vs) : RO K ow H (.dct ks l) (cellSh (.dct ks l)) (.ref a) [a] := by
  simp only [cellSh, RO]
  exact ⟨a, vs, [], rfl, q, n, ROs.ofS (fun s z => by obtain ⟨_, _, e⟩ := List.mem_map.mp z; exact e.symm) (by rw [List.length_map, n, h.len]) h, rfl⟩
theorem RO.ocell {C : Addr} {fs : List Str} {l : List D} {dx : Addr} {vs : List V} {a : Addr} (q : H a = some (.ins C dx (fs.zip vs))) (n : fs.length = vs.length) (h : RSs K ow H l vs) : RO K ow H (.obj C fs l) (cellSh (.obj C fs l)) (.ref a) [a] := by
  simp only [cellSh, RO]
  exact ⟨a, dx, vs, [], rfl, q, n, ROs.ofS (fun s z => by obtain ⟨_, _, e⟩ := List.mem_map.mp z; exact e.symm) (by rw [List.length_map, n, h.len]) h, rfl⟩
theorem RO.ncell {P : Program} {w : World} {t : Bool} {ks : List (List Leaf)} {l : List D} {vs : List V} {a : Addr} (q : NDa K H P w t a ks vs) (n : ks.length = vs.length) (h : RSs K ow H l vs) : RO K ow H (.nd P w t ks l) (cellSh (.nd P w t ks l)) (.ref a) [a] := by
  simp only [cellSh, RO]
  exact ⟨a, vs, [], rfl, q, n, ROs.ofS (fun s z => by obtain ⟨_, _, e⟩ := List.mem_map.mp z; exact e.symm) (by simp) h, rfl⟩
theorem RO.cellB {d : D} {a : Addr} (h : RO K ow H d (cellSh d) (.ref a) [a]) : RB K ow H d (.ref a) := by
  rcases h.cell with ⟨l, vs, rfl, q, r⟩ | ⟨ks, l, vs, rfl, q, n, r⟩ | ⟨C, fs, l, dx, vs, rfl, q, n, r⟩ | ⟨P, w, t, ks, l, vs, rfl, q, n, r⟩
  · exact ⟨a, vs, rfl, .inl (.inl q), r⟩
  · exact ⟨a, vs, rfl, .inl q, n, r⟩
  · exact ⟨a, dx, vs, rfl, q, n, r⟩
  · exact ⟨a, vs, rfl, q, n, r⟩
end
/-! the cells at the data's side -/
abbrev Cell (n : Nat) (e : Env) (a : Addr) (d : D) : Prop := ∃ al l, e[n]? = some (some (.mem al l)) ∧ cellAt al l a = some d
def setC (n : Nat) (e : Env) (a : Addr) (d : D) : Env :=
  match e[n]? with
  | some (some (.mem al l)) => e.set n (some (.mem al (cellSet al l a d)))
  | _ => e
def newC (n : Nat) (e : Env) (a : Addr) (d : D) : Env :=
  match e[n]? with
  | some (some (.mem al l)) => e.set n (some (.mem (a :: al) (d :: l)))
  | _ => e
def noC (n : Nat) (e : Env) (a : Addr) : Prop :=
  match e[n]? with
  | some (some (.mem al _)) => a ∉ al
  | _ => False
section
variable {c : Vc} {W : XW} {m : Md} {te ta tv : TE} {fe fa fv : VT} {fT fV : List Addr} {T : List Tm} {σ : L2.St} {e : Env} {H H' : Hp}
theorem RX.cellB {a : Addr} {d : D} (h : RX c fT fV T σ e H) (hc : Cell c.M.length e a d) : RB c.K (owOf c fT fV) H d (.ref a) ∧ owOf c fT fV a ∧ RO c.K (owOf c fT fV) H d (cellSh d) (.ref a) [a] := by
  obtain ⟨al, l, hm, ha⟩ := hc
  obtain ⟨z, r⟩ := h.cell hm ha
  exact ⟨r.cellB, .inl z, r⟩
theorem RX.setC {a : Addr} {d d' : D} (h : RX c fT fV T σ e H) (hc : Cell c.M.length e a d) (hk : ∀ b o, H b = some o → b ≠ a → H' b = some o) (hT : ExtT H H') (hal : ∀ b, H b ≠ none → H' b ≠ none)
    (hro : ∀ ow', (∀ a, ow' a → owOf c fT fV a ∨ H a = none) → RO c.K ow' H' d' (cellSh d') (.ref a) [a]) : ∃ fV', RX c fT fV' T σ (VL.setC c.M.length e a d') H' := by
  obtain ⟨al, l, hm, ha⟩ := hc
  unfold VL.setC
  rw [hm]
  exact h.setCell hm ha hk hT hal hro
/-- one's own thing on top becomes a cell -/
theorem R.cellN {sh : Sh} {v : V} {d : D} (h : R c ((sh, v, d) :: T) σ e H) (hs : sh = cellSh d) (ns : isS sh = false) (hm : ∃ al l, e[c.M.length]? = some (some (.mem al l))) : ∃ a, v = .ref a ∧ noC c.M.length e a ∧ R c ((.s, .ref a, .ref a) :: T) σ (newC c.M.length e a d) H := by
  obtain ⟨fT, fV, h⟩ := h
  obtain ⟨al, l, hm⟩ := hm
  obtain ⟨f1, f2, e1, h1, h2⟩ := h.tm
  have h1 : RO c.K (owOf c fT fV) H d sh v f1 := h1
  subst e1 hs
  have ⟨a, ev, ef⟩ : ∃ a, v = .ref a ∧ f1 = [a] := by
    have key : ∀ {ds : List D} {shs : List Sh} {vs : List V} {fp : List Addr}, (∀ s ∈ shs, s = .s) → ROs c.K (owOf c (f1 ++ f2) fV) H ds shs vs fp → fp = [] := fun {ds} => by
      induction ds with
      | nil =>
        intro shs vs fp _ h
        simp only [ROs] at h
        exact h.2.2
      | cons d ds ih =>
        intro shs vs fp hs h
        simp only [ROs] at h
        obtain ⟨sh, shs', v, vs', g1, g2, e1, e2, e3, h1, h2⟩ := h
        subst e1 e2 e3
        have z := hs sh List.mem_cons_self
        subst z
        rw [(RO_s.mp h1).1, ih (fun s z => hs s (List.mem_cons_of_mem _ z)) h2]
        rfl
    cases d with
    | lst l =>
      simp only [cellSh, RO] at h1
      obtain ⟨a', vs, fps, e, q, t, ef⟩ := h1
      rw [key (fun s z => by obtain ⟨_, _, e⟩ := List.mem_map.mp z; exact e.symm) t] at ef
      exact ⟨a', e, ef⟩
    | dct ks l =>
      simp only [cellSh, RO] at h1
      obtain ⟨a', vs, fps, e, q, n, t, ef⟩ := h1
      rw [key (fun s z => by obtain ⟨_, _, e⟩ := List.mem_map.mp z; exact e.symm) t] at ef
      exact ⟨a', e, ef⟩
    | obj C fs l =>
      simp only [cellSh, RO] at h1
      obtain ⟨a', dx, vs, fps, e, q, n, t, ef⟩ := h1
      rw [key (fun s z => by obtain ⟨_, _, e⟩ := List.mem_map.mp z; exact e.symm) t] at ef
      exact ⟨a', e, ef⟩
    | nd P w t ks l =>
      simp only [cellSh, RO] at h1
      obtain ⟨a', vs, fps, e, q, n, t, ef⟩ := h1
      rw [key (fun s z => by obtain ⟨_, _, e⟩ := List.mem_map.mp z; exact e.symm) t] at ef
      exact ⟨a', e, ef⟩
    | _ => simp [cellSh, isS] at ns
  subst ev ef
  obtain ⟨e0, f0, ee, le0, ef, rv, rm⟩ := h.memAt hm
  subst ee ef
  have hna : a ∉ al := fun z => by
    have n := h.nd
    rw [List.cons_append, List.cons_append] at n
    exact (List.nodup_cons.mp n).1 (by simp [z])
  have eN : newC c.M.length (e0 ++ [some (.mem al l)]) a d = e0 ++ [some (.mem (a :: al) (d :: l))] := by
    unfold newC
    rw [hm]
    show (e0 ++ [some (D.mem al l)]).set c.M.length _ = _
    rw [List.set_append_right _ _ (by omega), le0, Nat.sub_self]
    rfl
  refine ⟨a, rfl, by unfold noC; rw [hm]; exact hna, ?_⟩
  rw [eN]
  have p0 : List.Perm ([a] ++ f2 ++ (f0 ++ al)) (f2 ++ (f0 ++ a :: al)) := by
    rw [List.perm_iff_count]
    intro b
    simp only [List.count_append, List.count_cons, List.count_nil]
    omega
  have how : ∀ b, owOf c f2 (f0 ++ a :: al) b → owOf c ([a] ++ f2) (f0 ++ al) b ∨ H b = none := fun b z => by
    rcases z with z | z
    · exact .inl (.inl (p0.mem_iff.mpr z))
    · exact .inl (.inr z)
  exact ⟨f2, f0 ++ a :: al, ⟨[], f2, rfl, RO_s.mpr ⟨rfl, by simp only [RS]⟩, h2.fr (fun _ _ q _ => q) (ExtT.refl H) how (fun _ _ _ q => q)⟩, ⟨e0, _, f0, a :: al, rfl, rfl, rv.fr (fun _ _ q _ => q) (ExtT.refl H) how (fun _ _ _ q => q), rfl, RO.fr (fun _ _ q _ => q) (ExtT.refl H) how _ _ _ _ h1 (fun _ _ _ q => q), rm.fr (fun _ _ q _ => q) (ExtT.refl H) how (fun _ _ _ q => q)⟩, p0.nodup h.nd, fun b z => h.fr b (p0.mem_iff.mpr z), h.kp, h.tp, h.al, h.ok, h.rt⟩
def vCell (n : Nat) (fe : VT) : VT := fun e Q Qx => fe e (fun d e1 => (∃ al l, e1[n]? = some (some (.mem al l))) ∧ ∀ a, noC n e1 a → Q (.ref a) (newC n e1 a d)) Qx
theorem v_cellL (h : VE c W .e te (.l .s) fe) : VE c W .e te .s (vCell c.M.length fe) := fun T σ e H Q Qv Qx hR hf hn hx =>
  h T σ e H _ _ Qx hR hf (fun v d e1 H1 R1 _ ⟨hm, q⟩ => by
    have hd : ∃ l, d = .lst l := by
      obtain ⟨fT, fV, X⟩ := R1
      obtain ⟨f1, f2, e1, h1, h2⟩ := X.tm
      have h1 : RO _ _ _ d (.l .s) v f1 := h1
      exact h1.bl.2
    obtain ⟨l, rfl⟩ := hd
    obtain ⟨a, rfl, hno, R2⟩ := R1.cellN rfl rfl hm
    exact hn _ _ _ _ R2 Post.e (q a hno)) hx
theorem v_cellD (h : VE c W .e te (.d fun _ => .s) fe) : VE c W .e te .s (vCell c.M.length fe) := fun T σ e H Q Qv Qx hR hf hn hx =>
  h T σ e H _ _ Qx hR hf (fun v d e1 H1 R1 _ ⟨hm, q⟩ => by
    have hd : ∃ ks l, d = .dct ks l := by
      obtain ⟨fT, fV, X⟩ := R1
      obtain ⟨f1, f2, e1, h1, h2⟩ := X.tm
      have h1 : RO _ _ _ d (.d fun _ => .s) v f1 := h1
      cases d <;> first | exact ⟨_, _, rfl⟩ | (simp only [RO] at h1)
    obtain ⟨ks, l, rfl⟩ := hd
    obtain ⟨a, rfl, hno, R2⟩ := R1.cellN rfl rfl hm
    exact hn _ _ _ _ R2 Post.e (q a hno)) hx
/-! reading -/
def vDr (n : Nat) (fe : VT) : VT := fun e Q Qx => fe e (fun x e1 => ∃ a d, x = .ref a ∧ Cell n e1 a d ∧ Q d e1) Qx
theorem b_cell (h : VQ c te fe) : VB c te (vDr c.M.length fe) := fun fT fV T σ e H Q Qv Qx hR hf hn =>
  h fT fV T σ e H _ _ Qx hR hf fun v d r ⟨a, d', ed, hc, q⟩ => by
    subst ed
    have z : v = .ref a := by simpa only [RS] using r
    subst z
    exact hn _ _ (hR.cellB hc).1 q
def vFld (C : Addr) (f : Str) (fe : VT) : VT := fun e Q Qx => fe e (fun x e1 => ∃ fs l d, x = .obj C fs l ∧ getF fs l f = some d ∧ Q d e1) Qx
theorem q_fld {C : Addr} {f : Str} (hC : Cls c.K C) (hN : NoAttr c.K C f) (h : VB c te fe) : VQ c (tFld c.K te f) (vFld C f fe) := fun fT fV T σ e H Q Qv Qx hR hf hn =>
  h fT fV T σ e H _ _ Qx hR hf fun v x r ⟨fs, l, d, ex, hg, q⟩ => by
    subst ex
    obtain ⟨a, dx, vs, rfl, ha, n, rs⟩ := r
    obtain ⟨w, hw, rw⟩ := rs.getF hg
    exact ⟨a, C, dx, _, w, rfl, ha, hC, hN, by rw [lookup_zip]; exact hw, hn _ _ rw q⟩
/-! changing -/
theorem frC {a : Addr} {o o' : HO} (ha : H a = some o) (nf : ¬ Fx o) : ExtT H (L2.upd H a o') := ExtT.upd fun u q => by rw [ha] at q; cases q; exact nf
def vAppC (n : Nat) (fe fv : VT) : VT := fun e Q Qx => fe e (fun x e1 => ∃ a, x = .ref a ∧ (∃ l, Cell n e1 a (.lst l)) ∧ fv e1 (fun y e2 => ∃ l, Cell n e2 a (.lst l) ∧ l.length < sizeLine ∧ Q .non (setC n e2 a (.lst (l ++ [y])))) Qx) Qx
theorem RX.setL {a : Addr} {l l' : List D} {vs vs' : List V} (h : RX c fT fV T σ e H) (hc : Cell c.M.length e a (.lst l)) (ha : H a = some (.lst vs)) (hr : ∀ ow', (∀ a, ow' a → owOf c fT fV a ∨ H a = none) → RSs c.K ow' (L2.upd H a (.lst vs')) l' vs') : ∃ fV', RX c fT fV' T σ (VL.setC c.M.length e a (.lst l')) (L2.upd H a (.lst vs')) :=
  h.setC hc (fun b o q z => by rw [upd_ne z]; exact q) (frC ha id) al_upd fun ow' how => RO.lcell upd_same (hr ow' how)
theorem RX.cellL {a : Addr} {l : List D} (h : RX c fT fV T σ e H) (hc : Cell c.M.length e a (.lst l)) : ∃ vs, H a = some (.lst vs) ∧ RSs c.K (owOf c fT fV) H l vs := by
  obtain ⟨_, _, r⟩ := h.cellB hc
  rcases r.cell with ⟨l', vs, e, q, rs⟩ | ⟨ks, l', vs, e, _⟩ | ⟨C, fs, l', dx, vs, e, _⟩ | ⟨_, _, _, _, _, _, e, _⟩
  · cases e
    exact ⟨vs, q, rs⟩
  · cases e
  · cases e
  · cases e
theorem RX.frL {a : Addr} {o o' : HO} (ha : H a = some o) (nf : ¬ Fx o) (oa : owOf c fT fV a) : Fr (owOf c fT fV) H (L2.upd H a o') := ⟨fun b u q n => by
  rw [upd_ne (fun z => n (by rw [z]; exact oa))]
  exact q, frC ha nf⟩
theorem v_appC (he : VQ c te fe) (hv : VE c W .e tv .s fv) : VE c W .e (tBM c.K "list" rAppend te (tCons tv tNil)) .s (vAppC c.M.length fe fv) := fun T σ e H Q Qv Qx ⟨fT, fV, hX⟩ hf hn hx =>
  he fT fV T σ e H _ _ Qx hX hf fun v d r ⟨a, ed, ⟨l0, hc0⟩, q⟩ => by
    subst ed
    have z : v = .ref a := by simpa only [RS] using r
    subst z
    obtain ⟨vs0, ha0, _⟩ := hX.cellL hc0
    refine ⟨tyV_l ha0, hv T σ e H _ _ Qx ⟨fT, fV, hX⟩ q (fun y dy e1 H1 R1 _ ⟨l, hc, hz, q⟩ => ?_) hx⟩
    obtain ⟨fT1, fV1, X1⟩ := R1
    obtain ⟨ry, X1⟩ := X1.topS
    obtain ⟨vs, ha, rs⟩ := X1.cellL hc
    have F := RX.frL (o' := .lst (vs ++ [y])) ha id (X1.cellB hc).2.1
    obtain ⟨fV2, X2⟩ := X1.setL hc ha (l' := l ++ [dy]) (vs' := vs ++ [y]) fun ow' how => RSs.app (.cons (RS.fr F how _ _ ry) .nil) (RSs.fr F how _ _ rs)
    exact ⟨a, vs, y, rfl, rfl, ha, by rw [rs.len]; exact hz, hn _ _ _ _ ⟨fT1, fV2, X2.pushS rs_non⟩ Post.e q⟩
/-- the last one taken off -/
def vPopC (n : Nat) (fe : VT) : VT := fun e Q Qx => fe e (fun x e1 => ∃ a l y, x = .ref a ∧ Cell n e1 a (.lst (l ++ [y])) ∧ Q y (setC n e1 a (.lst l))) Qx
theorem RSs.unapp1 {K : PySem.W.Frag} {ow : Addr → Prop} {H : Hp} {y : D} : ∀ {l : List D} {vs : List V}, RSs K ow H (l ++ [y]) vs → ∃ ws w, vs = ws ++ [w] ∧ RSs K ow H l ws ∧ RS K ow H y w
  | [], _, h => by
    simp only [List.nil_append, RSs] at h
    obtain ⟨v, r, rfl, h1, rfl⟩ := h
    exact ⟨[], v, rfl, .nil, h1⟩
  | x :: l, _, h => by
    rw [List.cons_append, RSs] at h
    obtain ⟨v, r, rfl, h1, h2⟩ := h
    obtain ⟨ws, w, rfl, h3, h4⟩ := RSs.unapp1 h2
    exact ⟨v :: ws, w, rfl, .cons h1 h3, h4⟩
theorem v_popC (he : VQ c te fe) : VE c W .e (tBM0 c.K "list" rPop te) .s (vPopC c.M.length fe) := fun T σ e H Q Qv Qx ⟨fT, fV, hX⟩ hf hn hx =>
  he fT fV T σ e H _ _ Qx hX hf fun v d r ⟨a, l, y, ed, hc, q⟩ => by
    subst ed
    have z : v = .ref a := by simpa only [RS] using r
    subst z
    obtain ⟨vs, ha, rs⟩ := hX.cellL hc
    obtain ⟨ws, w, rfl, r1, r2⟩ := rs.unapp1
    have F := RX.frL (o' := .lst ws) ha id (hX.cellB hc).2.1
    have hX2 := hX.pushS r2
    obtain ⟨fV2, X2⟩ := hX2.setL hc ha (l' := l) (vs' := ws) fun ow' how => RSs.fr F how _ _ r1
    exact ⟨tyV_l ha, a, ws ++ [w], w, rfl, rfl, ha, by simp, by rw [List.dropLast_concat]; exact hn _ _ _ _ ⟨fT, fV2, X2⟩ Post.e q⟩
/-- x.f = y -/
def vSetF (n : Nat) (C : Addr) (f : Str) (fe fv : VT) : VTS := fun D e => fv e (fun y e1 => fe e1 (fun x e2 => ∃ a fs l, x = .ref a ∧ Cell n e2 a (.obj C fs l) ∧ fs.length < 1000 ∧ D.nx (setC n e2 a (.obj C (putN fs f) (putV fs l f y)))) D.ex) D.ex
theorem vs_setF {rsh : Sh} {C : Addr} {f : Str} (hC : Cls c.K C) (hN : NoAttr c.K C f) (he : VQ c te fe) (hv : VE c W .e tv .s fv) : VS c W rsh (sFld c.K te tv f) (vSetF c.M.length C f fe fv) := fun T σ e H D Dv hR hf L =>
  hv T σ e H _ _ Dv.ex hR hf (fun y dy e1 H1 ⟨fT, fV, hX⟩ _ q => by
    obtain ⟨ry, hX⟩ := hX.topS
    refine he fT fV T σ e1 H1 _ _ Dv.ex hX q fun v d r ⟨a, fs, l, ed, hc, hlt, q⟩ => ?_
    subst ed
    have z : v = .ref a := by simpa only [RS] using r
    subst z
    rcases (hX.cellB hc).2.2.cell with ⟨l', vs, e', _⟩ | ⟨ks, l', vs, e', _⟩ | ⟨C', fs', l', dx, vs, e', ha, n, rs⟩ | ⟨_, _, _, _, _, _, e', _⟩
    · cases e'
    · cases e'
    rotate_left
    · cases e'
    cases e'
    have F := RX.frL (o' := .ins C dx (putF f y (fs.zip vs))) ha id (hX.cellB hc).2.1
    obtain ⟨fV2, X2⟩ := hX.setC (H' := L2.upd H1 a (.ins C dx (putF f y (fs.zip vs)))) (d' := .obj C (putN fs f) (putV fs l f dy)) hc (fun b o q z => by rw [upd_ne z]; exact q) (frC ha id) al_upd fun ow' how => RO.ocell (dx := dx) (vs := putV fs vs f y) (by rw [upd_same, putF_zip n]) (putN_len n) (RSs.putV (RS.fr F how _ _ ry) (RSs.fr F how _ _ rs))
    exact ⟨a, C, dx, _, rfl, ha, hC, hN, by rw [List.length_zip]; omega, L.nx σ _ _ ⟨fT, fV2, X2⟩ q⟩) (fun x d e' H' r y q => L.ex x d σ e' H' r y q)
end
end VL
set_option Elab.async false
set_option linter.all false
set_option maxRecDepth 100000
set_option maxHeartbeats 2000000
namespace Fb
open PySem PySem.Spec PyProof.Rows L2 L2H HotX
/-! ### an exception that is handled: asked and read in the suite, and in defs that the suite calls -/
/-- p is the exception that X handles; its class, its dict -/
structure Held (X : Cx) (p : Addr × Obj) (cls : Value) (d : Option Addr) : Prop where
  mem : p ∈ X.pn
  hd : X.A.handled = some (.ref p.1)
  zn : L2N.Zn cls d p.2
  fl : ∃ vs, p.2.data = .fields vs
theorem Held.hot {X : Cx} {p : Addr × Obj} {cls : Value} {d : Option Addr} (h : Held X p cls d) : Hot1 X.A p := by
  obtain ⟨vs, e⟩ := h.fl
  exact ⟨h.hd, vs, e, h.zn.2.2 vs e⟩
theorem Held.hotC {X : Cx} {p : Addr × Obj} {cls : Value} {d : Option Addr} (h : Held X p cls d) : HotC X := ⟨p, h.hot, h.mem⟩
theorem held_suite {X : Cx} {a : Addr} {oe : Obj} {cls : Value} {d : Option Addr} {pn : List (Addr × Obj)} (z : L2N.Zn cls d oe) (f : ∃ vs, oe.data = .fields vs) : Held (X.suite a ((a, oe) :: pn)) (a, oe) cls d := ⟨List.mem_cons_self, rfl, z, f⟩
/-- its dict, if it has one, stands in H -/
def DictAt (d : Option Addr) (H : Hp) : Prop := d = none ∨ ∃ (dd : Addr) (fs : List (Str × V)), d = some dd ∧ H dd = some (.xd fs)
theorem Held.inst {X : Cx} {p : Addr × Obj} {C : Addr} {d : Option Addr} {pins : List (Addr × Obj)} {σ : L2.St} {H : Hp} {s : Shared} (h : Held X p (.ref C) d) (I : Inv X pins σ H s) (hd : DictAt d H) : ∃ od, PySem.W.InstAt s.heap p.1 p.2 C od := by
  have g := (I.pin p (List.mem_append_left _ h.mem)).1
  obtain ⟨vs, e⟩ := h.fl
  have nc : PySem.W.notCls p.2 = true := by unfold PySem.W.notCls; rw [e] <;> rfl
  rcases hd with rfl | ⟨dd, fs, rfl, ed⟩
  · exact ⟨none, g, h.zn.1, nc, by rw [h.zn.2.1]; trivial⟩
  · have x : ObjOk X.prog X.w H s.heap dd (.xd fs) := I.hok dd _ ed
    obtain ⟨mA, hns, _⟩ := x
    obtain ⟨od, ho, _⟩ := lookIn_ns hns
    exact ⟨some od, g, h.zn.1, nc, by rw [h.zn.2.1]; exact ho⟩
/-- isinstance(e, c) -/
def rIsX (K : PySem.W.Frag) (a : Addr) (cls : Value) (d : Option Addr) : List V → Hp → VK → Prop := fun xs H Q => ∃ (D : Addr) (c : V) (u : Value) (b : Bool), xs = [.ref a, c] ∧ cls = .ref D ∧ ExcC K D ∧ ClsV c u ∧ PySem.W.kitOne K (.ref D) u = some b ∧ DictAt d H ∧ Q (.bl b) H
theorem call_isX {X : Cx} {a : Addr} {oe : Obj} {cls : Value} {d : Option Addr} (K : PySem.W.Frag) (hK : X.K = K) (h : Held X (a, oe) cls d) : CallR X (.builtin "isinstance") (rIsX K a cls d) := by
  subst hK
  intro pins s σ H xs us Q I r hh
  obtain ⟨D, c, u, b, rfl, rfl, C, cv, e, hd, q⟩ := hh
  obtain ⟨u1, u2, rfl, r1, r2⟩ := vals2 r
  obtain rfl : u1 = Value.ref a := r1
  obtain rfl := cv.eq r2
  obtain ⟨od, J⟩ := h.inst I hd
  obtain ⟨cd, hc, _⟩ := PySem.W.any_some C.hd
  exact PySem.W.kia_one (PySem.W.kitx_exc (by rw [hc]; rfl) C.hg C.hk C.hs C.ha C.hn C.ht C.hm) I.kIn J e (fun z => nomatch z) fun tk => ⟨.bl b, H, I.kept (t' := tk) fun _ _ z => z, rfl, q⟩
/-- e.f -/
def tXfX (K : PySem.W.Frag) (a : Addr) (cls : Value) (d : Option Addr) (f : Str) (te : TE) : TE := fun σ H Q => te σ H fun x H1 => x = .ref a ∧ ∃ (C dd : Addr) (fs : List (Str × V)) (v : V), cls = .ref C ∧ XfC K C ∧ PySem.W.findIn K (.ref C) f = some none ∧ d = some dd ∧ H1 dd = some (.xd fs) ∧ fs.lookup f = some v ∧ Q v H1
theorem pe_xfX {X : Cx} {a : Addr} {oe : Obj} {cls : Value} {d : Option Addr} {e : Expr} {te : TE} {pos : Pos} {n : Str} (K : PySem.W.Frag) (hK : X.K = K) (h : Held X (a, oe) cls d) (he : PE X e te) (hb : attributeBase e n X.env (eval e X.env) = eval e X.env := by rfl) : PE X (.Attribute e n pos) (tXfX K a cls d n te) := by
  subst hK
  refine ⟨fun pins s σ H Q I hw => ?_⟩
  refine attr_of hb (thn (he.run pins s σ H _ I hw) fun u s1 hh => ?_)
  obtain ⟨x, H1, I1, rx, rfl, C, dd, fs, v, rfl, T, hno, rfl, ed, l, q⟩ := hh
  obtain rfl : u = Value.ref a := rx
  obtain ⟨vs, ev⟩ := h.fl
  have x : ObjOk X.prog X.w H1 s1.heap dd (.xd fs) := I1.hok dd _ ed
  obtain ⟨mA, hns, hr⟩ := x
  obtain ⟨od, ho, hl⟩ := lookIn_ns hns
  obtain ⟨u, hu, ru⟩ := RelO.some_of (v := v) (o := mA n) (by rw [← l]; exact hr n)
  have J : PySem.W.InstAt s1.heap a oe C (some od) := ⟨(I1.pin (a, oe) (List.mem_append_left _ h.mem)).1, h.zn.1, by unfold PySem.W.notCls; rw [show oe.data = _ from ev] <;> rfl, by rw [show oe.dict = _ from h.zn.2.1]; exact ho⟩
  exact HandSPX.exc_get I1.kIn J T.ga T.gg T.exC (PySem.W.findObj_own T.hdC hno rfl (by rw [hl, hu])) (handed_of ru) ⟨v, H1, I1.tok _, ru, q⟩

/-! ### a def that is called in the suite, and knows of the exception -/
structure FnE (P : Program) (w : World) (K : PySem.W.Frag) (mg : Str → Option Value) (base : Heap) (k : Nat) (f : Addr) (fd : FuncData) (ps : List Str) (sp : Addr → Value → Option Addr → Sp) : Prop where
  len : ∀ a c d vs H Q E, sp a c d vs H Q E → vs.length = ps.length
  run : ∀ (A : Around) (outer : List Env) (s : Shared) (H : Hp) (args : Args) (us : List Value) (vs : List V) (Q : VK) (E : XK) (p : Addr × Obj) (c : Value) (d : Option Addr), A.handled = some (.ref p.1) → L2N.Zn c d p.2 → (∃ fv, p.2.data = .fields fv) → RoomH k A → PinOk outer H s p →
    Env0 P w K mg base A outer s H → BindsTo s fd args (ps.zip us) → Vals vs us → sp p.1 c d vs H Q E → codeAny (model P w) A (.call (.ref f) args) (CR CX0 outer P w H s Q E) s
section
variable {P : Program} {w : World} {K : PySem.W.Frag} {mg : Str → Option Value} {base : Heap}
theorem ok_E {x qual : Str} {st : Stmt} {f : Addr} {fd : FuncData} {N ps : List Str} {k : Nat} {sp : Addr → Value → Option Addr → Sp} (F : L2.Fun K x qual st f fd) (S : FnScope N ps (defScope st)) (len : ∀ a c d vs H Q E, sp a c d vs H Q E → vs.length = ps.length)
    (walk : ∀ (cdv : Value) (A : Around) (outer : List Env) (s : Shared) (H : Hp) (vs : List V) (Q : VK) (E : XK) (p : Addr × Obj) (c : Value) (d : Option Addr), RoomH k (A.deeper (envOfC qual (defScope st) s.heap.objs.size f cdv)) →
      Held (cxH CX0 P w K mg base N qual (defScope st) f cdv A outer s H E p).nox p c d → sp p.1 c d vs H Q E →
      ∃ t, PSs (cxH CX0 P w K mg base N qual (defScope st) f cdv A outer s H E p).nox (defBody st) t ∧ t { nx := fun _ H' => Q .non H', rt := Q } (start N vs) H) : FnE P w K mg base (k + 1) f fd ps sp := by
  obtain ⟨oc, od, kV, dc, pm, an, cdv, ct, osl, rfl, lk, hcd⟩ := F.ex
  refine ⟨len, fun A outer s H args us vs Q E p c d hh zn fl hr pin e0 hb r hs0 => ?_⟩
  have hl := len _ _ _ _ _ _ _ hs0
  have kIn : K.In s.heap := e0.mod.kin.keeps fun b o e => (e0.bs b o e).1
  have nolim : s.heap.NoLimit := e0.mod.nolimit.keeps fun b o e => (e0.bs b o e).1
  have kinds : ∀ y ∈ ps.zip us, (defScope st).names.lookup y.1 = some .local ∨ ((defScope st).names.lookup y.1 = some .cell ∧ ((cellsFrom (s.heap.objs.size + 1) (defScope st).names []).lookup y.1).isSome = true) := fun ⟨n, v⟩ hy => by
    rcases S.par n (List.of_mem_zip hy).1 with z | z
    · exact .inl z
    · exact .inr ⟨z, PySem.W.cellsFrom_some _ _ _ (.inl z)⟩
  refine codeAny_call_function hr.depth (kIn _ _ lk) rfl S.co S.gen rfl (PySem.W.codeRec_of kIn hcd) (hb _ _ _ _ ?_)
  refine wpAny_newFunctionEnv_cells S.kind kinds fun env he s1 y => ?_
  subst he
  refine ⟨nolim.keeps y.toInCall.keep, codeAny_func ?_⟩
  obtain ⟨t, ht, hq⟩ := walk cdv A outer s H vs Q E p c d (hr.deeper _) ⟨List.mem_cons_self, hh, zn, fl⟩ hs0
  have I0 : Inv (cxH CX0 P w K mg base N qual (defScope st) f cdv A outer s H E p) [] (start N vs) H s1 := inv_startH S pin e0 hl r y
  refine wpAny_mono (ht.nox.run [] s1 (start N vs) H _ I0 hq) (fun fl s' z => ?_) fun e s' z => z
  have out : ∀ {σ' : L2.St} {H' : Hp} {v : V} {u : Value}, Inv (cxH CX0 P w K mg base N qual (defScope st) f cdv A outer s H E p) [] σ' H' s' → RelV v u → Q v H' → CE outer P w H s Q u s' := fun {σ' H' v u} J rv q => ⟨v, H', J.os, J.bare, J.base, J.hok, rv, q⟩
  cases fl with
  | ret u =>
    obtain ⟨v, σ', H', J, rv, q⟩ := z
    exact out J rv q
  | next =>
    obtain ⟨σ', H', J, q⟩ := z
    exact out (v := V.non) (u := Value.none) J rfl q
  | brk =>
    obtain ⟨_, _, _, q⟩ := z
    exact q.elim
  | cont =>
    obtain ⟨_, _, _, q⟩ := z
    exact q.elim
end
/-- such a def under its name -/
structure CalE (P : Program) (w : World) (K : PySem.W.Frag) (mg : Str → Option Value) (base : Heap) (k : Nat) (x : Str) (sp : Addr → Value → Option Addr → Sp) : Prop where
  ex : ∃ (f : Addr) (fd : FuncData) (ps : List Str), FnE P w K mg base k f fd ps sp ∧ mg x = some (.ref f) ∧ PySem.W.keepIn K (.ref f) = true ∧ Binds K fd ps []
section
variable {X : Cx} {k j : Nat} {x : Str} {sp : Addr → Value → Option Addr → Sp} {p pos : Pos} {e : Expr} {es : List Expr} {t : TA} {a : Addr} {oe : Obj} {cls : Value} {d : Option Addr}
theorem pe_cE (c : CalE X.prog X.w X.K X.mg X.base k x sp) (h : Held X (a, oe) cls d) (hr : RoomH j X.A) (hk : k ≤ j) (hg : Gl X x) (ha : PA X (e :: es) t) (hdb : (x == ("__debug__" : Str)) = false := by decide)
    (he : starEach (e :: es) X.env = (false, eval e X.env) :: starEach es X.env := by rfl) (hpl : (backTo pos (starEach es X.env)).any (·.1) = false := by rfl) : PE X (.Call (.Name x p) (e :: es) [] pos) (tCall (sp a cls d) [] E0 t) := by
  obtain ⟨f, fd, ps, F, hm, kp, b⟩ := c.ex
  refine ⟨fun pins s σ H Q I hw => ?_⟩
  refine wpAny_Call_Name_kw (ld_glob I hg hm ?_ hdb)
  refine PySem.W.callWith_K (h₀ := X.base) I.ok.mod.kin kp (thn (ha.run pos pins s σ H _ I hw) fun us s1 ⟨vs, H1, I1, r, q⟩ => ⟨I1.kIn, ?_⟩) he hpl
  have q2 : sp a cls d vs H1 Q E0 := by have z : sp a cls d (vs ++ []) H1 Q E0 := q; rw [List.append_nil] at z; exact z
  have hl : us.length = ps.length := by rw [← r.length]; exact F.len _ _ _ _ _ _ _ q2
  have P1 := I1.pin (a, oe) (List.mem_append_left _ h.mem)
  have pin : PinOk X.stack H1 s1 (a, oe) := ⟨P1.1, P1.2.1, fun z => (List.mem_cons.mp (I1.stkSub a z)).elim P1.2.2.1 P1.2.2.2.1, P1.2.2.2.2⟩
  refine wpAny_call (codeAny_mono (F.run X.A X.stack s1 H1 ⟨us, []⟩ us vs Q E0 (a, oe) cls d h.hd h.zn h.fl (hr.mono hk) pin I1.env0 (by have z := b s1 us I1.kIn (by rw [List.append_nil]; exact hl); rw [List.append_nil] at z; exact z) r q2) fun r' s' hq => ?_)
  cases r' with
  | error e => exact hq.elim
  | ok fl =>
    cases fl with
    | ret u => exact I1.after hq
    | next => exact hq.elim
    | brk => exact hq.elim
    | cont => exact hq.elim
end
end Fb
namespace Fb
open PySem L2
theorem kit_own {K : PySem.W.Frag} {C : Addr} : PySem.W.kitOne K (.ref C) (.ref C) = some true := by
  unfold PySem.W.kitOne
  exact if_pos (beq_self_eq_true _)
theorem kit_not {K : PySem.W.Frag} {a b : Addr} {r : Bool} (ne : (Value.ref a == Value.ref b) = false) (h1 : PySem.W.isClsIn K b = true) (h2 : PySem.W.typeIn K (.ref b) = some (.type "type")) (h3 : PySem.W.subIn K (.ref a) (.ref b) = some r) : PySem.W.kitOne K (.ref a) (.ref b) = some r := by
  have h1' : (PySem.W.clsIn K b).isSome = true := h1
  unfold PySem.W.kitOne PySem.W.kitCls
  rw [ne, if_neg Bool.false_ne_true]
  dsimp only
  rw [h1', h2, if_pos (by rfl)]
  exact h3
theorem kit_ty {K : PySem.W.Frag} {a : Addr} {T : String} {r : Bool} (hm : PySem.W.kitMeta T = true) (h : PySem.W.subIn K (.ref a) (.type T) = some r) : PySem.W.kitOne K (.ref a) (.type T) = some r := by
  unfold PySem.W.kitOne PySem.W.kitCls
  rw [if_neg (show ¬ (Value.ref a == Value.type T) = true from fun z => by cases beq_iff_eq.mp z)]
  dsimp only
  rw [if_pos hm]
  exact h
theorem eqDK {X : Cx} (K : PySem.W.Frag) (hK : X.K = K) (hu : X.A.units + 64 < cLine) : OpR X (compareOp .Eq) (rEqD K) := hK ▸ op_eqD hu
theorem neDK {X : Cx} (K : PySem.W.Frag) (hK : X.K = K) (hu : X.A.units + 64 < cLine) : OpR X (compareOp .NotEq) (rNeD K) := hK ▸ op_neD hu
theorem roomS {k : Nat} {A : Around} (r : Room k A) {v : Option Value} : L2H.RoomH k (A.mark v) := ⟨r.dp, r.un⟩
end Fb
namespace Fb
open PySem L2
/-- what is looked at of a class object, so that it is an exception class over ValueError with an __init__ of its own -/
def oexOk (C : Addr) (cd : ClassData) (sl : Array (Option Value)) : Bool :=
  match cd.mro, sl.toList with
  | .ref c :: bm, [_, _, _, _, some (.builtin n), _] => decide (c = C) && (decide (n = "ValueError.__new__") && (!cd.hasDel && (cd.hasDict && PySem.HandSPX.refsVE bm)))
  | _, _ => false
theorem oex_of {K : PySem.W.Frag} {C : Addr} {dd : Option Addr} {cd : ClassData} {sl : Array (Option Value)} (hl : K.lookup C = some ⟨.type "type", dd, .cls cd, sl⟩) (h : oexOk C cd sl = true)
    (sa : PySem.W.findIn K (.ref C) "__setattr__" = some (some (.builtin "object.__setattr__"))) (ex : PySem.W.subIn K (.ref C) (.type "BaseException") = some true) (ty : PySem.W.typeIn K (.ref C) = some (.type "type")) (kp : PySem.W.keepIn K (.ref C) = true) : OexC K C := by
  refine ⟨?_, sa, ex, ty, kp⟩
  obtain ⟨nm, bs, mro, ns, qn, hd, sn, sub, ab, col, del⟩ := cd
  obtain ⟨l⟩ := sl
  unfold oexOk at h
  dsimp only at h
  split at h
  · rename_i c bm s0 s1 s2 s3 n s5
    obtain ⟨h1, h⟩ := Bool.and_eq_true_iff.mp h
    obtain ⟨h2, h⟩ := Bool.and_eq_true_iff.mp h
    obtain ⟨h3, h⟩ := Bool.and_eq_true_iff.mp h
    obtain ⟨h4, h5⟩ := Bool.and_eq_true_iff.mp h
    have h1 := of_decide_eq_true h1
    have h2 := of_decide_eq_true h2
    have h3 : del = false := by simpa using h3
    subst h1 h2 h3 h4
    exact ⟨_, _, _, _, _, _, _, _, _, _, _, _, _, _, _, hl, h5⟩
  · cases h
end Fb
set_option Elab.async false
set_option linter.all false
set_option maxRecDepth 100000
set_option maxHeartbeats 2000000
namespace Fb
open PySem PySem.Spec PyProof.Rows L2 L2H HotX
/-! ### exceptions made where nothing is handled: their context is None -/
section
variable {X : Cx} {x : Str} {e : Expr} {es : List Expr} {ta : TA} {p pos : Pos} {C fI : Addr}
/-- C(e, ..), its own __init__ keeping sp -/
theorem pmk_oexN {k j : Nat} {fd : FuncData} {ps : List Str} {sp : Sp} (T : OexC X.K C) (iC : PySem.W.findIn X.K (.ref C) "__init__" = some (some (.ref fI))) (tI : PySem.W.typeIn X.K (.ref fI) = some (.type "function"))
    (F1 : FnOk X.prog X.w X.K X.mg X.base CX0 k fI fd ps sp) (hr : Room j X.A) (hk : k + 1 ≤ j) (hb : Binds X.K fd ps []) (hg : Gl X x) (hm : X.mg x = some (.ref C)) (ha : PA X (e :: es) ta) (hdb : (x == ("__debug__" : Str)) = false := by decide)
    (he : starEach (e :: es) X.env = (false, eval e X.env) :: starEach es X.env := by rfl) (hpl : (backTo pos (starEach es X.env)).any (·.1) = false := by rfl) : L2N.PMk X (.Call (.Name x p) (e :: es) [] pos) (tMkO C sp [] ta) := by
  intro pins s σ H Q I hw
  obtain ⟨nm, qn, N, bs, bm, sn, sub, ab, col, dd, k0, k1, k2, k3, k5, lkC, vb⟩ := T.cls
  refine wpAny_Call_Name_kw (ld_glob I hg hm ?_ hdb)
  refine PySem.W.callWith_K (h₀ := X.base) I.ok.mod.kin T.kC (thn (ha.run pos pins s σ H _ I hw) fun us s1 z => ?_) he hpl
  obtain ⟨vs, H1, I1, r1, few, q1⟩ := z
  refine ⟨I1.kIn, (show wpAny _ _ (call (.ref C) us) _ _ _ from ?_)⟩
  obtain ⟨hp, gn, dr, tk, os⟩ := s1
  have above : hp.objs.size ≤ hp.objs.size + 1 := Nat.le_succ _
  have q2 := q1 (hp.objs.size + 1) (I1.hok.fresh above)
  rw [List.append_nil] at q2
  have stays : ∀ b o, hp.get? b = some o → ((hp.push (PySem.W.kdv_tup us)).push (PySem.HandSPX.excO C hp.objs.size)).get? b = some o := fun b o z => Heap.get?_push_of_some _ (Heap.get?_push_of_some _ z)
  have there : ((hp.push (PySem.W.kdv_tup us)).push (PySem.HandSPX.excO C hp.objs.size)).get? (hp.objs.size + 1) = some (PySem.HandSPX.excO C hp.objs.size) := by heap_get
  have J : Inv X pins σ (upd H1 (hp.objs.size + 1) (exo (hp.objs.size + 1) C none)) ⟨(hp.push (PySem.W.kdv_tup us)).push (PySem.HandSPX.excO C hp.objs.size), gn, dr, tk, os⟩ := I1.laid (t' := tk) stays above (exo_ok there)
  have r2 : Vals (V.ref (hp.objs.size + 1) :: vs) (Value.ref (hp.objs.size + 1) :: us) := .cons rfl r1
  have hl : (Value.ref (hp.objs.size + 1) :: us).length = ps.length := by rw [← r2.length, F1.len _ _ _ _ q2]
  have hus : us.length ≤ sizeLine := by rw [← Paired.length r1, sizeLine_eq]; omega
  have bd := hb _ (Value.ref (hp.objs.size + 1) :: us) J.kIn (by rw [List.append_nil]; exact hl)
  rw [List.append_nil] at bd
  refine wpAny_call (PySem.HandSPX.call_own F.excBase_ValueError (fun Y => PySem.HandSPX.refsVE_contains Y bm vb) (I1.kIn _ _ lkC) (PySem.W.looks_findIn I1.kIn iC) (fun self => PySem.W.bind_fn I1.kIn self tI) hus
    (codeAny_mono (F1.run _ X.stack _ _ ⟨Value.ref (hp.objs.size + 1) :: us, []⟩ (Value.ref (hp.objs.size + 1) :: us) _ _ (fun _ _ _ => False) ((hr.mono hk).make C us []) (J.env0.make C us []) bd r2 q2) fun r s' z => ?_))
  cases r with
  | error er => exact z.elim
  | ok fl =>
    cases fl with
    | next => exact z.elim
    | brk => exact z.elim
    | cont => exact z.elim
    | ret u =>
      obtain ⟨v, H2, os2, bare2, un2, hok2, rv, ev, d, fs, ea, ed, hd1, q3⟩ := z
      subst ev
      obtain ⟨h2, g2, d2, t2, os'⟩ := s'
      obtain ⟨t0, G, JG, kG, ge, hoe, na⟩ := mk_end0 (d2 := d2) (t2 := t2) I1 above stays un2 hok2 os2 bare2 ea ed hd1
      exact ⟨rv, hp.objs.size + 1, _, _, ⟨G, g2, d2, t2, os'⟩, _, .ref C, some d, rfl, JG, kG, ge, hoe, ⟨rfl, rfl, fun vs hv => by cases hv; rfl⟩, rfl, rfl, na, rfl, bare2, raises_own T.exC T.tyC, q3⟩
/-- C(), no __init__ of its own -/
theorem pmk_own0 {bmB : List Value} {B newId initId : String} (F : ExcBaseFacts B newId initId bmB) (q : PySem.W.excIn X.K C bmB newId = true) (gC : X.mg x = some (.ref C)) (kC : PySem.W.keepIn X.K (.ref C) = true) (r : Raises X (.ref C)) (hg : Gl X x)
    (hdb : (x == ("__debug__" : Str)) = false := by decide) : L2N.PMk X (.Call (.Name x p) [] [] pos) (fun _ H Q => Q (.ref C) none H) := by
  intro pins s σ H Q I hw
  refine wpAny_Call_Name_kw (ld_glob I hg gC ?_ hdb)
  refine PySem.W.callWith_K0 I.kIn kC (show wpAny _ _ (call (.ref C) []) _ _ _ from ?_)
  obtain ⟨bm, N, nm, qn, bs, hdct, sn, sub, ab, col, dd, k0, k1, k2, k3, k5, mN, hC, hN, hni, T⟩ := exc_obj I.kIn q
  exact wpAny_call_exc_subT F T hC hN hni (fun h' e hm => L2N.mk_of I hm r hw (I.hok.gone hm.new)) (Nat.zero_le _)
end

/-! ### try: body, a first clause that takes none of the body's exceptions, a second one that takes all: except x as n -/
def wSkip (K : PySem.W.Frag) (c1 c : Value) (i : Nat) (ts : Addr → Value → Option Addr → L2.TS) (D : Ends) : WX := fun cls d σ H => PySem.W.exmOne K cls c1 = some false ∧ PySem.W.exmOne K cls c = some true ∧
  ∀ a, H a = none → ts a cls d { nx := fun σ' H' => D.nx (σ'.set i none) H', rt := D.rt, bk := fun σ' H' => D.bk (σ'.set i none) H', ct := fun σ' H' => D.ct (σ'.set i none) H' } (σ.set i (some (.ref a))) H
section
variable {X : Cx} {x1 x n : Str} {c1 c : Value} {i : Nat} {body st1 suite : List Stmt} {b₀ : Stmt} {np1 np pos pos1 pos' : Pos} {tb : WX → L2.TS} {ts : Addr → Value → Option Addr → L2.TS}
theorem ps_try_skip (hs : X.stack = X.env :: X.outer) (hf : X.env.frame = some X.env.locals) (hN : X.N.Nodup) (hi : X.N[i]? = some n) (hln : X.env.kindOf n = some .local) (hc1 : Names X x1 c1) (hc : Names X x c)
    (hb : ∀ (W : WX) (pn : List (Addr × Obj)) (xe : Value → Shared → Prop), L2N.Takes (X.tr pn xe) W → PSs (X.tr pn xe) body (tb W))
    (hsu : ∀ (a : Addr) (oe : Obj) (cls : Value) (d : Option Addr) (pn : List (Addr × Obj)), Held (X.suite a ((a, oe) :: pn)) (a, oe) cls d → PSs (X.suite a ((a, oe) :: pn)) (b₀ :: suite) (ts a cls d)) :
    PS X (.Try body [.ExceptHandler (some (.Name x1 np1)) none st1 pos1, .ExceptHandler (some (.Name x np)) (some n) (b₀ :: suite) pos'] [] [] pos) (fun D σ H => tb (wSkip X.K c1 c i ts D) D σ H) := by
  refine ⟨fun pins s σ H D I hw => ?_⟩
  have ok := I.ok
  have hfr : X.A.frames = some (X.env :: X.outer) := by rw [ok.frames, hs]
  refine wpAny_Try_except (wpAny_mono ((hb (wSkip X.K c1 c i ts D) (X.pn ++ pins) _ fun u s' xx => ?_).run [] s σ H D (I.toTry _) hw) (fun fl s1 z => ?_) fun e s1 z => z)
  · obtain ⟨a, B, sI, pins', σ', H', cls, d, rfl, J', nb, up, sky, na, os, ag, no1, yes, go⟩ := xx
    have J : Inv X pins σ' H' sI := J'.ofTry ok
    refine L2N.Sky.land L2N.Zn.steady hfr hf (show Sky B (X.env :: X.outer) a (L2N.Zn cls d) X.env.locals s'.heap by rw [← hs]; exact sky) fun h3 f3 up3 => ?_
    have J3 : Inv X pins σ' H' { s' with heap := h3 } := J.landed nb f3.1 (up.trans up3) os ag
    obtain ⟨o3, v3, e3, z3, d3⟩ := f3.there
    have nfr : a ∉ frs (X.env :: X.outer) := fun hm => by
      obtain ⟨_, o', e', hnf⟩ := f3.2.2.1.mem hm
      rw [e3] at e'; cases e'
      exact hnf _ d3
    have nL : a ≠ X.env.locals := fun z => nfr (List.mem_filterMap.mpr ⟨X.env, List.mem_cons_self, by rw [hf, z]⟩)
    have nF : a ∉ X.fs := fun hm => by
      obtain ⟨ev, he, q⟩ := List.mem_filterMap.mp hm
      exact nfr (List.mem_filterMap.mpr ⟨ev, List.mem_cons_of_mem _ he, q⟩)
    have S3 := J3.suite e3 d3 na nL nF
    have isC : PySem.W.Looks (model X.prog X.w) h3 (typeOf (.ref a)) cls := fun A Q E s k q => wpAny_typeOf_ref (k _ _ e3) (by rw [z3.1]; exact q)
    have named : ∀ {y : Str} {cv : Value} {q : Pos} {Q : Value → Shared → Prop} {E : Value → Shared → Prop}, Names X y cv → Q cv { s' with heap := h3 } → wpAny (model X.prog X.w) (X.A.mark (some (.ref a))) (eval (.Name y q) X.env) Q E { s' with heap := h3 } := fun {y cv q Q E} nm qq => by
      obtain ⟨g, db, m | ⟨m, v, nn⟩⟩ := nm
      · exact ld_glob (X := X.suite a ((a, o3) :: (X.pn ++ pins))) S3 g m qq db
      · exact ld_blt (X := X.suite a ((a, o3) :: (X.pn ++ pins))) S3 g m v qq nn db
    refine wpAny_handleBy_cons (codeAny_handlers_test (named hc1 ((PySem.W.exm_one (M := model X.prog X.w) J3.kIn isC no1).here ?_))) (by intro q; cases q)
    show wpAny _ X.A (handleBy (.ref a) X.env [_]) _ _ _
    refine wpAny_handleBy_cons (codeAny_handlers_test (named hc ((PySem.W.exm_one (M := model X.prog X.w) J3.kIn isC yes).here ?_))) (by intro q; cases q)
    refine codeAny_handlers_suite_as (HandSPX.lands_againZ f3 fun h4 f4 up4 => ?_)
    have J4 : Inv X pins σ' H' { s' with heap := h4 } := J.landed nb f4.1 ((up.trans up3).trans up4) os ag
    obtain ⟨o4, v4, e4, z4, d4⟩ := f4.there
    have S4 := J4.suite e4 d4 na nL nF
    refine store_ok (X := X.suite a ((a, o4) :: (X.pn ++ pins))) (v := .ref a) S4 hN hi (.inl hln) rfl (fun s5 S5 => ?_) (.inr hln)
    refine wpAny_mono ((hsu a o4 cls d (X.pn ++ pins) (held_suite z4 ⟨_, d4⟩)).run [] s5 _ H' _ S5 (go a na)) (fun fl s6 z => ?_) (fun _ _ z => z.elim)
    have back : ∀ {σ6 : L2.St} {H6 : Hp} {Q : Shared → Prop}, Inv (X.suite a ((a, o4) :: (X.pn ++ pins))) [] σ6 H6 s6 → (∀ s7, Inv X pins (σ6.set i none) H6 s7 → Q s7) →
        wpAny (model X.prog X.w) X.A (do bindName X.env n .none; unbindBehindTheSuite X.env n pos') (fun _ s7 => Q s7) X.xe s6 := fun {σ6 H6 Q} S6 hq => gone_ok (S6.unsuite ok) hN hi hln hq
    cases fl with
    | next => obtain ⟨σ6, H6, S6, q6⟩ := z; exact back S6 fun s7 J7 => ⟨_, _, J7, q6⟩
    | brk => obtain ⟨σ6, H6, S6, q6⟩ := z; exact back S6 fun s7 J7 => ⟨_, _, J7, q6⟩
    | cont => obtain ⟨σ6, H6, S6, q6⟩ := z; exact back S6 fun s7 J7 => ⟨_, _, J7, q6⟩
    | ret u => obtain ⟨v6, σ6, H6, S6, r6, q6⟩ := z; exact back S6 fun s7 J7 => ⟨_, _, _, J7, r6, q6⟩
  · cases fl with
    | next => obtain ⟨σ', H', J', q⟩ := z; exact wpAny_execs_nil ⟨σ', H', J'.ofTry ok, q⟩
    | brk => obtain ⟨σ', H', J', q⟩ := z; exact ⟨σ', H', J'.ofTry ok, q⟩
    | cont => obtain ⟨σ', H', J', q⟩ := z; exact ⟨σ', H', J'.ofTry ok, q⟩
    | ret u => obtain ⟨v, σ', H', J', r, q⟩ := z; exact ⟨v, σ', H', J'.ofTry ok, r, q⟩
/-- one clause that takes all: except x as n -/
theorem ps_try_all (hs : X.stack = X.env :: X.outer) (hf : X.env.frame = some X.env.locals) (hN : X.N.Nodup) (hi : X.N[i]? = some n) (hln : X.env.kindOf n = some .local) (hc : Names X x c)
    (hb : ∀ (W : WX) (pn : List (Addr × Obj)) (xe : Value → Shared → Prop), L2N.Takes (X.tr pn xe) W → PSs (X.tr pn xe) body (tb W))
    (hsu : ∀ (a : Addr) (oe : Obj) (cls : Value) (d : Option Addr) (pn : List (Addr × Obj)), Held (X.suite a ((a, oe) :: pn)) (a, oe) cls d → PSs (X.suite a ((a, oe) :: pn)) (b₀ :: suite) (ts a cls d)) :
    PS X (.Try body [.ExceptHandler (some (.Name x np)) (some n) (b₀ :: suite) pos'] [] [] pos) (fun D σ H => tb (wAs X.K c i ts (fun _ _ _ _ => False) D) D σ H) :=
  L2N.ps_try_as hs hf hN hi hln hc (fun _ _ ⟨_, _, _, _, _, _, _, _, _, _, _, _, _, _, _, _, w⟩ => w.elim) (fun W pn xe tk _ => hb W pn xe tk) fun a oe cls d pn z f => hsu a oe cls d pn (held_suite z f)
end
end Fb
namespace Fb
open PySem PySem.Spec PyProof.Rows L2 L2H HotX
/-- an own exception class under its name, its __init__ keeping sp -/
structure MkN (P : Program) (w : World) (K : PySem.W.Frag) (mg : Str → Option Value) (base : Heap) (k : Nat) (x : Str) (C : Addr) (sp : Sp) : Prop where
  ex : ∃ (f : Addr) (fd : FuncData) (ps : List Str), OexC K C ∧ PySem.W.findIn K (.ref C) "__init__" = some (some (.ref f)) ∧ PySem.W.typeIn K (.ref f) = some (.type "function") ∧ FnOk P w K mg base CX0 k f fd ps sp ∧ Binds K fd ps [] ∧ mg x = some (.ref C)
theorem pmk_N {X : Cx} {x : Str} {e : Expr} {es : List Expr} {ta : TA} {p pos : Pos} {C : Addr} {k j : Nat} {sp : Sp} (c : MkN X.prog X.w X.K X.mg X.base k x C sp) (hr : Room j X.A) (hk : k + 1 ≤ j) (hg : Gl X x) (ha : PA X (e :: es) ta)
    (hdb : (x == ("__debug__" : Str)) = false := by decide) (he : starEach (e :: es) X.env = (false, eval e X.env) :: starEach es X.env := by rfl) (hpl : (backTo pos (starEach es X.env)).any (·.1) = false := by rfl) :
    L2N.PMk X (.Call (.Name x p) (e :: es) [] pos) (tMkO C sp [] ta) := by
  obtain ⟨f, fd, ps, T, i, t, F, b, m⟩ := c.ex
  exact pmk_oexN T i t F hr hk b hg m ha hdb he hpl
/-- what such an __init__ leaves: the fields ns, in the order of the arguments -/
def spI (K : PySem.W.Frag) (ns : List Str) : Sp := fun vs H Q _ => ∃ (a C : Addr) (ys : List V), vs = .ref a :: ys ∧ ys.length = ns.length ∧ OexC K C ∧ (∀ f ∈ ns, PySem.W.findIn K (.ref C) f = some none) ∧ H a = some (exo a C none) ∧
  ∀ (dx : Addr) (H' : Hp), H dx = none → dx ≠ a → H' a = some (exo a C (some dx)) → H' dx = some (exd dx (ns.zip ys).reverse) → (∀ b, b ≠ a → b ≠ dx → H' b = H b) → Q .non H'
end Fb
set_option Elab.async false
set_option linter.all false
set_option maxRecDepth 100000
set_option maxHeartbeats 2000000
namespace VL
open PySem PySem.Spec PyProof.Rows L2
/-- a def that makes cells of its own, by its body -/
theorem fn_runM {K : PySem.W.Frag} {pM M2 : List Sh} {rsh : Sh} {sp : VSp} {W : XW} {exV : (Exn → Env → Prop) → QX} {ts : TS} {f : VTS} {N : List Str} {vs : List V} {H : Hp} {Q : VK} {E : XK} (hN : N.length = (pM ++ M2).length)
    (hb : ∀ (H0 : Hp) (io av : Addr → Prop) (rt : List (Nat × V)), (∀ i, i ∉ ioIx pM 0 → ∀ p ∈ rt, p.1 ≠ i) → VS ⟨K, H0, io, av, pM ++ M2, rt⟩ W rsh ts f)
    (hx : ∀ (Qx : Exn → Env → Prop) (c : Vc) (T : List Tm) (x : Exn) (d : Option Addr) (σ : L2.St) (e : Env) (H' : Hp), c.M = pM ++ M2 → R c T σ e H' → XAt H' x d → exV Qx x e → (∀ ps, ps = ioP pM e → Qx x ps → E (.ref x.C) d H') → W (.ref x.C) d σ H')
    (hsp : ∀ (ds : List D) (Qv : D → Env → Prop) (Qx : Exn → Env → Prop), ds.length = pM.length → sp ds Qv Qx → f ⟨fun e => rsh = .s ∧ Qv .non (ioP pM e), fun r e => Qv r (ioP pM e), fun _ => False, fun _ => False, exV Qx⟩ (ds.map some ++ (nones M2 ++ [some (.mem [] [])])))
    (h : spOf K pM rsh sp vs H Q E) : ts { nx := fun _ H' => Q .non H', rt := Q } (L2.start N vs) H := by
  have hl := h.len
  obtain ⟨c, ds, Qv, Qx, rfl, rfl, rfl, h4, ⟨hdl, fT, fV, hX⟩, hs, hq, he⟩ := h
  have hr : ∀ i, i ∉ ioIx c.M 0 → ∀ p ∈ c.rt, p.1 ≠ i := fun i hi p hp z => hi (by
    rw [h4] at hp
    rw [← z]
    exact roots_ix _ _ _ p hp)
  have hst : L2.start N vs = vs.map some ++ List.replicate M2.length none := by
    unfold L2.start
    rw [hN, List.length_append, hl]
    congr 2
    omega
  have hfT : fT = [] := hX.tm
  subst hfT
  have start' : R ⟨c.K, c.H0, c.io, c.av, c.M ++ M2, c.rt⟩ [] (vs.map some ++ List.replicate M2.length none) (ds.map some ++ (List.replicate M2.length none ++ [some (.mem [] [])])) c.H0 := by
    refine ⟨[], fV, rfl, ?_, hX.nd, hX.fr, hX.kp, hX.tp, hX.al, hX.ok, fun p hp => ?_⟩
    · have z := RV.app (RV.nones (K := c.K) (ow := owOf c [] fV) (H := c.H0) M2) (hX.vr.strict (by rw [List.length_map]; exact hdl))
      rw [List.append_nil] at z
      exact ⟨_, [some (.mem [] [])], fV, [], by rw [List.append_assoc], by simp, z, rfl, trivial⟩
    · have z := hX.rt p hp
      rw [List.getElem?_append_left ((List.getElem?_eq_some_iff.mp z).1)]
      exact z
  have back : ∀ {T : List Tm} {σ : L2.St} {e : Env} {H' : Hp}, R ⟨c.K, c.H0, c.io, c.av, c.M ++ M2, c.rt⟩ T σ e H' → R c T (vs.map some) (ioP c.M e) H' := by
    rintro T σ e H' ⟨gT, gV, Y⟩
    obtain ⟨e0, tl, g0, gt, ee, eg, rv, _⟩ := Y.vr
    subst ee eg
    obtain ⟨σ1, σ2, e1, e2, f1, f2, a, b, cc, h6, h7⟩ := RV.unapp rv
    subst a b cc
    have sub : ∀ x, x ∈ gT ++ f1 → x ∈ gT ++ ((f1 ++ f2) ++ gt) := fun x z => by
      simp only [List.mem_append] at z ⊢
      rcases z with z | z <;> simp [z]
    have how : ∀ x, owOf c gT f1 x → owOf ⟨c.K, c.H0, c.io, c.av, c.M ++ M2, c.rt⟩ gT ((f1 ++ f2) ++ gt) x ∨ H' x = none := fun x z => by
      rcases z with z | z
      · exact .inl (.inl (sub x z))
      · exact .inl (.inr z)
    have l1 := h6.len
    rw [List.append_assoc, ioP_app l1.2]
    refine ⟨gT, f1, Y.tm.fr (fun _ _ q _ => q) (ExtT.refl H') how (fun _ _ _ q => q), .of ?_, ?_, fun x z => Y.fr x (sub x z), Y.kp, Y.tp, Y.al, Y.ok, fun p hp => ?_⟩
    · refine RV.io (n := 0) (h6.fr (fun _ _ q _ => q) (ExtT.refl H') how (fun _ _ _ q => q)) hl fun p hp => ?_
      have z := Y.rt p (by rw [h4]; exact hp)
      obtain ⟨j, a, b⟩ := roots_at _ _ _ p hp
      refine ⟨j, a, ?_⟩
      rw [Nat.zero_add] at a
      rw [a, List.getElem?_append_left (by
        rw [l1.1, ← hl]
        exact (List.getElem?_eq_some_iff.mp b).1)] at z
      exact z
    · have n := Y.nd
      rw [List.append_assoc, ← List.append_assoc] at n
      exact (List.nodup_append.mp n).1
    · have hp' := hp
      rw [h4] at hp'
      obtain ⟨j, a, b⟩ := roots_at _ _ _ p hp'
      rw [Nat.zero_add] at a
      rw [a, List.getElem?_map, b]
      rfl
  have lio : ∀ {T : List Tm} {σ : L2.St} {e : Env} {H' : Hp}, R ⟨c.K, c.H0, c.io, c.av, c.M ++ M2, c.rt⟩ T σ e H' → (ioP c.M e).length = c.M.length := fun r => ioP_len (by
    have z := r.len
    simp only [List.length_append] at z
    omega)
  rw [hst]
  have hsp' := hsp ds Qv Qx hdl hs
  rw [nones_eq] at hsp'
  refine hb c.H0 c.io c.av c.rt hr [] _ _ c.H0 _ _ start' hsp' ⟨fun σ e H' r q => ?_, fun v d σ e H' r q => hq v d _ H' (lio r) (back r) q, fun _ _ _ _ q => q.elim, fun _ _ _ _ q => q.elim, fun x d σ e H' r y q => hx Qx _ _ x d σ e H' rfl r y q fun ps ep z => ?_⟩
  · obtain ⟨e1, q⟩ := q
    subst e1
    obtain ⟨gT, gV, Y⟩ := r
    exact hq .non .non _ H' (lio ⟨gT, gV, Y⟩) (back ⟨gT, gV, Y.pushS rs_non⟩) q
  · subst ep
    exact he x d _ H' (lio r) (back r) y z
/-- .. of a def that raises nothing -/
theorem fn_runM0 {K : PySem.W.Frag} {pM M2 : List Sh} {rsh : Sh} {sp : VSp} {ts : TS} {f : VTS} {N : List Str} {vs : List V} {H : Hp} {Q : VK} {E : XK} (hN : N.length = (pM ++ M2).length)
    (hb : ∀ (H0 : Hp) (io av : Addr → Prop) (rt : List (Nat × V)), (∀ i, i ∉ ioIx pM 0 → ∀ p ∈ rt, p.1 ≠ i) → VS ⟨K, H0, io, av, pM ++ M2, rt⟩ W0 rsh ts f)
    (hsp : ∀ (ds : List D) (Qv : D → Env → Prop) (Qx : Exn → Env → Prop), ds.length = pM.length → sp ds Qv Qx → f ⟨fun e => rsh = .s ∧ Qv .non (ioP pM e), fun r e => Qv r (ioP pM e), fun _ => False, fun _ => False, fun _ _ => False⟩ (ds.map some ++ (nones M2 ++ [some (.mem [] [])])))
    (h : spOf K pM rsh sp vs H Q E) : ts { nx := fun _ H' => Q .non H', rt := Q } (L2.start N vs) H :=
  fn_runM (exV := fun _ _ _ => False) hN hb (fun _ _ _ _ _ _ _ _ _ _ _ z => z.elim) hsp h
/-! ### instances: made, asked -/
section
variable {c : Vc} {W : XW} {m : Md} {te : TE} {fe : VT} {tA : TA} {fA : VTA} {as : List (Option Nat)}
/-- the place of the cells gets one more that was not there -/
theorem RX.newM {fT fV : List Addr} {T : List Tm} {σ : L2.St} {e : Env} {H H' : Hp} {a : Addr} {d : D} {al : List Addr} {l : List D} (h : RX c fT fV T σ e H) (hm : e[c.M.length]? = some (some (.mem al l))) (s : Same H H') (ha : H a = none) (hro : ∀ ow', (∀ b, ow' b → owOf c fT fV b ∨ H b = none) → RO c.K ow' H' d (cellSh d) (.ref a) [a]) : ∃ fV', a ∉ al ∧ (∀ b, b ∈ fT ++ fV' → b ∈ fT ++ fV ∨ H b = none) ∧ RX c fT fV' T σ (newC c.M.length e a d) H' := by
  obtain ⟨e0, f0, ee, le0, ef, rv, rm⟩ := h.memAt hm
  have hna : a ∉ al := fun z => by
    obtain ⟨o, q, _⟩ := rm.at a z
    rw [ha] at q
    cases q
  have nd : al.Nodup := by
    have n := h.nd
    rw [ef] at n
    exact (List.nodup_append.mp (List.nodup_append.mp n).2.1).2.1
  obtain ⟨fV', hsub, X⟩ := h.setMem' (S := []) (as' := a :: al) (l' := d :: l) hm (fun b z => by cases z) (fun b o q _ => s b o q) (ExtT.same s) (fun b q z => q (by
    cases y : H b with
    | none => rfl
    | some o => rw [s b o y] at z; cases z)) (List.nodup_cons.mpr ⟨hna, nd⟩) (fun b z => (List.mem_cons.mp z).elim (fun q => .inr (by rw [q]; exact ha)) .inl) fun ow' how => ⟨hro ow' how, rm.fr (fun b o q _ => s b o q) (ExtT.same s) how (fun b _ o q => s b o q)⟩
  refine ⟨fV', hna, fun b z => ?_, ?_⟩
  · rcases List.mem_append.mp z with z | z
    · exact .inl (List.mem_append_left _ z)
    · rcases hsub b z with z | z
      · exact .inl (List.mem_append_right _ z)
      · rcases List.mem_cons.mp z with z | z
        · exact .inr (by rw [z]; exact ha)
        · exact .inl (by rw [ef]; simp [z])
  unfold newC
  rw [hm]
  exact X
def vMakeA (n k : Nat) (C : Addr) (as : List (Option Nat)) (sp : VSp) (fA : VTA) : VT := fun e Q Qx => fA e (fun ds e1 => ∃ full al l, fill as ds e1 = some full ∧ e1[n]? = some (some (.mem al l)) ∧ ∀ a, a ∉ al → sp (.ref a :: full ++ [.mem (a :: al) (.obj C [] [] :: l)]) (fun r ps => r = .non ∧ Q (.ref a) (putA n k (none :: as) ps (newC n e1 a (.obj C [] [])))) fun _ _ => False) Qx
theorem fill_new {n : Nat} {x : Option D} {M : List Sh} (hn : n = M.length) {ds : List D} {e : Env} : ∀ {as : List (Option Nat)} {pM : List Sh} {ds : List D} {e : Env}, ShOk M as pM → fill as ds (e.set n x) = fill as ds e
  | [], [], [], e, _ => rfl
  | [], [], _ :: _, e, _ => rfl
  | [], _ :: _, _, _, hs => by simp only [ShOk] at hs
  | none :: as, [], _, _, hs => by simp only [ShOk] at hs
  | some i :: as, [], _, _, hs => by simp only [ShOk] at hs
  | none :: as, sh :: pM, [], e, ⟨_, hs⟩ => rfl
  | none :: as, sh :: pM, d :: ds, e, ⟨_, hs⟩ => by
    simp only [fill]
    rw [fill_new hn hs (ds := ds) (e := e)]
    all_goals assumption
  | some i :: as, sh :: pM, ds, e, ⟨hM, _, _, hs⟩ => by
    have hi : n ≠ i := by
      have := (List.getElem?_eq_some_iff.mp hM).1
      omega
    simp only [fill]
    rw [List.getElem?_set_ne hi, fill_new hn hs (ds := ds) (e := e)]
    all_goals assumption
theorem ArgV.same {K : PySem.W.Frag} {ow ow' : Addr → Prop} {H H' : Hp} {σ : L2.St} (s : Same H H') (how : ∀ a, ow' a → ow a ∨ H a = none) : ∀ {as : List (Option Nat)} {vs : List V} {ds : List D}, ArgV K ow H σ as vs ds → ArgV K ow' H' σ as vs ds
  | [], _, _, h => h
  | none :: as, _, _, ⟨v, r, d, ss, a, b, q, t⟩ => ⟨v, r, d, ss, a, b, RS.fr (Fr.same s) how _ _ q, ArgV.same s how t⟩
  | some i :: as, _, _, ⟨v, r, a, b, t⟩ => ⟨v, r, a, b, ArgV.same s how t⟩
theorem v_makeA {pM : List Sh} {sp : VSp} {E : XK} {C : Addr} (hA : VAx c W tA as fA) (hs : ShOk c.M as pM) : VE c W .e (tMake C (spA c.K (.s :: pM) .s sp) [] E tA) .s (vMakeA c.M.length (pM.length + 1) C as sp fA) := fun T σ e H Q Qv Qx hR hf hn hx => by
  refine hA T σ e H _ _ Qx hR hf (fun fT fV vs ds e1 H1 X1 av ⟨full, al, l, hfl, hm, q⟩ => ?_) hx
  rw [List.append_nil]
  intro x dx hx0 hdx0 ne
  have s1 : Same H1 (L2.upd (L2.upd H1 dx (.own x)) x (.ins C dx [])) := fun b o z => by
    rw [upd_ne (ne_of_none z hx0), upd_ne (ne_of_none z hdx0)]
    exact z
  obtain ⟨fV', hna, hsub, X2⟩ := X1.newM (a := x) (d := .obj C [] []) hm s1 hx0 fun ow' how => RO.ocell (dx := dx) (vs := []) upd_same rfl .nil
  have hm2 : (newC c.M.length e1 x (.obj C [] []))[c.M.length]? = some (some (.mem (x :: al) (.obj C [] [] :: l))) := by
    unfold newC
    rw [hm]
    show (e1.set c.M.length _)[c.M.length]? = _
    rw [List.getElem?_set_self ((List.getElem?_eq_some_iff.mp hm).1)]
  have how2 : ∀ a, owOf c fT fV' a → owOf c fT fV a ∨ H1 a = none := fun a z => by
    rcases z with z | z
    · rcases hsub a z with z | z
      · exact .inl (.inl z)
      · exact .inr z
    · exact .inl (.inr z)
  have av2 : ArgV c.K (owOf c fT fV') (L2.upd (L2.upd H1 dx (.own x)) x (.ins C dx [])) σ (none :: as) (.ref x :: vs) (.ref x :: ds) := ⟨.ref x, vs, .ref x, ds, rfl, rfl, by simp only [RS], av.same s1 how2⟩
  refine spA_use (as := none :: as) (full := .ref x :: full) (Qv := fun r e' => r = .non ∧ Qv (.ref x) e') (Qx := fun _ _ => False) X2 av2 ?_ ⟨rfl, hs⟩ hm2 (q x hna) (fun v r e' H' r1 q1 => ?_) (fun _ _ _ _ _ _ z => z.elim)
  · simp only [fill]
    have e : newC c.M.length e1 x (.obj C [] []) = e1.set c.M.length (some (.mem (x :: al) (.obj C [] [] :: l))) := by
      unfold newC
      rw [hm]
    rw [e, fill_new rfl hs (ds := ds) (e := e1), hfl]
    · rfl
    all_goals assumption
  · obtain ⟨er, q1⟩ := q1
    subst er
    obtain ⟨gT, gV, Y⟩ := r1
    obtain ⟨ry, Y⟩ := Y.topS
    have z : v = .non := by simpa only [RS] using ry
    exact ⟨z, hn _ _ e' H' ⟨gT, gV, Y.pushS (by simp only [RS])⟩ Post.e q1⟩
end
end VL
set_option Elab.async false
set_option linter.all false
set_option maxRecDepth 100000
set_option maxHeartbeats 2000000
namespace VL
open PySem PySem.Spec PyProof.Rows L2 L2H HotX
/-! ### methods -/
theorem getF_no {α : Type} {f : Str} : ∀ {fs : List Str} {l : List α}, f ∉ fs → getF fs l f = none
  | [], _, _ => by simp [getF]
  | g :: fs, [], _ => by simp [getF]
  | g :: fs, x :: l, h => by
    rw [getF, if_neg (fun z => h (by rw [z]; exact List.mem_cons_self))]
    exact getF_no fun z => h (List.mem_cons_of_mem _ z)
section
variable {c : Vc} {W : XW} {m : Md} {te : TE} {fe : VT} {tA : TA} {fA : VTA} {as : List (Option Nat)}
def vMethA (n k : Nat) (C : Addr) (m : Str) (as : List (Option Nat)) (sp : VSp) (fe : VT) (fA : VTA) : VT := fun e Q Qx => fe e (fun x e1 => ∃ a fs l, x = .ref a ∧ Cell n e1 a (.obj C fs l) ∧ m ∉ fs ∧ fA e1 (fun ds e2 => ∃ full al l2, fill as ds e2 = some full ∧ e2[n]? = some (some (.mem al l2)) ∧ sp (.ref a :: full ++ [.mem al l2]) (fun r ps => Q r (putA n k (none :: as) ps e2)) fun _ _ => False) Qx) Qx
theorem v_methA {pM : List Sh} {rsh : Sh} {sp : VSp} {E : XK} {C : Addr} {nm : Str} (he : VQ c te fe) (hA : VAx c W tA as fA) (hs : ShOk c.M as pM) : VE c W .e (tMeth C nm (spA c.K (.s :: pM) rsh sp) [] E te tA) rsh (vMethA c.M.length (pM.length + 1) C nm as sp fe fA) := fun T σ e H Q Qv Qx ⟨fT, fV, hX⟩ hf hn hx =>
  he fT fV T σ e H _ _ Qx hX hf fun v d r ⟨a, fs, l, ed, hc, hno, q⟩ => by
    subst ed
    have z : v = .ref a := by simpa only [RS] using r
    subst z
    rcases (hX.cellB hc).2.2.cell with ⟨l', vs, e', _⟩ | ⟨ks, l', vs, e', _⟩ | ⟨C', fs', l', dx, vs, e', ha, n, rs⟩ | ⟨_, _, _, _, _, _, e', _⟩
    · cases e'
    · cases e'
    rotate_left
    · cases e'
    cases e'
    refine ⟨a, dx, _, rfl, ha, by rw [lookup_zip]; exact getF_no hno, ?_⟩
    refine hA T σ e H _ _ Qx ⟨fT, fV, hX⟩ q (fun fT1 fV1 vs1 ds e1 H1 X1 av ⟨full, al, l2, hfl, hm, q⟩ => ?_) hx
    rw [List.append_nil]
    exact spA_use (as := none :: as) (full := .ref a :: full) (Qx := fun _ _ => False) X1 ⟨.ref a, vs1, .ref a, ds, rfl, rfl, by simp only [RS], av⟩ (by simp only [fill, hfl]; rfl) ⟨rfl, hs⟩ hm q (fun v r e' H' r1 q1 => hn v r e' H' r1 Post.e q1) (fun _ _ _ _ _ _ z => z.elim)
/-! ### raising -/
theorem rev_zip {α β : Type} : ∀ {a : List α} {b : List β}, a.length = b.length → (a.zip b).reverse = a.reverse.zip b.reverse
  | [], [], _ => rfl
  | x :: a, y :: b, h => by
    rw [List.zip_cons_cons, List.reverse_cons, List.reverse_cons, List.reverse_cons, rev_zip (Nat.succ.inj h), List.zip_append (by rw [List.length_reverse, List.length_reverse]; exact Nat.succ.inj h)]
    rfl
  | [], _ :: _, h => by cases h
  | _ :: _, [], h => by cases h
def vRaise (C : Addr) (ns : List Str) (fA : VTA) : VTS := fun D e => fA e (fun ds e1 => ds.length = ns.length ∧ ds.all isSc = true ∧ D.ex ⟨C, ns.reverse, ds.reverse⟩ e1) D.ex
theorem vs_raise {rsh : Sh} {C : Addr} {ns : List Str} (hC : L2.OexC c.K C) (hF : ∀ f ∈ ns, PySem.W.findIn c.K (.ref C) f = some none) (hl : ns.length ≤ 1000) (hA : VA c W .e tA fA) : VS c W rsh (fun _ σ H => tMkO C (Fb.spI c.K ns) [] tA σ H fun cls d H' => W cls d σ H') (vRaise C ns fA) := fun T σ e H D Dv hR hf L =>
  hA T σ e H _ _ Dv.ex hR hf (fun fT fV vs ds e1 H1 X1 rs _ ⟨hlen, hsc, q⟩ => by
    have hv := rs.sc hsc
    have lv := rs.len
    refine ⟨by omega, fun a ha => ?_⟩
    rw [List.append_nil]
    refine ⟨a, C, vs, rfl, by omega, hC, hF, upd_same, fun dx H2 hdx ne h1 h2 h3 => ⟨rfl, dx, _, h1, h2, by rw [upd_ne ne] at hdx; exact hdx, ?_⟩⟩
    have hdx1 : H1 dx = none := by rw [upd_ne ne] at hdx; exact hdx
    have s : Same H1 (L2.upd (L2.del H2 a) dx (.xd (ns.zip vs).reverse)) := fun b o z => by
      have nb : b ≠ a := ne_of_none z ha
      have nd : b ≠ dx := ne_of_none z hdx1
      rw [upd_ne nd]
      show L2.del H2 a b = _
      unfold L2.del
      rw [if_neg nb, h3 b nb nd, upd_ne nb]
      exact z
    refine L.ex ⟨C, ns.reverse, ds.reverse⟩ (some dx) σ e1 _ ⟨fT, fV, X1.same s⟩ (.inr ⟨dx, rfl, ?_, by simp; omega, by simpa using hsc⟩) q
    show L2.upd _ dx _ dx = _
    rw [upd_same, rev_zip (by omega), hv, List.map_reverse]) (fun x d e' H' r y q => L.ex x d σ e' H' r y q)
/-! ### try .. except X as n -/
theorem RX.base {fT fV : List Addr} {T : List Tm} {σ : L2.St} {e : Env} {H : Hp} {rt : List (Nat × V)} (h : RX c fT fV T σ e H) (hr : ∀ p ∈ rt, σ[p.1]? = some (some p.2)) : RX ⟨c.K, H, fun a => a ∈ fT ++ fV, c.av, c.M, rt⟩ fT fV T σ e H :=
  ⟨h.tm, h.vr, h.nd, fun a z => .inl z, fun b o q _ => q, ExtT.refl H, fun b q => q, fun a z => ⟨h.avn z, fun y => by
    rcases h.fr a y with w | w
    · exact (h.ok a z).2 w
    · exact (h.ok a z).1 w⟩, hr⟩
theorem RX.unbase {fT fV gT gV : List Addr} {T T' : List Tm} {σ σ' : L2.St} {e e' : Env} {H H' : Hp} {rt : List (Nat × V)} (h : RX c fT fV T σ e H) (hr : ∀ p ∈ c.rt, σ'[p.1]? = some (some p.2)) (Y : RX ⟨c.K, H, fun a => a ∈ fT ++ fV, c.av, c.M, rt⟩ gT gV T' σ' e' H') : RX c gT gV T' σ' e' H' :=
  have f1 : ∀ a ∈ gT ++ gV, c.io a ∨ c.H0 a = none := fun a z => by
    rcases Y.fr a z with w | w
    · exact h.fr a w
    · exact .inr (h.new w).2
  have f2 : ∀ b o, c.H0 b = some o → ¬ c.io b → H' b = some o := fun b o q n => Y.kp b o (h.kp b o q n) fun z => by
    rcases h.fr b z with w | w
    · exact n w
    · rw [w] at q
      cases q
  ⟨Y.tm, Y.vr, Y.nd, f1, f2, h.tp.trans Y.tp, fun b q => Y.al b (h.al b q), h.ok, hr⟩
def vTry (i : Nat) (xs : List (Addr × List Str)) (fb : VTS) (fs : Exn → VTS) : VTS := fun D e => fb { D with ex := fun x e1 => (x.C, x.fs) ∈ xs ∧ fs x { nx := fun e2 => D.nx (e2.set i none), rt := D.rt, bk := fun e2 => D.bk (e2.set i none), ct := fun e2 => D.ct (e2.set i none), ex := D.ex } (e1.set i none) } e
theorem vs_try {rsh : Sh} {i : Nat} {CB : Value} {xs : List (Addr × List Str)} {tb : WX → TS} {ts : Addr → Value → Option Addr → TS} {fb : VTS} {fs : Exn → VTS} (hM : i < c.M.length) (hi : ∀ p ∈ c.rt, p.1 ≠ i) (hxs : ∀ p ∈ xs, PySem.W.exmOne c.K (.ref p.1) CB = some true) (hb : ∀ W', VS c W' rsh (tb W') fb)
    (hsu : ∀ (H0 : Hp) (io : Addr → Prop) (a : Addr) (d : Option Addr) (x : Exn), XAt H0 x d → (x.C, x.fs) ∈ xs → VS ⟨c.K, H0, io, c.av, c.M, (i, .ref a) :: c.rt⟩ W rsh (ts a (.ref x.C) d) (fs x)) :
    VS c W rsh (fun D σ H => tb (wAs c.K CB i ts W D) D σ H) (vTry i xs fb fs) := fun T σ e H D Dv hR hf L =>
  hb _ T σ e H D _ hR hf ⟨L.nx, L.rt, L.bk, L.ct, fun x d σ1 e1 H1 R1 y ⟨hx, q⟩ => by
    refine ⟨true, hxs _ hx, fun _ a ha => ?_, fun z => by cases z⟩
    obtain ⟨fT, fV, X1⟩ := R1.forget (i := i) (x := some (.ref a)) hi
    have ls : i < σ1.length := by
      have z := R1.len.1
      omega
    have X2 := X1.base (rt := (i, .ref a) :: c.rt) fun p hp => by
      rcases List.mem_cons.mp hp with z | z
      · subst z
        exact List.getElem?_set_self ls
      · exact X1.rt p z
    have back : ∀ {T'} {σ'} {e'} {H'}, R ⟨c.K, H1, fun a => a ∈ fT ++ fV, c.av, c.M, (i, .ref a) :: c.rt⟩ T' σ' e' H' → R c T' σ' e' H' := by
      rintro T' σ' e' H' ⟨gT, gV, Y⟩
      exact ⟨gT, gV, X1.unbase (fun p hp => Y.rt p (List.mem_cons_of_mem _ hp)) Y⟩
    exact hsu H1 _ a d x y hx T _ _ H1 _ _ ⟨fT, fV, X2⟩ q ⟨fun σ' e' H' r z => L.nx _ _ H' ((back r).forget hi) z, fun v d σ' e' H' r z => L.rt v d σ' e' H' (back r) z, fun σ' e' H' r z => L.bk _ _ H' ((back r).forget hi) z, fun σ' e' H' r z => L.ct _ _ H' ((back r).forget hi) z, fun x d σ' e' H' r y z => L.ex x d σ' e' H' (back r) y z⟩⟩
/-- isinstance(n, C) -/
def kits (l : List (Addr × Bool)) (C : Addr) : Option Bool := (l.find? fun p => p.1 = C).map (·.2)
theorem xat_tp {H H' : Hp} {x : Exn} {d : Option Addr} (t : ExtT H H') (y : XAt H x d) : XAt H' x d := by
  rcases y with y | ⟨dd, e, h, r⟩
  · exact .inl y
  · exact .inr ⟨dd, e, t _ _ h True.intro, r⟩
theorem xat_dict {H : Hp} {x : Exn} {d : Option Addr} (y : XAt H x d) : Fb.DictAt d H := by
  rcases y with ⟨_, _, y⟩ | ⟨dd, e, h, r⟩
  · exact .inl y
  · exact .inr ⟨dd, _, e, h⟩
theorem q_isX {i : Nat} {a : Addr} {d : Option Addr} {x : Exn} {H0 : Hp} {io av : Addr → Prop} {K : PySem.W.Frag} {M : List Sh} {rt : List (Nat × V)} {N : Addr} {b : Bool} (y : XAt H0 x d) (hE : L2.ExcC K x.C) (hk : PySem.W.kitOne K (.ref x.C) (.ref N) = some b) : VQ ⟨K, H0, io, av, M, (i, .ref a) :: rt⟩ (tCB (Fb.rIsX K a (.ref x.C) d) (tCons (tVar i) (tCons (tC (.ref N)) tNil))) (vC (.bl b)) := fun fT fV T σ e H Q Qv Qx hR q hn => by
  have hv := hR.rt (i, .ref a) List.mem_cons_self
  refine ⟨_, hv, x.C, .ref N, .ref N, b, rfl, rfl, hE, ?_, hk, ?_, hn _ _ rs_bl q⟩
  · exact .own N
  · exact xat_dict (xat_tp hR.tp y)
def vXf (x : Exn) (f : Str) : VT := fun e Q _ => ∃ dv, getF x.fs x.ds f = some dv ∧ Q dv e
theorem getF_mapS {f : Str} : ∀ {fs : List Str} {l : List D} {d : D}, getF fs l f = some d → l.all isSc = true → getF fs (l.map scV) f = some (scV d) ∧ isSc d = true
  | [], _, _, h, _ => by simp [getF] at h
  | g :: fs, [], _, h, _ => by simp [getF] at h
  | g :: fs, x :: l, d, h, a => by
    rw [List.all_cons, Bool.and_eq_true] at a
    simp only [List.map_cons, getF] at h ⊢
    by_cases e : g = f
    · rw [if_pos e] at h ⊢
      cases h
      exact ⟨rfl, a.1⟩
    · rw [if_neg e] at h ⊢
      exact getF_mapS h a.2
theorem q_xf {i : Nat} {a : Addr} {d : Option Addr} {x : Exn} {H0 : Hp} {io av : Addr → Prop} {K : PySem.W.Frag} {M : List Sh} {rt : List (Nat × V)} {f : Str} (y : XAt H0 x d) (hE : XfC K x.C) (hk : PySem.W.findIn K (.ref x.C) f = some none) : VQ ⟨K, H0, io, av, M, (i, .ref a) :: rt⟩ (Fb.tXfX K a (.ref x.C) d f (tVar i)) (vXf x f) := fun fT fV T σ e H Q Qv Qx hR q hn => by
  have hv := hR.rt (i, .ref a) List.mem_cons_self
  obtain ⟨dv, hg, q⟩ := q
  rcases xat_tp hR.tp y with ⟨y1, _⟩ | ⟨dd, ed, hd, hl, hsc⟩
  · rw [y1] at hg
    simp [getF] at hg
  · obtain ⟨h1, h2⟩ := getF_mapS hg hsc
    exact ⟨_, hv, rfl, x.C, dd, _, _, rfl, hE, hk, ed, hd, by rw [lookup_zip]; exact h1, hn _ _ (rs_sc h2) q⟩
end
end VL
set_option Elab.async false
set_option linter.all false
set_option maxRecDepth 100000
set_option maxHeartbeats 4000000
/-! list(zip(a, b)), and zip of a text and a list, over what the iterators draw -/
namespace Fb
open PySem PySem.Spec PyProof.Rows
section
variable {prog : Program} {w : World} {A : Around} {E : Value → Shared → Prop} {s : Shared} {z TI TO i1 i2 T : Addr} {fp1 fp2 : List Addr} {n1 n2 i : Nat} {P1 P2 : Nat → Value → Prop} {St1 St2 : Nat → Heap → Prop} {f : Bool} {oT : Obj}
/-- the next pair of a zip whose first pair is still held by somebody: a new tuple -/
theorem held_item {Q : Option Value → Shared → Prop} (S : ZipSep2 z TI TO i1 i2 fp1 fp2) (D1 : Draws prog w A.in1 i1 fp1 n1 P1 St1) (D2 : Draws prog w A.in1 i2 fp2 n2 P2 St2) (hz : IsZipHeld s.heap z TI TO T f) (hT : s.heap.get? T = some oT)
    (hTI : IsTupOf2 s.heap TI (.ref i1) (.ref i2)) (a1 : St1 i s.heap) (a2 : St2 i s.heap) (l1 : i < n1) (l2 : i < n2)
    (hQ : ∀ x1 x2 h' tk, P1 i x1 → P2 i x2 → IsZipHeld h' z TI TO T true → St1 (i + 1) h' → St2 (i + 1) h' → IsTupOf2 h' s.heap.objs.size x1 x2 →
      (∀ c o, c ≠ z → c ≠ i1 → c ≠ i2 → s.heap.get? c = some o → h'.get? c = some o) → Q (some (.ref s.heap.objs.size)) { s with heap := h', toks := tk }) : wpAny (model prog w) A (pyNext (.ref z)) Q E s := by
  have ty : s.TypeIs (.ref z) "zip" := ⟨_, hz, rfl⟩
  unfold pyNext
  refine wpAny_bind (wpAny_attempt (wpAny_callSpecial?_slot (name := Str.ofString "__next__") ty F.slot_zip_next (wpAny_call_entry F.slot_zip_next ty F.entry_zip_next ?_ (F.args_zip_next_1 _))))
  show wpAny _ _ (field (.ref z) 2 >>= _) _ _ _
  refine wpAny_bind (wpAny_field hz rfl (x := .bool false) rfl ?_)
  show wpAny _ _ (field (.ref z) 3 >>= _) _ _ _
  refine wpAny_bind (wpAny_field hz rfl (x := .ref TI) rfl (wpAny_bind (wpAny_seqItems hTI rfl ?_)))
  show wpAny _ _ (Builtin.SmallTypes.ownedTupleIsFree (.ref z) >>= _) _ _ _
  refine wpAny_bind (wpAny_tupleHeld_zip hz hT fun g1 z1 s1 => ?_)
  simp only [Bool.false_eq_true, if_false]
  refine wpAny_bind ?_
  rw [← Array.forIn_toList]
  simp only [List.forIn_cons, List.forIn_nil]
  refine wpAny_bind (wpAny_bind (wpAny_holding ?_))
  show wpAny _ _ (Builtin.SmallTypes.nextOf (.ref i1) >>= _) _ _ _
  refine wpAny_bind (D1.item i { s with heap := g1 } _ _ l1 (D1.over a1 s1 S.zf1) fun x1 g2 t2 p1 b1 s2 => wpAny_pure (wpAny_pure ?_))
  have s2 : Heap.SameBut i1 g1 g2 := s2
  refine wpAny_bind (wpAny_bind (wpAny_holding ?_))
  show wpAny _ _ (Builtin.SmallTypes.nextOf (.ref i2) >>= _) _ _ _
  refine wpAny_bind (D2.item i { s with heap := g2, toks := t2 } _ _ l2 (D2.over (D2.over a2 s1 S.zf2) s2 S.sep1_2) fun x2 g3 t3 p2 b2 s3 => wpAny_pure (wpAny_pure (wpAny_pure ?_)))
  have s3 : Heap.SameBut i2 g2 g3 := s3
  show wpAny _ _ (newTuple [x1, x2] >>= _) _ _ _
  refine wpAny_bind (wpAny_newTuple (wpAny_pure ⟨_, rfl, wpAny_pure ?_⟩))
  have es : g3.objs.size = s.heap.objs.size := by rw [s3.1, s2.1, s1.1]
  show Q (some (.ref g3.objs.size)) _
  have zz : IsZipHeld (g3.push { cls := .type "tuple", data := .seq #[x1, x2] }) z TI TO T true := Heap.get?_push_of_some _ (s3.extBut _ _ S.zi2 (s2.extBut _ _ S.zi1 z1))
  have tt : IsTupOf2 (g3.push { cls := .type "tuple", data := .seq #[x1, x2] }) g3.objs.size x1 x2 := Heap.get?_push_size _ rfl
  rw [es] at tt ⊢
  exact hQ x1 x2 _ t3 p1 p2 zz (D1.frame _ _ _ (D1.over b1 s3 S.sep2_1) fun b _ o e => Heap.get?_push_of_some _ e) (D2.frame _ _ _ b2 fun b _ o e => Heap.get?_push_of_some _ e) tt fun c o c1 c2 c3 e => Heap.get?_push_of_some _ (s3.extBut _ _ c3 (s2.extBut _ _ c2 (s1.extBut _ _ c1 e)))
theorem held_end {Q : Option Value → Shared → Prop} (S : ZipSep2 z TI TO i1 i2 fp1 fp2) (D1 : Draws prog w A.in1 i1 fp1 n1 P1 St1) (D2 : Draws prog w A.in1 i2 fp2 n2 P2 St2) (hz : IsZipHeld s.heap z TI TO T f) (hT : s.heap.get? T = some oT)
    (hTI : IsTupOf2 s.heap TI (.ref i1) (.ref i2)) (a1 : St1 i s.heap) (a2 : St2 i s.heap) (l1 : i ≤ n1) (l2 : i ≤ n2) (le : i = n1 ∨ i = n2)
    (hQ : ∀ h' tk, (∀ c o, c ≠ z → c ≠ i1 → c ≠ i2 → s.heap.get? c = some o → h'.get? c = some o) → Q none { s with heap := h', toks := tk }) : wpAny (model prog w) A (pyNext (.ref z)) Q E s := by
  have ty : s.TypeIs (.ref z) "zip" := ⟨_, hz, rfl⟩
  have stop : ∀ h' tk e, (∀ c o, c ≠ z → c ≠ i1 → c ≠ i2 → s.heap.get? c = some o → h'.get? c = some o) → (∃ o, h'.get? e = some o ∧ o.cls = .type "StopIteration") →
      wpAny (model prog w) A (do let b ← isInstance (.ref e) (.type "StopIteration"); if b = true then pure none else throw (.ref e)) Q E { s with heap := h', toks := tk } := fun h' tk e hk ⟨o, ho, hc⟩ =>
    wpAny_bind (wpAny_isInstance (T := "StopIteration") (b := true) ⟨o, ho, hc⟩ isSubtype_stop (wpAny_pure (hQ h' tk hk)))
  unfold pyNext
  refine wpAny_bind (wpAny_attempt (wpAny_callSpecial?_slot (name := Str.ofString "__next__") ty F.slot_zip_next (wpAny_call_entry F.slot_zip_next ty F.entry_zip_next ?_ (F.args_zip_next_1 _))))
  show wpAny _ _ (field (.ref z) 2 >>= _) _ _ _
  refine wpAny_bind (wpAny_field hz rfl (x := .bool false) rfl ?_)
  show wpAny _ _ (field (.ref z) 3 >>= _) _ _ _
  refine wpAny_bind (wpAny_field hz rfl (x := .ref TI) rfl (wpAny_bind (wpAny_seqItems hTI rfl ?_)))
  show wpAny _ _ (Builtin.SmallTypes.ownedTupleIsFree (.ref z) >>= _) _ _ _
  refine wpAny_bind (wpAny_tupleHeld_zip hz hT fun g1 z1 s1 => ?_)
  simp only [Bool.false_eq_true, if_false]
  refine wpAny_bind ?_
  rw [← Array.forIn_toList]
  simp only [List.forIn_cons, List.forIn_nil]
  refine wpAny_bind (wpAny_bind (wpAny_holding ?_))
  show wpAny _ _ (Builtin.SmallTypes.nextOf (.ref i1) >>= _) _ _ _
  by_cases q : i < n1
  · have q2 : i = n2 := by omega
    refine wpAny_bind (D1.item i { s with heap := g1 } _ _ q (D1.over a1 s1 S.zf1) fun x1 g2 t2 p1 b1 s2 => wpAny_pure (wpAny_pure ?_))
    have s2 : Heap.SameBut i1 g1 g2 := s2
    refine wpAny_bind (wpAny_bind (wpAny_holding ?_))
    show wpAny _ _ (Builtin.SmallTypes.nextOf (.ref i2) >>= _) _ _ _
    refine wpAny_bind (D2.done { s with heap := g2, toks := t2 } _ _ (by rw [← q2]; exact D2.over (D2.over a2 s1 S.zf2) s2 S.sep1_2) fun g3 e s3 he => ?_)
    have s3 : Heap.ExtBut i2 g2 g3 := s3
    exact stop g3 t2 e (fun c o c1 c2 c3 y => s3 _ _ c3 (s2.extBut _ _ c2 (s1.extBut _ _ c1 y))) he
  · have q1 : i = n1 := by omega
    refine wpAny_bind (D1.done { s with heap := g1 } _ _ (by rw [← q1]; exact D1.over a1 s1 S.zf1) fun g2 e s2 he => ?_)
    have s2 : Heap.ExtBut i1 g1 g2 := s2
    exact stop g2 s.toks e (fun c o c1 c2 c3 y => s2 _ _ c2 (s1.extBut _ _ c1 y)) he
end
end Fb
namespace Fb
open PySem PySem.Spec PyProof.Rows L2
/-- an iterator over a list (true) or a tuple -/
def itr (k : Bool) (h : Heap) (it a : Addr) (i : Nat) : Prop := if k = true then h.IsListIter it a i else h.IsTupleIter it a i
def sqk (K : PySem.W.Frag) (H : Hp) (k : Bool) (a : Addr) (xs : List V) : Prop := if k = true then SqL K H a xs else SqT K H a xs
def clsk (k : Bool) : String := if k = true then "list_iterator" else "tuple_iterator"
theorem draws_of {X : Cx} {pins : List (Addr × Obj)} {σ : L2.St} {H : Hp} {s : Shared} {a : Addr} {xs : List V} (I : Inv X pins σ H s) (k : Bool) (h : sqk X.K H k a xs) :
    ∃ its : List Value, Vals xs its ∧ a < s.heap.objs.size ∧ (∀ (A : Around) (it : Addr), A.handled = none → a ≠ it → ∃ St : Nat → Heap → Prop, Draws X.prog X.w A it [it, a] its.toArray.size (fun i v => its.toArray[i]? = some v) St ∧ (∀ i, itr k s.heap it a i → St i s.heap) ∧ ∀ i h, St i h → itr k h it a i) ∧
      ∃ Hb : Heap → Prop, Begins (.ref a) { cls := .type (clsk k), data := .fields #[.ref a, .int 0 0] } Hb ∧ Hb s.heap := by
  cases k with
  | true =>
    obtain ⟨its, rv, p, _⟩ := I.list (show SqL X.K H a xs from h)
    exact ⟨its, rv, p.lt, fun A it hh hne => ⟨_, Draws.list hh it a hne its.toArray, fun i z => ⟨z, p.isList⟩, fun i h z => z.1⟩, _, begins_list a its.toArray, p.isList⟩
  | false =>
    obtain ⟨its, rv, p, _⟩ := I.tuple (show SqT X.K H a xs from h)
    have p : s.heap.IsTuple a its.toArray := p
    obtain ⟨o, ho, _⟩ := id p
    exact ⟨its, rv, Heap.lt_size ho, fun A it hh hne => ⟨_, Draws.tuple hh it a hne its.toArray, fun i z => ⟨z, p⟩, fun i h z => z.1⟩, _, begins_tuple a its.toArray, p⟩
theorem sqk_same {K : PySem.W.Frag} {H H' : Hp} {k : Bool} {a : Addr} {xs : List V} (e : ∀ o, H a = some o → H' a = some o) (h : sqk K H k a xs) : sqk K H' k a xs := by
  cases k with
  | true =>
    rcases (show SqL K H a xs from h) with h | h
    · rcases h with h | ⟨o, h⟩
      · exact .inl (.inl (e _ h))
      · exact .inl (.inr ⟨o, e _ h⟩)
    · exact .inr h
  | false =>
    rcases (show SqT K H a xs from h) with h | h
    · rcases h with h | ⟨o, h⟩
      · exact .inl (.inl (e _ h))
      · exact .inl (.inr ⟨o, e _ h⟩)
    · exact .inr h
/-- the pairs laid so far -/
def Prs (H : Hp) (xs ys : List V) (Ts : List Addr) : Prop := ∀ (j : Nat) (T : Addr), Ts[j]? = some T → ∃ x y, xs[j]? = some x ∧ ys[j]? = some y ∧ H T = some (.tup [x, y])
theorem lz_loop {X : Cx} {pins : List (Addr × Obj)} {σ : L2.St} {k1 k2 : Bool} {a b z TI TO i1 i2 S : Addr} {xs ys : List V} {A : Around} {R : Result → Shared → Prop} {res : Value} (hh : A.handled = none) (Sp : ZipSep2 z TI TO i1 i2 [i1, a] [i2, b]) (nS : S ∉ [z, TI, TO, i1, i2]) (nSa : S ≠ a) (nSb : S ≠ b) (na : a ≠ i1) (nb : b ≠ i2) (nTI : TI ∉ [z, TO, i1, i2])
    (hn : min xs.length ys.length < sizeLine) : ∀ (k i : Nat) (s : Shared) (H : Hp) (Ts : List Addr), min xs.length ys.length - i = k → i ≤ min xs.length ys.length → Inv X pins σ H s → (∀ c ∈ [z, TI, TO, i1, i2], FpOk X pins H c) → sqk X.K H k1 a xs → sqk X.K H k2 b ys → Ts.length = i → Prs H xs ys Ts → H S = some (.lst (Ts.map V.ref)) →
      IsTupOf2 s.heap TI (.ref i1) (.ref i2) → (∃ u v, IsTupOf2 s.heap TO u v) → itr k1 s.heap i1 a i → itr k2 s.heap i2 b i → (IsZip s.heap z TI TO .none ∨ ∃ T f oT, IsZipHeld s.heap z TI TO T f ∧ s.heap.get? T = some oT ∧ T ∉ [z, TO, i1, i2, S]) →
      (∀ s' H' Ts', Inv X pins σ H' s' → (∀ c o, c ≠ S → H c = some o → H' c = some o) → Ts'.length = min xs.length ys.length → Prs H' xs ys Ts' → H' S = some (.lst (Ts'.map V.ref)) → R (.ok (.ret res)) s') →
      codeAny (model X.prog X.w) A (.builtin "list.extend.loop" ⟨[.ref S, .ref z, res], []⟩) R s := by
  intro k
  induction k with
  | zero =>
    intro i s H Ts hk hi I hf qa qb hl hp hS tI tO u1 u2 hz hR
    obtain ⟨ia, ra, la, da, _⟩ := draws_of I k1 qa
    obtain ⟨ib, rb, lb, db, _⟩ := draws_of I k2 qb
    obtain ⟨S1, D1, f1, g1⟩ := da A.in1.in1 i1 hh na
    obtain ⟨S2, D2, f2, g2⟩ := db A.in1.in1 i2 hh nb
    have ea : ia.toArray.size = xs.length := by rw [List.size_toArray, ← ra.length]
    have eb : ib.toArray.size = ys.length := by rw [List.size_toArray, ← rb.length]
    refine codeAny_builtin F.entry_extend_loop ?_
    rw [Around.under_plainId F.plain_extend_loop _]
    show wpAny _ A.in1 (pyNext (.ref z) >>= _) _ _ s
    have fin : ∀ h' tk, (∀ c o, c ∉ [z, TI, TO, i1, i2] → s.heap.get? c = some o → h'.get? c = some o) → R (.ok (.ret res)) { s with heap := h', toks := tk } := fun h' tk kp => hR _ H Ts (I.turnedL (t' := tk) kp hf) (fun c o _ e => e) (by omega) hp hS
    refine wpAny_bind ?_
    rcases hz with hz | ⟨T, f, oT, hz, hT, nT⟩
    · obtain ⟨v1, v2, tO⟩ := tO
      exact wpAny_pyNext_zipD2_end Sp D1 D2 hz tI tO (f1 i u1) (f2 i u2) (by omega) (by omega) (by omega) fun h' tk kp => wpAny_pure (fin h' tk fun c o nc e => kp c o (fun q => nc (by simp [q])) (fun q => nc (by simp [q])) (fun q => nc (by simp [q])) (fun q => nc (by simp [q])) e)
    · exact held_end Sp D1 D2 hz hT tI (f1 i u1) (f2 i u2) (by omega) (by omega) (by omega) fun h' tk kp => wpAny_pure (fin h' tk fun c o nc e => kp c o (fun q => nc (by simp [q])) (fun q => nc (by simp [q])) (fun q => nc (by simp [q])) e)
  | succ k ih =>
    intro i s H Ts hk hi I hf qa qb hl hp hS tI tO u1 u2 hz hR
    obtain ⟨ia, ra, la, da, _⟩ := draws_of I k1 qa
    obtain ⟨ib, rb, lb, db, _⟩ := draws_of I k2 qb
    obtain ⟨S1, D1, f1, g1⟩ := da A.in1.in1 i1 hh na
    obtain ⟨S2, D2, f2, g2⟩ := db A.in1.in1 i2 hh nb
    have ea : ia.toArray.size = xs.length := by rw [List.size_toArray, ← ra.length]
    have eb : ib.toArray.size = ys.length := by rw [List.size_toArray, ← rb.length]
    refine codeAny_builtin F.entry_extend_loop ?_
    rw [Around.under_plainId F.plain_extend_loop _]
    show wpAny _ A.in1 (pyNext (.ref z) >>= _) _ _ s
    have lS : S < s.heap.objs.size := by
      obtain ⟨_, its, n, _, _, e⟩ := I.lstM hS
      exact Heap.lt_size e
    have go : ∀ x1 x2 h' tk, ia.toArray[i]? = some x1 → ib.toArray[i]? = some x2 → S1 (i + 1) h' → S2 (i + 1) h' → (∃ u v, IsTupOf2 h' TO u v) → (∃ T f oT, IsZipHeld h' z TI TO T f ∧ h'.get? T = some oT ∧ T ∉ [z, TO, i1, i2, S]) → IsTupOf2 h' s.heap.objs.size x1 x2 → (∀ c o, c ∉ [z, TO, i1, i2] → s.heap.get? c = some o → h'.get? c = some o) →
        wpAny (model X.prog X.w) A.in1 (updateSeq S (·.push (.ref s.heap.objs.size)) >>= fun _ => again (.builtin "list.extend.loop" ⟨[.ref S, .ref z, res], []⟩)) (fun fin s' => match fin with | .done f => R (.ok f) s' | .again c' => c'.quiet = true ∧ codeAny (model X.prog X.w) A c' R s') (fun e s' => R (.error e) s') { s with heap := h', toks := tk } := by
      intro x1 x2 h' tk e1 e2 w1 w2 wO wz wT kp
      obtain ⟨x, hx, rx⟩ : ∃ x, xs[i]? = some x ∧ RelV x x1 := by
        have : i < xs.length := by omega
        obtain ⟨u, hu, ru⟩ := ra.get (List.getElem?_eq_getElem this)
        have : some u = some x1 := by rw [← hu, ← e1]; simp
        cases this
        exact ⟨_, List.getElem?_eq_getElem _, ru⟩
      obtain ⟨y, hy, ry⟩ : ∃ y, ys[i]? = some y ∧ RelV y x2 := by
        have : i < ys.length := by omega
        obtain ⟨u, hu, ru⟩ := rb.get (List.getElem?_eq_getElem this)
        have : some u = some x2 := by rw [← hu, ← e2]; simp
        cases this
        exact ⟨_, List.getElem?_eq_getElem _, ru⟩
      have frT : H s.heap.objs.size = none := I.hok.fresh (Nat.le_refl _)
      have ob : ObjOk X.prog X.w (upd H s.heap.objs.size (.tup [x, y])) h' s.heap.objs.size (.tup [x, y]) := ⟨by show 2 ≤ sizeLine; decide, [x1, x2], .cons rx (.cons ry .nil), ⟨_, wT, rfl, _, rfl⟩⟩
      have J := I.turnedNew (t' := tk) (ch := [z, TI, TO, i1, i2]) (fun c o nc e => kp c o (fun q => nc (by simp at q ⊢; rcases q with q | q | q | q <;> simp [q])) e) hf (Nat.le_refl _) ob
      have hS2 : (upd H s.heap.objs.size (.tup [x, y])) S = some (.lst (Ts.map V.ref)) := by rw [upd_ne (Nat.ne_of_lt lS)]; exact hS
      obtain ⟨_, its, n, rv, el, eS⟩ := J.lstM hS2
      have sz : its.toArray.size = i := by rw [List.size_toArray, ← el, List.length_map]; exact hl
      refine wpAny_bind (wpAny_updateSeq eS rfl (wpAny_pure ⟨plainId_quiet F.plain_extend_loop _, ?_⟩) (by omega) (by rw [Array.size_push]; omega))
      have J2 := J.lset (f := (·.push (.ref s.heap.objs.size))) (its' := its ++ [.ref s.heap.objs.size]) (ys := (Ts ++ [s.heap.objs.size]).map V.ref) (t' := tk) hS2 eS (by simp) (by rw [List.map_append]; exact rv.append (.cons rfl .nil)) (by simp; omega)
      have oth : ∀ c o, c ≠ S → h'.get? c = some o → (h'.update S (Obj.mapSeq (·.push (.ref s.heap.objs.size)))).get? c = some o := fun c o nc e => (Heap.get?_update_other _ _ (Ne.symm nc)).trans e
      have nS' : ∀ c ∈ [z, TI, TO, i1, i2], c ≠ S := fun c hc q => nS (by rw [← q]; exact hc)
      have neT : ∀ c ∈ [z, TI, TO, i1, i2], c ≠ s.heap.objs.size := fun c hc q => by
        have fo := hf c hc
        have : ∃ o, s.heap.get? c = some o := by
          have hc' : c = z ∨ c = TI ∨ c = TO ∨ c = i1 ∨ c = i2 := by simpa using hc
          rcases hc' with q | q | q | q | q
          · subst q
            rcases hz with hz | ⟨_, _, _, hz, _⟩
            · exact ⟨_, hz⟩
            · exact ⟨_, hz⟩
          · subst q; exact ⟨_, tI⟩
          · subst q; obtain ⟨_, _, t⟩ := tO; exact ⟨_, t⟩
          · subst q; exact D1.live i _ (f1 i u1)
          · subst q; exact D2.live i _ (f2 i u2)
        obtain ⟨o, ho⟩ := this
        exact absurd (Heap.lt_size ho) (by rw [q]; exact Nat.lt_irrefl _)
      refine ih (i + 1) _ _ (Ts ++ [s.heap.objs.size]) (by omega) (by omega) J2 (fun c hc => ?_) (sqk_same (fun o e => ?_) qa) (sqk_same (fun o e => ?_) qb) (by simp [hl]) (fun j T hj => ?_) upd_same ?_ ?_ ?_ ?_ ?_ (fun s' H' Ts' J' kH l' p' S' => hR s' H' Ts' J' (fun c o nc e => kH c o nc ?_) l' p' S')
      · obtain ⟨q0, q1⟩ := hf c hc
        exact ⟨by rw [upd_ne (nS' c hc), upd_ne (neT c hc)]; exact q0, q1⟩
      · rw [upd_ne (Ne.symm nSa), upd_ne (fun q => absurd la (by rw [q]; exact Nat.lt_irrefl _))]; exact e
      · rw [upd_ne (Ne.symm nSb), upd_ne (fun q => absurd lb (by rw [q]; exact Nat.lt_irrefl _))]; exact e
      · by_cases q : j < Ts.length
        · rw [List.getElem?_append_left q] at hj
          obtain ⟨x', y', c1, c2, c3⟩ := hp j T hj
          refine ⟨x', y', c1, c2, ?_⟩
          rw [upd_ne (fun q => by subst q; rw [hS] at c3; cases c3), upd_ne (ne_of_none c3 frT)]
          exact c3
        · have q2 : j = Ts.length := by
            have := (List.getElem?_eq_some_iff.mp hj).1
            simp at this
            omega
          subst q2
          rw [List.getElem?_append_right (Nat.le_refl _), Nat.sub_self] at hj
          cases hj
          rw [hl]
          refine ⟨x, y, hx, hy, ?_⟩
          rw [upd_ne (Nat.ne_of_gt lS), upd_same]
      · exact oth _ _ (nS' TI (by simp)) (kp _ _ nTI tI)
      · obtain ⟨u, v, t⟩ := wO
        exact ⟨u, v, oth _ _ (nS' TO (by simp)) t⟩
      · exact g1 _ _ (D1.frame _ _ _ w1 fun c hc o e => oth c o (fun q => by
          have hc' : c = i1 ∨ c = a := by simpa using hc
          rcases hc' with h | h
          · exact nS' c (by simp [h]) q
          · exact nSa (by rw [← q, h])) e)
      · exact g2 _ _ (D2.frame _ _ _ w2 fun c hc o e => oth c o (fun q => by
          have hc' : c = i2 ∨ c = b := by simpa using hc
          rcases hc' with h | h
          · exact nS' c (by simp [h]) q
          · exact nSb (by rw [← q, h])) e)
      · obtain ⟨T, f, oT, t1, t2, t3⟩ := wz
        exact .inr ⟨T, f, oT, oth _ _ (nS' z (by simp)) t1, oth _ _ (fun q => t3 (by simp [q])) t2, t3⟩
      · rw [upd_ne nc, upd_ne (ne_of_none e frT)]
        exact e
    refine wpAny_bind ?_
    rcases hz with hz | ⟨T, f, oT, hz, hT, nT⟩
    · obtain ⟨v1, v2, tO⟩ := tO
      refine wpAny_pyNext_zipD2_item Sp D1 D2 hz tI tO (f1 i u1) (f2 i u2) (by omega) (by omega) fun x1 x2 h' tk p1 p2 z' tO' w1 w2 wT sz kp => go x1 x2 h' tk p1 p2 w1 w2 ⟨_, _, tO'⟩ ⟨s.heap.objs.size, false, _, z', wT, ?_⟩ wT fun c o nc e => kp c o (fun q => nc (by simp [q])) (fun q => nc (by simp [q])) (fun q => nc (by simp [q])) (fun q => nc (by simp [q])) e
      simp only [List.mem_cons, List.not_mem_nil, or_false, not_or]
      refine ⟨Nat.ne_of_gt (Heap.lt_size hz), Nat.ne_of_gt (Heap.lt_size tO), ?_, ?_, Nat.ne_of_gt lS⟩
      · obtain ⟨o, ho⟩ := D1.live i _ (f1 i u1)
        exact Nat.ne_of_gt (Heap.lt_size ho)
      · obtain ⟨o, ho⟩ := D2.live i _ (f2 i u2)
        exact Nat.ne_of_gt (Heap.lt_size ho)
    · obtain ⟨v1, v2, tO⟩ := tO
      simp only [List.mem_cons, List.not_mem_nil, or_false, not_or] at nT
      refine held_item Sp D1 D2 hz hT tI (f1 i u1) (f2 i u2) (by omega) (by omega) fun x1 x2 h' tk p1 p2 z' w1 w2 wT kp => go x1 x2 h' tk p1 p2 w1 w2 ⟨_, _, kp _ _ Sp.TOz Sp.Ti1 Sp.Ti2 tO⟩ ⟨T, true, oT, z', kp _ _ nT.1 nT.2.2.1 nT.2.2.2.1 hT, by simp [nT]⟩ wT fun c o nc e => kp c o (fun q => nc (by simp [q])) (fun q => nc (by simp [q])) (fun q => nc (by simp [q])) e
theorem zip_nolen : typeLookup (.type "zip") "__len__" = pure none := by rw [typeLookup_type, builtinLookup_eq_fast]; kernel_rfl
theorem zip_nohint : typeLookup (.type "zip") "__length_hint__" = pure none := by rw [typeLookup_type, builtinLookup_eq_fast]; kernel_rfl
section
variable {X : Cx} {pins : List (Addr × Obj)} {σ : L2.St} {H : Hp} {s : Shared} {k1 k2 : Bool} {a b z TI TO i1 i2 : Addr} {xs ys : List V}
theorem call_list_zip {A : Around} {E : Value → Shared → Prop} {Q : Value → Shared → Prop} (hh : A.handled = none) (I : Inv X pins σ H s) (hf : ∀ c ∈ [z, TI, TO, i1, i2], FpOk X pins H c) (Sp : ZipSep2 z TI TO i1 i2 [i1, a] [i2, b]) (na : a ≠ i1) (nb : b ≠ i2) (nTI : TI ∉ [z, TO, i1, i2]) (hn : min xs.length ys.length < sizeLine)
    (qa : sqk X.K H k1 a xs) (qb : sqk X.K H k2 b ys) (hz : IsZip s.heap z TI TO .none) (tI : IsTupOf2 s.heap TI (.ref i1) (.ref i2)) (tO : IsTupOf2 s.heap TO .none .none) (u1 : itr k1 s.heap i1 a 0) (u2 : itr k2 s.heap i2 b 0) (la : a < s.heap.objs.size) (lb : b < s.heap.objs.size) (l1 : i1 < s.heap.objs.size) (l2 : i2 < s.heap.objs.size)
    (hQ : ∀ s' H' Ts', Inv X pins σ H' s' → Same H H' → Ts'.length = min xs.length ys.length → Prs H' xs ys Ts' → H' s.heap.objs.size = some (.lst (Ts'.map V.ref)) → Q (.ref s.heap.objs.size) s') : wpAny (model X.prog X.w) A (call (.type "list") [.ref z]) Q E s := by
  have lz := Heap.lt_size hz
  have lI := Heap.lt_size tI
  have lO := Heap.lt_size tO
  have fr : H s.heap.objs.size = none := I.hok.fresh (Nat.le_refl _)
  refine callType_codes (Q₁ := fun obj s₁ => obj = .ref s.heap.objs.size ∧ s₁ = { s with heap := s.heap.push nilL }) PySem.F.called_list (PySem.F.typeCall_list_1 _) PySem.F.entry_list_init (code_list_new _ ⟨rfl, rfl⟩) fun obj s₁ h₁ => ?_
  obtain ⟨rfl, rfl⟩ := h₁
  have hS : (s.heap.push nilL).get? s.heap.objs.size = some nilL := Heap.get?_push_size _ rfl
  have J : Inv X pins σ (upd H s.heap.objs.size (.lst [])) { s with heap := s.heap.push nilL } := I.lnew (t' := s.toks) (its := []) .nil (Nat.zero_le _)
  refine ⟨⟨_, hS, rfl⟩, PySem.F.args_list_init_2 _ _, ?_⟩
  show wpAny _ _ (do let old ← Builtin.List.listItems (.ref s.heap.objs.size); Builtin.List.listUpdate (.ref s.heap.objs.size) (fun _ => #[]); letGo old.toList.reverse; Builtin.List.listExtendWith (.ref s.heap.objs.size) (.ref z) .none) _ _ _
  refine wpAny_bind ?_
  unfold Builtin.List.listItems
  refine wpAny_bind <| wpAny_seqItems hS rfl <| wpAny_pure ?_
  show wpAny _ _ (updateSeq s.heap.objs.size (fun _ => #[]) >>= fun _ => letGo (#[] : Array Value).toList.reverse >>= fun _ => Builtin.List.listExtendWith (.ref s.heap.objs.size) (.ref z) .none) _ _ _
  refine wpAny_bind <| wpAny_updateSeq hS rfl ?_
  have hS2 := Heap.get?_update_self (Obj.mapSeq (fun _ => (#[] : Array Value))) hS rfl
  have J2 := J.lset (f := fun _ => (#[] : Array Value)) (its := []) (its' := []) (ys := []) (t' := s.toks) upd_same hS rfl .nil (Nat.zero_le _)
  have up : ∀ c o, c < s.heap.objs.size → s.heap.get? c = some o → ((s.heap.push nilL).update s.heap.objs.size (Obj.mapSeq (fun _ => (#[] : Array Value)))).get? c = some o := fun c o hc e => (Heap.get?_update_other _ _ (Nat.ne_of_gt hc)).trans (Heap.get?_push_of_some _ e)
  refine wpAny_bind <| wpAny_letGo ?_
  generalize (s.heap.push nilL).update s.heap.objs.size (Obj.mapSeq (fun _ => (#[] : Array Value))) = h2 at hS2 J2 up
  have hz2 := up _ _ lz hz
  have ty : ({ s with heap := h2 } : Shared).TypeIs (.ref z) "zip" := ⟨_, hz2, rfl⟩
  have nS : Builtin.List.listSameRef (.ref s.heap.objs.size) (.ref z) = false := by
    simp [Builtin.List.listSameRef, Nat.ne_of_gt lz]
  unfold Builtin.List.listExtendWith
  refine wpAny_bind <| wpAny_typeOf ty ?_
  rw [if_neg <| by rw [nS]; decide]
  refine wpAny_bind <| wpAny_pyIter_zip hz2 ?_
  refine wpAny_bind <| wpAny_holding ?_
  unfold Builtin.List.listLengthHint
  refine wpAny_bind <| wpAny_specialOf ty zip_nolen ?_
  show wpAny _ _ (specialOf (Value.ref z) (Str.ofString "__length_hint__") >>= _) _ _ _
  refine wpAny_bind <| wpAny_specialOf ty zip_nohint ?_
  refine wpAny_pure ?_
  rw [if_pos <| by rfl]
  refine wpAny_bind (wpAny_rule ?_)
  unfold Builtin.List.listTouch
  refine wpAny_bind ?_
  show wpAny _ _ (updateSeq s.heap.objs.size (·.push .none) >>= fun _ => updateSeq s.heap.objs.size (·.pop)) _ _ _
  refine wpAny_bind <| wpAny_updateSeq hS2 rfl ?_
  have hS3 := Heap.get?_update_self (Obj.mapSeq (fun v : Array Value => v.push .none)) hS2 rfl
  have J3 := J2.lset (f := fun v : Array Value => v.push .none) (its := []) (its' := [.none]) (ys := [.non]) (t' := s.toks) upd_same hS2 rfl (.cons rfl .nil) (by show 1 ≤ sizeLine; decide)
  have up3 : ∀ c o, c < s.heap.objs.size → s.heap.get? c = some o → (h2.update s.heap.objs.size (Obj.mapSeq (fun v : Array Value => v.push .none))).get? c = some o := fun c o hc e => (Heap.get?_update_other _ _ (Nat.ne_of_gt hc)).trans (up c o hc e)
  generalize h2.update s.heap.objs.size (Obj.mapSeq (fun v : Array Value => v.push .none)) = h3 at hS3 J3 up3
  refine wpAny_updateSeq hS3 rfl ?_
  have J4 := J3.lset (f := fun v : Array Value => v.pop) (its := [.none]) (its' := []) (ys := []) (t' := s.toks) upd_same hS3 rfl .nil (Nat.zero_le _)
  have up4 : ∀ c o, c < s.heap.objs.size → s.heap.get? c = some o → (h3.update s.heap.objs.size (Obj.mapSeq (fun v : Array Value => v.pop))).get? c = some o := fun c o hc e => (Heap.get?_update_other _ _ (Nat.ne_of_gt hc)).trans (up3 c o hc e)
  generalize h3.update s.heap.objs.size (Obj.mapSeq (fun v : Array Value => v.pop)) = h4 at J4 up4
  have eH : upd (upd (upd (upd H s.heap.objs.size (.lst [])) s.heap.objs.size (.lst [])) s.heap.objs.size (.lst [.non])) s.heap.objs.size (.lst []) = upd H s.heap.objs.size (.lst []) := by
    funext c
    by_cases e : c = s.heap.objs.size
    · rw [e, upd_same, upd_same]
    · simp only [upd_ne e]
  rw [eH] at J4
  refine wpAny_pure ⟨plainId_quiet F.plain_extend_loop _, lz_loop (A := A.in1) (S := s.heap.objs.size) (k1 := k1) (k2 := k2) (a := a) (b := b) (TI := TI) (TO := TO) (i1 := i1) (i2 := i2) (xs := xs) (ys := ys) hh Sp ?_ (Nat.ne_of_gt la) (Nat.ne_of_gt lb) na nb nTI hn _ 0 _ (upd H s.heap.objs.size (.lst [])) [] rfl (Nat.zero_le _) J4 ?_ ?_ ?_ rfl ?_ upd_same ?_ ?_ ?_ ?_ (.inl ?_) fun s' H' Ts' K1 K2 K3 K4 K5 => ⟨rfl, ?_⟩⟩
  · simp only [List.mem_cons, List.not_mem_nil, or_false, not_or]
    exact ⟨Nat.ne_of_gt lz, Nat.ne_of_gt lI, Nat.ne_of_gt lO, Nat.ne_of_gt l1, Nat.ne_of_gt l2⟩
  · intro c hc
    obtain ⟨q0, q1⟩ := hf c hc
    refine ⟨?_, q1⟩
    rw [upd_ne (fun q => ?_)]
    · exact q0
    · have hc' : c = z ∨ c = TI ∨ c = TO ∨ c = i1 ∨ c = i2 := by simpa using hc
      rcases hc' with w | w | w | w | w <;> (rw [w] at q; first | exact absurd lz (by rw [q]; exact Nat.lt_irrefl _) | exact absurd lI (by rw [q]; exact Nat.lt_irrefl _) | exact absurd lO (by rw [q]; exact Nat.lt_irrefl _) | exact absurd l1 (by rw [q]; exact Nat.lt_irrefl _) | exact absurd l2 (by rw [q]; exact Nat.lt_irrefl _))
  · exact sqk_same (fun o e => by rw [upd_ne (Nat.ne_of_lt la)]; exact e) qa
  · exact sqk_same (fun o e => by rw [upd_ne (Nat.ne_of_lt lb)]; exact e) qb
  · intro j T hj
    simp at hj
  · exact up4 _ _ lI tI
  · exact ⟨_, _, up4 _ _ lO tO⟩
  · cases k1 with
    | true => exact Heap.IsListIter.at (show s.heap.IsListIter i1 a 0 from u1) fun o e => up4 _ _ l1 e
    | false => exact Heap.IsTupleIter.at (show s.heap.IsTupleIter i1 a 0 from u1) fun o e => up4 _ _ l1 e
  · cases k2 with
    | true => exact Heap.IsListIter.at (show s.heap.IsListIter i2 b 0 from u2) fun o e => up4 _ _ l2 e
    | false => exact Heap.IsTupleIter.at (show s.heap.IsTupleIter i2 b 0 from u2) fun o e => up4 _ _ l2 e
  · exact up4 _ _ lz hz
  · exact hQ s' H' Ts' K1 (fun c o e => K2 c o (ne_of_none e fr) (by rw [upd_ne (ne_of_none e fr)]; exact e)) K3 K4 K5
end
/-- list(zip(e, e2)) -/
def tListZip (K : PySem.W.Frag) (ta : TA) : TE := fun σ H Q => ta σ H fun vs H1 => ∃ (a b : Addr) (k1 k2 : Bool) (xs ys : List V), vs = [.ref a, .ref b] ∧ sqk K H1 k1 a xs ∧ sqk K H1 k2 b ys ∧ min xs.length ys.length < sizeLine ∧
  ∀ H2 Ts S, Same H1 H2 → H1 S = none → Ts.length = min xs.length ys.length → Prs H2 xs ys Ts → H2 S = some (.lst (Ts.map V.ref)) → Q (.ref S) H2
theorem pe_listZip {X : Cx} {e e2 : Expr} {ta : TA} {p p2 pos pos2 : Pos} (K : PySem.W.Frag) (hK : X.K = K) (hc : X.calm = true) (hg : Gl X "list") (hm : X.mg "list" = none) (hg2 : Gl X "zip") (hm2 : X.mg "zip" = none) (ha : PA X [e, e2] ta)
    (h1 : starEach [e, e2] X.env = (false, eval e X.env) :: starEach [e2] X.env := by rfl) (h2 : (backTo pos2 (starEach [e2] X.env)).any (·.1) = false := by rfl)
    (h3 : starEach [.Call (.Name "zip" p2) [e, e2] [] pos2] X.env = (false, eval (.Call (.Name "zip" p2) [e, e2] [] pos2) X.env) :: starEach [] X.env := by rfl) :
    PE X (.Call (.Name "list" p) [.Call (.Name "zip" p2) [e, e2] [] pos2] [] pos) (tListZip K ta) := by
  subst hK
  refine ⟨fun pins s σ H Q I h => ?_⟩
  refine Call_ (ld_blt I hg hm boot_list (callWith_type1 (args_cons (Call_ (ld_blt I hg2 hm2 PyProof.Rows.boot_zip (callWith_type1 (thn (ha.run pos2 pins s σ H _ I h) fun us s1 ⟨vs, H1, I1, r1, q1⟩ => ?_) h1 h2))) h3) h3 rfl))
  obtain ⟨a, b, k1, k2, xs, ys, ev, qa, qb, hn, q⟩ := q1
  subst ev
  cases r1 with
  | cons ra rr =>
    cases rr with
    | cons rb rr =>
      cases rr
      cases ra
      cases rb
      obtain ⟨ia, va, la, _, Ba, b1, b2⟩ := draws_of I1 k1 qa
      obtain ⟨ib, vb, lb, _, Bb, b3, b4⟩ := draws_of I1 k2 qb
      refine zip_begins2 b1 b3 b2 b4 fun h' hz tI tO o1 o2 sz kp => args_nil ?_
      have J : Inv X pins σ H1 { s1 with heap := h' } := I1.kept (t' := s1.toks) kp
      have Sp : ZipSep2 (s1.heap.objs.size + 4) (s1.heap.objs.size + 2) (s1.heap.objs.size + 3) s1.heap.objs.size (s1.heap.objs.size + 1) [s1.heap.objs.size, a] [s1.heap.objs.size + 1, b] := zip_sep2 (fp1 := [a]) (fp2 := [b]) (fun c w => by rw [List.mem_singleton.mp w]; exact la) (fun c w => by rw [List.mem_singleton.mp w]; exact lb)
      have up : ∀ j, s1.heap.objs.size ≤ s1.heap.objs.size + j := fun j => Nat.le_add_right _ _
      have it1 : itr k1 h' s1.heap.objs.size a 0 := by cases k1 <;> exact ⟨_, o1, rfl, rfl⟩
      have it2 : itr k2 h' (s1.heap.objs.size + 1) b 0 := by cases k2 <;> exact ⟨_, o2, rfl, rfl⟩
      have ez : (({ s1 with heap := h' } : Shared).heap.objs.size : Nat) = s1.heap.objs.size + 5 := sz
      refine call_list_zip (s := { s1 with heap := h' }) (k1 := k1) (k2 := k2) (I1.ok.hd hc) J (fun c w => ?_) Sp (Nat.ne_of_lt la) (Nat.ne_of_lt (Nat.lt_succ_of_lt lb)) ?_ hn qa qb hz tI tO it1 it2 ?_ ?_ ?_ ?_ fun s' H' Ts' K1 K2 K3 K4 K5 => ⟨.ref _, H', K1, rfl, q H' Ts' _ K2 ?_ K3 K4 K5⟩
      · have w' : c = s1.heap.objs.size + 4 ∨ c = s1.heap.objs.size + 2 ∨ c = s1.heap.objs.size + 3 ∨ c = s1.heap.objs.size + 0 ∨ c = s1.heap.objs.size + 1 := by simpa using w
        have hle : s1.heap.objs.size ≤ c := by rcases w' with w | w | w | w | w <;> (rw [w]; exact up _)
        exact I1.fpOk hle (I1.hok.fresh hle)
      · simp
      · rw [ez]; exact Nat.lt_of_lt_of_le la (up 5)
      · rw [ez]; exact Nat.lt_of_lt_of_le lb (up 5)
      · rw [ez]; exact Nat.lt_add_of_pos_right (by decide)
      · rw [ez]; exact Nat.add_lt_add_left (by decide) _
      · exact I1.hok.fresh (by rw [ez]; exact up 5)
/-! for a, b in zip(text, list) -/
def Itsl (K : PySem.W.Frag) (x : Str) (b : Addr) : It where
  go i H := ∃ (ys : List V) (y : V), SqL K H b ys ∧ i < x.cps.size ∧ ys[i]? = some y
  yld i H v H' := ∃ T c y, v = .ref T ∧ H T = none ∧ H' = upd H T (.tup [.str ⟨#[c]⟩, y]) ∧ x.cps[i]? = some c ∧ ∀ ys, SqL K H b ys → ys[i]? = some y
  stop i H := ∃ ys : List V, SqL K H b ys ∧ i = min x.cps.size ys.length
def ZSt (z TI TO i1 i2 b : Addr) (x : Str) (t : Tok) (i : Nat) (h : Heap) : Prop := IsZip h z TI TO .none ∧ IsTupOf2 h TI (.ref i1) (.ref i2) ∧ (∃ u v, IsTupOf2 h TO u v) ∧ h.IsStrIter i1 (strIterType x) x t i ∧ h.IsListIter i2 b i
theorem turn_sl {P : Program} {w : World} {K : PySem.W.Frag} {elts : List Expr} {kk : Nat} {tpos : Pos} {b z TI TO i1 i2 : Addr} {x : Str} {t : Tok} (S : ZipSep2 z TI TO i1 i2 [i1] [i2, b]) (hb : b ≠ i2) : Turn P w K (.Tuple elts kk tpos) (Itsl K x b) [z, TI, TO, i1, i2] z (ZSt z TI TO i1 i2 b x t) := by
  have go : ∀ (A : Around) (ia : Array Value), A.handled = none → GoesN P w A (.Tuple elts kk tpos) z _ _ _ _ _ := fun A ia hh => GoesN.zip2 (elts := elts) (x1 := kk) (pos := tpos) S (Draws.text (A := A.in1) hh i1 x t) (Draws.list (A := A.in1) hh i2 b hb ia)
  have sub : ∀ c, c ∉ [z, TI, TO, i1, i2] → c ∉ [z, TO, i1, i2] := fun c n q => n (by
    simp only [List.mem_cons, List.not_mem_nil, or_false] at q ⊢
    rcases q with q | q | q | q <;> simp [q])
  refine ⟨by simp, ?_, ?_, ?_, ?_, ?_⟩
  · rintro i h ⟨a1, a2, ⟨_, _, a3⟩, ⟨p1, a4, _, e4⟩, ⟨p2, a5, _, e5⟩⟩ c hc
    simp only [List.mem_cons, List.not_mem_nil, or_false] at hc
    rcases hc with e | e | e | e | e <;> subst e
    · exact ⟨_, a1, fun v q => by cases q⟩
    · exact ⟨_, a2, fun v q => by cases q⟩
    · exact ⟨_, a3, fun v q => by cases q⟩
    · exact ⟨p1, a4, fun v q => by rw [e4] at q; cases q⟩
    · exact ⟨p2, a5, fun v q => by rw [e5] at q; cases q⟩
  · rintro i h h' ⟨a1, a2, ⟨u, v, a3⟩, ⟨p1, a4, r4⟩, a5⟩ k
    exact ⟨k z (by simp) _ a1, k TI (by simp) _ a2, ⟨u, v, k TO (by simp) _ a3⟩, ⟨p1, k i1 (by simp) _ a4, r4⟩, a5.at fun o e => k i2 (by simp) o e⟩
  · rintro X rfl rfl rfl hc i pins s σ H E I hf ⟨a1, a2, a3, a4, a5⟩ ⟨ys, y, qy, l1, hy⟩
    obtain ⟨its, rv, pl, _⟩ := I.list qy
    have ly : i < its.toArray.size := by
      rw [List.size_toArray, ← rv.length]
      exact (List.getElem?_eq_some_iff.mp hy).1
    refine (go X.A its.toArray (I.ok.hd hc)).goes i s (fun u s2 => ∃ x_1 H', Inv X pins σ H' s2 ∧ RelV x_1 u ∧ (Itsl X.K x b).yld i H x_1 H' ∧ ZSt z TI TO i1 i2 b x t (i + 1) s2.heap ∧ ∀ b ∈ [z, TI, TO, i1, i2], H' b = none) E (by omega) ⟨a1, a2, a3, a4, a5, pl.isList⟩ ?_
    rintro v h' tk ⟨T, x1, x2, rfl, nT, ⟨c, u, hcx, rfl⟩, p2, ⟨oT, gT, cT, dT⟩⟩ ⟨z1, z2, z3, z4, z5, _⟩ kp _
    obtain ⟨u2, hu2, ru2⟩ := rv.get hy
    have e2 : u2 = x2 := by
      have : some u2 = some x2 := by rw [← hu2, ← p2]; simp
      cases this
      rfl
    subst e2
    have J := I.turnedNew (t' := tk) (h' := h') (ob := .tup [.str ⟨#[c]⟩, y]) (fun c o n e => kp c o (sub c n) e) hf nT ⟨by show 2 ≤ sizeLine; decide, [_, _], .cons ⟨u, rfl⟩ (.cons ru2 .nil), ⟨oT, gT, cT, dT⟩⟩
    refine ⟨.ref T, _, J, rfl, ⟨T, c, y, rfl, I.hok.fresh nT, rfl, hcx, fun l hl => by rw [I.list_inj hl qy]; exact hy⟩, ⟨z1, z2, z3, z4, z5⟩, fun c hcm => ?_⟩
    rw [upd_ne (fun q => ?_)]
    · exact (hf c hcm).1
    · have lt : c < s.heap.objs.size := by
        simp only [List.mem_cons, List.not_mem_nil, or_false] at hcm
        rcases hcm with e | e | e | e | e <;> subst e
        · exact Heap.lt_size a1
        · exact Heap.lt_size a2
        · obtain ⟨_, _, a3⟩ := a3; exact Heap.lt_size a3
        · obtain ⟨_, e, _⟩ := a4; exact Heap.lt_size e
        · obtain ⟨_, e, _⟩ := a5; exact Heap.lt_size e
      exact absurd (Nat.lt_of_lt_of_le lt nT) (by rw [q]; exact Nat.lt_irrefl _)
  · rintro X rfl rfl rfl hc i pins s σ H E I hf ⟨a1, a2, a3, a4, a5⟩ ⟨ys, qy, hi⟩
    obtain ⟨its, rv, pl, _⟩ := I.list qy
    have ei : its.toArray.size = ys.length := by rw [List.size_toArray, ← rv.length]
    have e : i = min x.cps.size its.toArray.size := by rw [ei]; exact hi
    subst e
    exact (go X.A its.toArray (I.ok.hd hc)).stops s (fun s1 => Inv X pins σ H s1) E ⟨a1, a2, a3, a4, a5, pl.isList⟩ fun h' tk kp _ => I.turnedL (t' := tk) (fun c o n e => kp c o (sub c n) e) hf
  · exact fun A i s Q E st h => wpAny_pyIter_zip st.1 h
def iZipSL (K : PySem.W.Frag) (ta : TA) : TI := fun σ H R => ta σ H fun vs H1 => ∃ x b ys, vs = [.str x, .ref b] ∧ SqL K H1 b ys ∧ R (Itsl K x b) H1
theorem pi_zipSL {X : Cx} {e e2 : Expr} {ta : TA} {p pos tpos : Pos} {elts : List Expr} {kk : Nat} (K : PySem.W.Frag) (hK : X.K = K) (hg : Gl X "zip") (hm : X.mg "zip" = none) (ha : PA X [e, e2] ta)
    (h1 : starEach [e, e2] X.env = (false, eval e X.env) :: starEach [e2] X.env := by rfl) (h2 : (backTo pos (starEach [e2] X.env)).any (·.1) = false := by rfl) : PI X (.Tuple elts kk tpos) (.Call (.Name "zip" p) [e, e2] [] pos) (iZipSL K ta) := by
  subst hK
  refine ⟨fun pins s σ H R I h => Call_ (ld_blt I hg hm PyProof.Rows.boot_zip (callWith_type1 (thn (ha.run pos pins s σ H _ I h) ?_) h1 h2))⟩
  rintro us s1 ⟨vs, H1, I1, r1, x, b, ys, rfl, qy, q⟩
  cases r1 with
  | cons ra rr =>
    cases rr with
    | cons rb rr =>
      cases rr
      obtain ⟨t, rfl⟩ := ra
      cases rb
      obtain ⟨its, rv, pl, _⟩ := I1.list qy
      have lb : b < s1.heap.objs.size := pl.lt
      refine zip_begins2 (begins_text x t) (begins_list b its.toArray) trivial pl.isList fun h' hz tI tO o1 o2 sz kp => wpAny_pyIter_zip hz ?_
      have Sp : ZipSep2 (s1.heap.objs.size + 4) (s1.heap.objs.size + 2) (s1.heap.objs.size + 3) s1.heap.objs.size (s1.heap.objs.size + 1) [s1.heap.objs.size] [s1.heap.objs.size + 1, b] := zip_sep2 (fp1 := []) (fp2 := [b]) (fun c w => by cases w) (fun c w => by rw [List.mem_singleton.mp w]; exact lb)
      refine ⟨_, _, _, _, H1, rfl, I1.kept (t' := s1.toks) kp, turn_sl (x := x) (t := t) Sp (Nat.ne_of_lt (Nat.lt_succ_of_lt lb)), ⟨hz, tI, ⟨_, _, tO⟩, ⟨_, o1, rfl, rfl⟩, ⟨_, o2, rfl, rfl⟩⟩, fun c w => ?_, q⟩
      have w' : c = s1.heap.objs.size + 4 ∨ c = s1.heap.objs.size + 2 ∨ c = s1.heap.objs.size + 3 ∨ c = s1.heap.objs.size + 0 ∨ c = s1.heap.objs.size + 1 := by simpa using w
      have hle : s1.heap.objs.size ≤ c := by rcases w' with w | w | w | w | w <;> (rw [w]; exact Nat.le_add_right _ _)
      exact I1.fpOk hle (I1.hok.fresh hle)
end Fb
set_option Elab.async false
set_option linter.all false
set_option maxRecDepth 100000
set_option maxHeartbeats 2000000
namespace VL
open PySem PySem.Spec PyProof.Rows L2
/-! ### rules that name the written part -/
section
variable {X : Cx} (K0 : PySem.W.Frag) (hK : X.K = K0)
include hK
theorem isiK : CallR X (.builtin "isinstance") (rIsi K0) := by subst hK; exact call_isi
theorem isiTK : CallR X (.builtin "isinstance") (rIsiT K0) := by subst hK; exact call_isiT
theorem boolLK : CallR X (.type "bool") (fun xs H Q => ∃ (a : Addr) (zs : List V), xs = [.ref a] ∧ SqL K0 H a zs ∧ Q (.bl (!zs.isEmpty)) H) := by subst hK; exact call_boolL
theorem truK {a : Expr} {ta : TE} (ha : PE X a ta) (he : ∀ whole, isTrue a X.env whole = (do let v ← whole; standAt a.pos; holding [v] (truthy v))) : PT X a (fun σ H Q => ta σ H fun x H' => ∃ k, TruV K0 x H' k ∧ Q k H') := by subst hK; exact pt_truth ha he
theorem starK {e : Expr} {es : List Expr} {p : Pos} {te : TE} {t : TA} (he : PE X e te) (hr : PA X es t) (hs : starEach (.Starred e p :: es) X.env = (true, eval e X.env) :: starEach es X.env := by rfl) : PA X (.Starred e p :: es) (StX.tStar K0 te t) := by subst hK; exact StX.pa_star he hr hs
theorem lstTK {es : List Expr} {k : Nat} {pos : Pos} {n : Nat} {t : TGs} (hc : X.calm = true) (h : PGs X es t) (hn : (assignEach es X.env).length = n := by rfl) (hst : (assignEach es X.env).findIdx? (·.1) = none := by rfl) : PG X (.Tuple es k pos) (gLst K0 n t) := by subst hK; exact pg_lst hc h hn hst
theorem enumK {e : Expr} {ta : TA} {p pos tpos : Pos} {elts : List Expr} {kk : Nat} (hg : Gl X "enumerate") (hm : X.mg "enumerate" = none) (ha : PA X [e] ta) (hs : starEach [e] X.env = (false, eval e X.env) :: starEach [] X.env := by rfl) : PI X (.Tuple elts kk tpos) (.Call (.Name "enumerate" p) [e] [] pos) (iEnum K0 ta) := by subst hK; exact pi_enum hg hm ha hs
theorem zipAK {e e2 : Expr} {ta : TA} {p pos tpos : Pos} {elts : List Expr} {kk : Nat} (hg : Gl X "zip") (hm : X.mg "zip" = none) (ha : PA X [e, e2] ta) (hs : starEach [e, e2] X.env = (false, eval e X.env) :: starEach [e2] X.env := by rfl) (hpl : (backTo pos (starEach [e2] X.env)).any (·.1) = false := by rfl) : PI X (.Tuple elts kk tpos) (.Call (.Name "zip" p) [e, e2] [] pos) (RZ.iZipA K0 ta) := by subst hK; exact RZ.pi_zipA hg hm ha hs hpl
end
theorem op_mulS {X : Cx} : OpR X (binaryOp .Mult) (fun x y H Q => ∃ (z : Str) (n : Int), x = .str z ∧ y = .int n ∧ PySem.MulOk z n ∧ Q (.str (Txt.mul z n)) H) := by
  intro pins s σ H x y v u Q I rx ry h
  obtain ⟨z, n, rfl, rfl, hn, q⟩ := h
  obtain ⟨t, rfl⟩ := rx
  obtain ⟨t2, rfl⟩ := ry
  exact SB.mul hn fun t' k => ⟨.str _, H, I.tok _, ⟨_, rfl⟩, q⟩
section
variable {K : PySem.W.Frag}
def gMulS : G2
  | .str a, .int n, Q => PySem.MulOk a n ∧ Q (.str (Txt.mul a n))
  | _, _, _ => False
theorem od_mulS : OpD K (fun x y H Q => ∃ (z : Str) (n : Int), x = .str z ∧ y = .int n ∧ PySem.MulOk z n ∧ Q (.str (Txt.mul z n)) H) gMulS := fun ow H x y dx dy Q Qd rx ry hg hn => by
  cases dx <;> first | exact hg.elim | skip
  cases dy <;> first | exact hg.elim | skip
  exact ⟨_, _, rx.str, ry.int, hg.1, hn _ _ rs_str hg.2⟩
def gBoolL : GA
  | [.lst l], Q => Q (.bl (!l.isEmpty))
  | _, _ => False
theorem cd_boolL : CaD K (fun xs H Q => ∃ (a : Addr) (zs : List V), xs = [.ref a] ∧ SqL K H a zs ∧ Q (.bl (!zs.isEmpty)) H) gBoolL := fun ow H vs ds Q Qd rs hg hn => by
  unfold gBoolL at hg
  split at hg
  · rename_i l
    obtain ⟨v, rfl, r⟩ := pr1 rs
    obtain ⟨a, ws, rfl, s, t⟩ := r.lst
    have e : ws.isEmpty = l.isEmpty := by
      have := t.len
      cases ws <;> cases l <;> simp_all
    exact ⟨a, ws, rfl, s.sq, hn _ _ (by rw [e]; exact rs_bl) hg⟩
  · exact hg.elim
def gStrS : GA
  | [.str z], Q => Q (.str z)
  | _, _ => False
theorem cd_strS : CaD K (fun xs H Q => ∃ a, xs = [.str a] ∧ Q (.str a) H) gStrS := fun ow H vs ds Q Qd rs hg hn => by
  unfold gStrS at hg
  split at hg
  · obtain ⟨v, rfl, r⟩ := pr1 rs
    exact ⟨_, by rw [r.str], hn _ _ rs_str hg⟩
  · exact hg.elim
def gIntS : GA
  | [.str z], Q => ∃ n, PySem.intText? z = some n ∧ z.length ≤ 640 ∧ Q (.int n)
  | _, _ => False
theorem cd_intS : CaD K (fun xs H Q => ∃ a n, xs = [.str a] ∧ PySem.intText? a = some n ∧ a.length ≤ 640 ∧ Q (.int n) H) gIntS := fun ow H vs ds Q Qd rs hg hn => by
  unfold gIntS at hg
  split at hg
  · obtain ⟨v, rfl, r⟩ := pr1 rs
    obtain ⟨n, h1, h2, q⟩ := hg
    exact ⟨_, n, by rw [r.str], h1, h2, hn _ _ rs_int q⟩
  · exact hg.elim
end
/-! ### chains of comparisons, truth -/
section
variable {c : Vc} {W : XW} {m : Md} {te ta tb tc : TE} {fe fa fb fc : VT} {tA : TA} {fA : VTA}
def vChain (g g' : G2) (fa fb fc : VT) : VT := fun e Q Qx => fa e (fun x e1 => fb e1 (fun y e2 => g x y fun z => ∃ k, z = .bl k ∧ if k = true then fc e2 (fun w e3 => g' y w fun u => Q u e3) Qx else Q (.bl false) e2) Qx) Qx
theorem q_chain {r r' : R2} {g g' : G2} (ha : VB c ta fa) (hb : VB c tb fb) (hc : VB c tc fc) (ho : OpD c.K r g) (ho' : OpD c.K r' g') : VQ c (tChain r r' ta tb tc) (vChain g g' fa fb fc) := fun fT fV T σ e H Q Qv Qx hR hf hn =>
  ha fT fV T σ e H _ _ Qx hR hf fun x dx rx h1 => hb fT fV T σ e H _ _ Qx hR h1 fun y dy ry h2 => ho _ H x y dx dy _ _ rx ry h2 fun z v rz ⟨k, ek, q⟩ => by
    subst ek
    refine ⟨k, rz.bl_of, ?_⟩
    cases k with
    | true => exact hc fT fV T σ e H _ _ Qx hR q fun w dw rw h3 => ho' _ H y w dy dw _ _ ry rw h3 fun u v ru qu => hn v u ru qu
    | false => exact hn _ _ rs_bl q
def truD : D → (Bool → Prop) → Prop
  | .non, Q => Q false
  | .bl b, Q => Q b
  | .int i, Q => Q (i != 0)
  | .str z, Q => z.length ≤ sizeLine ∧ Q ((z.length : Int) != 0)
  | .lst l, Q => Q (!l.isEmpty)
  | .tup l, Q => Q (!l.isEmpty)
  | _, _ => False
theorem emp_len {α β : Type} {l : List α} {vs : List β} (h : vs.length = l.length) : vs.isEmpty = l.isEmpty := by
  cases l <;> cases vs <;> simp_all
theorem tru_of {K : PySem.W.Frag} {ow : Addr → Prop} {H : Hp} {d : D} {v : V} {Q : Bool → Prop} (r : RB K ow H d v) (h : truD d Q) : ∃ k, TruV K v H k ∧ Q k := by
  cases d with
  | non => rw [r.non]; exact ⟨_, rfl, h⟩
  | bl b => rw [r.bl]; exact ⟨_, rfl, h⟩
  | int i => rw [r.int]; exact ⟨_, rfl, h⟩
  | str z => rw [r.str]; exact ⟨_, ⟨h.1, rfl⟩, h.2⟩
  | lst l =>
    obtain ⟨a, vs, rfl, s, t⟩ := r.lst
    exact ⟨_, .inl ⟨vs, s.sq, rfl⟩, by rw [emp_len t.len]; exact h⟩
  | tup l =>
    obtain ⟨a, vs, rfl, s, t⟩ := r.tup
    exact ⟨_, .inr (.inl ⟨vs, s, rfl⟩), by rw [emp_len t.len]; exact h⟩
  | _ => exact h.elim
def vTru (fe : VT) : VTB := fun e Q Qx => fe e (fun d e1 => truD d fun b => Q b e1) Qx
theorem vt_truB (h : VB c te fe) : VBt c W m (fun σ H Q => te σ H fun x H' => ∃ k, TruV c.K x H' k ∧ Q k H') (vTru fe) := fun T σ e H Q Qv Qx ⟨fT, fV, hR⟩ hf hn hx =>
  h fT fV T σ e H _ _ Qx hR hf fun v d r q => by
    obtain ⟨k, t, q⟩ := tru_of r q
    exact ⟨k, t, hn k e H ⟨fT, fV, hR⟩ (Post.refl _ _ _) q⟩
theorem vt_tru (h : VE c W m te .s fe) : VBt c W m (fun σ H Q => te σ H fun x H' => ∃ k, TruV c.K x H' k ∧ Q k H') (vTru fe) := fun T σ e H Q Qv Qx hR hf hn hx =>
  h T σ e H _ _ Qx hR hf (fun v d e1 H1 ⟨fT, fV, hX⟩ p q => by
    obtain ⟨r, hX⟩ := hX.topS
    obtain ⟨k, t, q⟩ := tru_of r.b q
    exact ⟨k, t, hn k e1 H1 ⟨fT, fV, hX⟩ p q⟩) hx
/-! ### isinstance -/
def tyN : D → Option String
  | .non => some "NoneType"
  | .bl _ => some "bool"
  | .int _ => some "int"
  | .str _ => some "str"
  | .tup _ => some "tuple"
  | _ => none
theorem tyX_of {K : PySem.W.Frag} {ow : Addr → Prop} {H : Hp} {d : D} {v : V} {t : String} (r : RB K ow H d v) (h : tyN d = some t) : TyX K H v (.type t) := by
  cases d with
  | non => cases h; rw [r.non]; exact .base .non
  | bl b => cases h; rw [r.bl]; exact .base (.bl b)
  | int i => cases h; rw [r.int]; exact .base (.int i)
  | str z => cases h; rw [r.str]; exact .base (.str z)
  | tup l =>
    cases h
    obtain ⟨a, vs, rfl, s, t⟩ := r.tup
    rcases s with (s | ⟨o, s⟩) | ⟨o, its, n, s, hc, _⟩
    · exact .base (.tup s)
    · exact .fTuple s
    · exact .kTuple s hc
  | _ => cases h
def isiD (d : D) (T : String) (Q : Bool → Prop) : Prop := ∃ t b, tyN d = some t ∧ kitB t T = some b ∧ Q b
def vIsi (T : String) (fe : VT) : VT := fun e Q Qx => fe e (fun d e1 => isiD d T fun b => Q (.bl b) e1) Qx
theorem q_isi {T : String} (h : VB c te fe) : VQ c (tCB (rIsi c.K) (tCons te (tCons (tC (.ty T)) tNil))) (vIsi T fe) := fun fT fV T' σ e H Q Qv Qx hR hf hn =>
  h fT fV T' σ e H _ _ Qx hR hf fun v d r ⟨t, b, h1, h2, q⟩ => ⟨v, .ty T, .type t, .type T, b, rfl, .ty T, tyX_of r h1, kit_ty h2, hn _ _ rs_bl q⟩
def isiT (d : D) (T1 T2 : String) (Q : Bool → Prop) : Prop := ∃ t b1 b2, tyN d = some t ∧ kitB t T1 = some b1 ∧ kitB t T2 = some b2 ∧ Q (b1 || b2)
def vIsiT (T1 T2 : String) (fe : VT) : VT := fun e Q Qx => fe e (fun d e1 => isiT d T1 T2 fun b => Q (.bl b) e1) Qx
theorem v_isiT {T1 T2 : String} (h : VE c W m te .s fe) : VE c W m (tCB (rIsiT c.K) (tCons te (tCons (tTup (tCons (tC (.ty T1)) (tCons (tC (.ty T2)) tNil))) tNil))) .s (vIsiT T1 T2 fe) := fun T' σ e H Q Qv Qx hR hf hn hx =>
  h T' σ e H _ _ Qx hR hf (fun v d e1 H1 ⟨fT, fV, hX⟩ p ⟨t, b1, b2, h1, h2, h3, q⟩ => by
    obtain ⟨r, hX⟩ := hX.topS
    refine ⟨by show 2 ≤ sizeLine; decide, fun a ha => ?_⟩
    have s : Same H1 (L2.upd H1 a (.tup [.ty T1, .ty T2])) := same_new ha
    refine ⟨v, a, [.ty T1, .ty T2], .type t, [.type T1, .type T2], (b1 || b2), rfl, upd_same, .cons (.ty T1) (.cons (.ty T2) .nil), tyX_of (RS.fr (Fr.same s) (fun _ z => .inl z) _ _ r).b h1, ?_, hn _ _ e1 _ ⟨fT, fV, (hX.same s).pushS rs_bl⟩ (p.trans (Post.same s)) q⟩
    refine kitAny_cons (kit_ty h2) (fun e => ?_) (fun e => by rw [e]; rfl)
    rw [e]
    exact kitAny_cons (kit_ty h3) (fun e => by rw [e]; rfl) (fun e => by rw [e]; rfl)) hx
/-! ### stars in displays -/
theorem RX.pushRs {fT fV : List Addr} {T : List Tm} {σ : L2.St} {e : Env} {H : Hp} (h : RX c fT fV T σ e H) : ∀ {l : List D} {xs : List V}, RSs c.K (owOf c fT fV) H l xs → RX c fT fV (VL.pushR xs l T) σ e H
  | [], _, r => by
    simp only [RSs] at r
    subst r
    exact h
  | d :: l, _, r => by
    simp only [RSs] at r
    obtain ⟨v, w, rfl, r1, r2⟩ := r
    exact (RX.pushRs h r2).pushS r1
theorem RX.popRs {fT fV : List Addr} {T : List Tm} {σ : L2.St} {e : Env} {H : Hp} : ∀ {l : List D} {xs : List V}, RX c fT fV (VL.pushR xs l T) σ e H → xs.length = l.length → RSs c.K (owOf c fT fV) H l xs ∧ RX c fT fV T σ e H
  | [], [], h, _ => ⟨.nil, h⟩
  | [], _ :: _, _, hl => by cases hl
  | _ :: _, [], _, hl => by cases hl
  | d :: l, v :: xs, h, hl => by
    obtain ⟨r, h⟩ := RX.topS (show RX c fT fV ((.s, v, d) :: VL.pushR xs l T) σ e H from h)
    obtain ⟨rs, h⟩ := RX.popRs h (Nat.succ.inj hl)
    exact ⟨.cons r rs, h⟩
def vStar (fe : VT) (fA : VTA) : VTA := fun e Q Qx => fe e (fun d e1 => ∃ l, (d = .tup l ∨ d = .lst l) ∧ fA e1 (fun xs e2 => Q (l ++ xs) e2) Qx) Qx
theorem va_star (ha : VE c W m te .s fe) (hr : VA c W m tA fA) : VA c W m (StX.tStar c.K te tA) (vStar fe fA) := fun T σ e H Q Qv Qx hR hf hn hx => by
  refine ha T σ e H _ _ Qx hR hf (fun x dx e1 H1 R1 P1 ⟨l, hd, h1⟩ => ?_) hx
  obtain ⟨fT0, fV0, X0⟩ := R1
  obtain ⟨rx, X0⟩ := X0.topS
  have go : ∀ (p : Addr) (xs : List V), x = .ref p → RSs c.K (owOf c fT0 fV0) H1 l xs → tA σ H1 fun ys H2 => Q (xs ++ ys) H2 := fun p xs _ rs => by
    have hl := rs.len
    refine hr (VL.pushR xs l T) σ e1 H1 _ _ Qx ⟨fT0, fV0, X0.pushRs rs⟩ h1 (fun fT fV vs ds e2 H2 X2 rs2 P2 h2 => ?_) (fun xn d e' H' ⟨gT, gV, X'⟩ y q' => hx xn d e' H' ⟨gT, gV, (X'.popRs hl).2⟩ y q')
    obtain ⟨r3, X3⟩ := X2.popRs hl
    exact hn fT fV _ _ e2 H2 X3 (RSs.app rs2 r3) (P1.trans P2) h2
  rcases hd with rfl | rfl
  · obtain ⟨p, xs, e, s, rs⟩ := rx.b.tup
    exact ⟨p, xs, e, .inl s, go p xs e rs⟩
  · obtain ⟨p, xs, e, s, rs⟩ := rx.b.lst
    exact ⟨p, xs, e, .inr s.sq, go p xs e rs⟩
/-! ### list(zip(..)) -/
def seqD : D → Option (List D)
  | .lst l => some l
  | .tup l => some l
  | _ => none
def zipD (a b : List D) : List D := List.zipWith (fun x y => .tup [x, y]) a b
def vListZip (fA : VTA) : VT := fun e Q Qx => fA e (fun ds e1 => ∃ x y a b, ds = [x, y] ∧ seqD x = some a ∧ seqD y = some b ∧ min a.length b.length < sizeLine ∧ Q (.lst (zipD a b)) e1) Qx
theorem seq_of {K : PySem.W.Frag} {ow : Addr → Prop} {H : Hp} {d : D} {v : V} {l : List D} (r : RB K ow H d v) (h : seqD d = some l) : ∃ a k vs, v = .ref a ∧ Fb.sqk K H k a vs ∧ RSs K ow H l vs := by
  cases d with
  | tup l' =>
    cases h
    obtain ⟨a, vs, e, s, t⟩ := r.tup
    exact ⟨a, false, vs, e, s, t⟩
  | lst l' =>
    cases h
    obtain ⟨a, vs, e, s, t⟩ := r.lst
    exact ⟨a, true, vs, e, s.sq, t⟩
  | _ => cases h
theorem zip_rs {K : PySem.W.Frag} {ow : Addr → Prop} {H : Hp} : ∀ {a b : List D} {xs ys : List V} {Ts : List Addr}, RSs K ow H a xs → RSs K ow H b ys → Ts.length = min xs.length ys.length → Fb.Prs H xs ys Ts → RSs K ow H (zipD a b) (Ts.map V.ref)
  | [], b, xs, ys, Ts, ha, _, hl, _ => by
    simp only [RSs] at ha
    subst ha
    have : Ts = [] := List.length_eq_zero_iff.mp (by simpa using hl)
    subst this
    exact .nil
  | x :: a, [], xs, ys, Ts, _, hb, hl, _ => by
    simp only [RSs] at hb
    subst hb
    have : Ts = [] := List.length_eq_zero_iff.mp (by simpa using hl)
    subst this
    exact .nil
  | x :: a, y :: b, xs, ys, Ts, ha, hb, hl, hp => by
    simp only [RSs] at ha hb
    obtain ⟨v, r, rfl, a1, a2⟩ := ha
    obtain ⟨w, q, rfl, b1, b2⟩ := hb
    cases Ts with
    | nil => simp at hl
    | cons t Ts =>
      obtain ⟨x', y', e1, e2, ht⟩ := hp 0 t rfl
      simp only [List.getElem?_cons_zero, Option.some.injEq] at e1 e2
      subst e1 e2
      refine .cons ?_ (zip_rs a2 b2 (by simp at hl; omega) fun j T hj => ?_)
      · simp only [RS]
        exact ⟨t, _, rfl, SqT.of ht, .cons a1 (.cons b1 .nil)⟩
      · obtain ⟨x', y', e1, e2, ht⟩ := hp (j + 1) T (by simpa using hj)
        exact ⟨x', y', by simpa using e1, by simpa using e2, ht⟩
theorem v_listZip (hA : VA c W m tA fA) : VE c W m (Fb.tListZip c.K tA) (.l .s) (vListZip fA) := fun T σ e H Q Qv Qx hR hf hn hx =>
  hA T σ e H _ _ Qx hR hf (fun fT fV vs ds e1 H1 X1 rs p ⟨x, y, a, b, hd, hx1, hy1, hlt, q⟩ => by
    subst hd
    obtain ⟨v1, v2, rfl, r1, r2⟩ := pr2 rs.pb
    obtain ⟨p1, k1, xs, rfl, s1, t1⟩ := seq_of r1 hx1
    obtain ⟨p2, k2, ys, rfl, s2, t2⟩ := seq_of r2 hy1
    refine ⟨p1, p2, k1, k2, xs, ys, rfl, s1, s2, by rw [t1.len, t2.len]; exact hlt, fun H2 Ts S sm hS hl hp hS2 => ?_⟩
    have F : Fr (owOf c fT fV) H1 H2 := Fr.same sm
    refine hn _ _ e1 H2 ⟨[S] ++ fT, fV, X1.pushO sm (by simp) (fun a z => by rw [List.mem_singleton.mp z]; exact hS) ?_⟩ (p.trans (Post.same sm)) q
    have how := ow_grow (c := c) (fT := fT) (fV := fV) (H := H1) (fp := [S]) (fun a z => by rw [List.mem_singleton.mp z]; exact hS)
    have z := zip_rs (RSs.fr F how _ _ t1) (RSs.fr F how _ _ t2) hl hp
    exact RO.lcell hS2 z) hx
/-! ### walks over enumerate, zip -/
def vEnum (fA : VTA) : VTI := fun e Q Qx => fA e (fun ds e1 => ∃ l, ds = [.lst l] ∧ Q (l.mapIdx fun i d => .tup [.int (i : Nat), d]) e1) Qx
theorem vi_enum (hA : VA c W m tA fA) : VI c W m (iEnum c.K tA) (vEnum fA) := fun T σ e H Rk Qv Qx hR hf hn hx =>
  hA T σ e H _ _ Qx hR hf (fun fT0 fV0 vs ds e1 H1 X1 rs p ⟨l, hl, q⟩ => by
    subst hl
    simp only [RSs] at rs
    obtain ⟨v, r0, rfl, r, rfl⟩ := rs
    have key : ∀ fT fV T σ e H, RX c fT fV T σ e H → (∀ t ∈ [((.s, v, .lst l) : Tm)], t ∈ T) → ∃ a vs, v = .ref a ∧ LsS c.K (owOf c fT fV) H a vs ∧ RSs c.K (owOf c fT fV) H l vs := fun fT fV T σ e H hX hm => by
      have r := hX.mem (hm _ List.mem_cons_self) rfl
      simpa only [RS] using r
    have X2 := X1.pushS r
    obtain ⟨a, vs, rfl, s, r⟩ := key _ _ _ σ e1 H1 X2 (fun t z => by rw [List.mem_singleton.mp z]; exact List.mem_cons_self)
    have ll : (l.mapIdx fun i d => D.tup [.int (i : Nat), d]).length = l.length := by simp
    refine ⟨a, vs, rfl, s.sq, hn (Ite c.K a) [(.s, .ref a, .lst l)] _ e1 H1 ⟨fun t z => by rw [List.mem_singleton.mp z], ?_, ?_, ?_⟩ ⟨_, _, X2⟩ p q⟩
    · intro fT fV T σ e H i hX hm hi
      obtain ⟨a', vs, ea, s, r⟩ := key fT fV T σ e H hX hm
      cases ea
      have : i < vs.length := by rw [r.len]; omega
      exact ⟨vs, _, s.sq, List.getElem?_eq_getElem this⟩
    · rintro fT fV T σ e H i x H' hX hm hi ⟨T', y, rfl, hT, rfl, hy⟩
      obtain ⟨a', vs, ea, s, r⟩ := key fT fV T σ e H hX hm
      cases ea
      obtain ⟨d, e1, e2⟩ := r.getV (hy vs s.sq)
      refine ⟨same_new hT, .tup [.int (i : Nat), d], by rw [List.getElem?_mapIdx, e1]; rfl, ?_⟩
      simp only [RS]
      exact ⟨T', _, rfl, SqT.of upd_same, .cons rs_int (.cons (RS.fr (Fr.same (same_new hT)) (fun _ z => .inl z) _ _ e2) .nil)⟩
    · intro fT fV T σ e H i hX hm hi
      obtain ⟨a', vs, ea, s, r⟩ := key fT fV T σ e H hX hm
      cases ea
      exact ⟨vs, s.sq, by rw [r.len]; omega⟩) hx
def vZipSL (fA : VTA) : VTI := fun e Q Qx => fA e (fun ds e1 => ∃ z l, ds = [.str z, .lst l] ∧ Q (zipD (sgD z) l) e1) Qx
theorem zipD_get {a b : List D} {i : Nat} : (zipD a b)[i]? = match a[i]?, b[i]? with | some x, some y => some (.tup [x, y]) | _, _ => none := by
  unfold zipD
  rw [List.getElem?_zipWith]
  cases a[i]? <;> cases b[i]? <;> rfl
theorem vi_zipSL (hA : VA c W m tA fA) : VI c W m (Fb.iZipSL c.K tA) (vZipSL fA) := fun T σ e H Rk Qv Qx hR hf hn hx =>
  hA T σ e H _ _ Qx hR hf (fun fT0 fV0 vs ds e1 H1 X1 rs p ⟨z, l, hl, q⟩ => by
    subst hl
    simp only [RSs] at rs
    obtain ⟨u, r0, rfl, ru, v, r1, rfl, r, rfl⟩ := rs
    have eu : u = .str z := by simpa only [RS] using ru
    subst eu
    have key : ∀ fT fV T σ e H, RX c fT fV T σ e H → (∀ t ∈ [((.s, v, .lst l) : Tm)], t ∈ T) → ∃ a vs, v = .ref a ∧ LsS c.K (owOf c fT fV) H a vs ∧ RSs c.K (owOf c fT fV) H l vs := fun fT fV T σ e H hX hm => by
      have r := hX.mem (hm _ List.mem_cons_self) rfl
      simpa only [RS] using r
    have X2 := X1.pushS r
    obtain ⟨a, vs, rfl, s, r⟩ := key _ _ _ σ e1 H1 X2 (fun t z => by rw [List.mem_singleton.mp z]; exact List.mem_cons_self)
    have lz : (zipD (sgD z) l).length = min z.cps.size l.length := by simp [zipD, sgD]
    refine ⟨z, a, vs, rfl, s.sq, hn (Fb.Itsl c.K z a) [(.s, .ref a, .lst l)] _ e1 H1 ⟨fun t z => by rw [List.mem_singleton.mp z], ?_, ?_, ?_⟩ ⟨_, _, X2⟩ p q⟩
    · intro fT fV T σ e H i hX hm hi
      obtain ⟨a', vs, ea, s, r⟩ := key fT fV T σ e H hX hm
      cases ea
      have : i < vs.length := by rw [r.len]; omega
      exact ⟨vs, _, s.sq, by omega, List.getElem?_eq_getElem this⟩
    · rintro fT fV T σ e H i x H' hX hm hi ⟨T', ch, y, rfl, hT, rfl, hc, hy⟩
      obtain ⟨a', vs, ea, s, r⟩ := key fT fV T σ e H hX hm
      cases ea
      obtain ⟨d, e1, e2⟩ := r.getV (hy vs s.sq)
      refine ⟨same_new hT, .tup [.str ⟨#[ch]⟩, d], ?_, ?_⟩
      · have : (sgD z)[i]? = some (.str ⟨#[ch]⟩) := by
          unfold sgD
          rw [List.getElem?_map, Array.getElem?_toList, hc]
          rfl
        rw [zipD_get, this, e1]
      · simp only [RS]
        exact ⟨T', _, rfl, SqT.of upd_same, .cons rs_str (.cons (RS.fr (Fr.same (same_new hT)) (fun _ z => .inl z) _ _ e2) .nil)⟩
    · intro fT fV T σ e H i hX hm hi
      obtain ⟨a', vs, ea, s, r⟩ := key fT fV T σ e H hX hm
      cases ea
      exact ⟨vs, s.sq, by rw [r.len, ← hi, lz]⟩) hx
end
end VL
set_option Elab.async false
set_option linter.all false
set_option maxRecDepth 100000
set_option maxHeartbeats 2000000
namespace VL
open PySem PySem.Spec PyProof.Rows L2
/-! ### one's own list: pop, extend, x[k] = y -/
section
variable {c : Vc} {W : XW} {m : Md} {te ta tb tc tv ti : TE} {fe fa fb fc fv fi : VT} {tA : TA} {fA : VTA} {rsh : Sh}
theorem RX.ownA {fT fV : List Addr} {T : List Tm} {σ : L2.St} {e : Env} {H : Hp} {i : Nat} {l : List D} {a : Addr} (h : RX c fT fV T σ e H) (hM : c.M[i]? = some (.l .s)) (hd : e[i]? = some (some (.lst l))) (hv : σ[i]? = some (some (.ref a))) : owOf c fT fV a := by
  obtain ⟨v, fp, hv', ro, sub, _⟩ := h.upd hM hd
  obtain ⟨l0, a2, vs2, el, ea, ha2, rs2, ef⟩ := RO_l.mp ro
  rw [hv] at hv'
  cases hv'
  cases ea
  exact .inl (sub a (by rw [ef]; exact List.mem_singleton_self a))
def vPop (i : Nat) : VT := fun e Q _ => ∃ l y, e[i]? = some (some (.lst (l ++ [y]))) ∧ Q y (e.set i (some (.lst l)))
theorem v_pop {i : Nat} (hM : c.M[i]? = some (.l .s)) : VE c W .e (tBM0 c.K "list" rPop (tVar i)) .s (vPop i) := fun T σ e H Q Qv Qx ⟨fT, fV, hX⟩ ⟨l, y, hl, q⟩ hn hx => by
  obtain ⟨a, vs, hv, ha, rs, _⟩ := hX.ownL hM hl
  obtain ⟨ws, w, rfl, r1, r2⟩ := rs.unapp1
  have F := RX.frL (o' := .lst ws) ha id (hX.ownA hM hl hv)
  obtain ⟨a', vs', hv', ha', rs', k⟩ := (hX.pushS r2).ownL hM hl
  rw [hv] at hv'
  cases hv'
  rw [ha] at ha'
  cases ha'
  obtain ⟨fV2, X2⟩ := k l ws H (fun _ _ q => q) ha fun ow' how => RSs.fr F how _ _ r1
  exact ⟨_, hv, tyV_l ha, a, _, w, rfl, rfl, ha, by simp, by rw [List.dropLast_concat]; exact hn _ _ _ _ ⟨fT, fV2, X2⟩ Post.e q⟩
def vExt (i : Nat) (fe : VT) : VT := fun e Q Qx => (∃ l, e[i]? = some (some (.lst l))) ∧ fe e (fun d e1 => ∃ l zs, e1[i]? = some (some (.lst l)) ∧ d = .lst zs ∧ l.length + zs.length ≤ sizeLine ∧ Q .non (e1.set i (some (.lst (l ++ zs))))) Qx
theorem v_ext {i : Nat} (hM : c.M[i]? = some (.l .s)) (he : VE c W .e te .s fe) : VE c W .e (tBM c.K "list" (rExtR c.K) (tVar i) (tCons te tNil)) .s (vExt i fe) := fun T σ e H Q Qv Qx ⟨fT, fV, hX⟩ ⟨⟨l0, hl0⟩, hf⟩ hn hx => by
  obtain ⟨a, vs0, hv, ha0, _⟩ := hX.ownL hM hl0
  refine ⟨_, hv, tyV_l ha0, ?_⟩
  refine he T σ e H _ _ Qx ⟨fT, fV, hX⟩ hf (fun y dy e1 H1 R1 _ ⟨l, zs, hl, ed, hz, q⟩ => ?_) hx
  subst ed
  obtain ⟨fT1, fV1, X0⟩ := R1
  obtain ⟨ry, X1⟩ := X0.topS
  clear X0
  obtain ⟨b, ws, rfl, s, rw⟩ := ry.b.lst
  obtain ⟨a1, vs, hv1, ha, rs, k⟩ := X1.ownL hM hl
  rw [hv] at hv1
  cases hv1
  have F := RX.frL (o' := .lst (vs ++ ws)) ha id (X1.ownA hM hl hv)
  obtain ⟨fV2, X2⟩ := k (l ++ zs) (vs ++ ws) H1 (fun _ _ q => q) ha fun ow' how => RSs.app (RSs.fr F how _ _ rw) (RSs.fr F how _ _ rs)
  exact ⟨a, b, vs, ws, rfl, rfl, ha, s, by rw [rs.len, rw.len]; exact hz, hn _ _ _ _ ⟨fT1, fV2, X2.pushS rs_non⟩ Post.e q⟩
def vSetIx (i : Nat) (fi fv : VT) : VTS := fun D e => fv e (fun y e1 => (∃ l, e1[i]? = some (some (.lst l))) ∧ fi e1 (fun k e2 => ∃ l j kk, k = .int kk ∧ e2[i]? = some (some (.lst l)) ∧ ixN l.length kk = some j ∧ D.nx (e2.set i (some (.lst (l.set j y))))) D.ex) D.ex
theorem vs_setIx {i : Nat} (hM : c.M[i]? = some (.l .s)) (hv : VE c W .e tv .s fv) (hi : VE c W .e ti .s fi) : VS c W rsh (tAsg tv (gSub (tVar i) ti rSetL)) (vSetIx i fi fv) := fun T σ e H D Dv hR hf L =>
  hv T σ e H _ _ Dv.ex hR hf (fun y dy e1 H1 R1 _ ⟨⟨l0, hl0⟩, q⟩ => by
    obtain ⟨fT, fV, X1⟩ := R1
    obtain ⟨a, vs0, hva, ha0, _⟩ := X1.ownL hM hl0
    refine ⟨_, hva, hi _ σ e1 H1 _ _ Dv.ex ⟨fT, fV, X1⟩ q (fun k dk e2 H2 R2 _ ⟨l, j, kk, ek, hl, hj, q⟩ => ?_) (fun x d e' H' r y q => L.ex x d σ e' H' r.pop y q)⟩
    subst ek
    obtain ⟨gT, gV, X2⟩ := R2
    obtain ⟨rk, X2⟩ := X2.topS
    obtain ⟨ry, X2⟩ := X2.topS
    have ek : k = .int kk := by simpa only [RS] using rk
    obtain ⟨a1, vs, hv1, ha, rs, kp⟩ := X2.ownL hM hl
    rw [hva] at hv1
    cases hv1
    have F := RX.frL (o' := .lst (vs.set j y)) ha id (X2.ownA hM hl hva)
    obtain ⟨fV2, X3⟩ := kp (l.set j dy) (vs.set j y) H2 (fun _ _ q => q) ha fun ow' how => RSs.set j (RSs.fr F how _ _ rs) (RS.fr F how _ _ ry)
    exact ⟨a, vs, kk, j, rfl, ek, ha, by rw [rs.len]; exact hj, L.nx σ _ _ ⟨gT, fV2, X3⟩ q⟩) (fun x d e' H' r y q => L.ex x d σ e' H' r y q)
/-- .. of a cell -/
def vSetIxC (n : Nat) (fe fi fv : VT) : VTS := fun D e => fv e (fun y e1 => fe e1 (fun x e2 => ∃ a, x = .ref a ∧ fi e2 (fun k e3 => ∃ l j kk, k = .int kk ∧ Cell n e3 a (.lst l) ∧ ixN l.length kk = some j ∧ D.nx (setC n e3 a (.lst (l.set j y)))) D.ex) D.ex) D.ex
theorem vs_setIxC (he : VQ c te fe) (hv : VE c W .e tv .s fv) (hi : VE c W .e ti .s fi) : VS c W rsh (tAsg tv (gSub te ti rSetL)) (vSetIxC c.M.length fe fi fv) := fun T σ e H D Dv hR hf L =>
  hv T σ e H _ _ Dv.ex hR hf (fun y dy e1 H1 R1 _ q => by
    obtain ⟨fT, fV, X1⟩ := R1
    refine he fT fV _ σ e1 H1 _ _ Dv.ex X1 q fun v d r ⟨a, ed, q⟩ => ?_
    subst ed
    have z : v = .ref a := by simpa only [RS] using r
    subst z
    refine hi _ σ e1 H1 _ _ Dv.ex ⟨fT, fV, X1⟩ q (fun k dk e2 H2 R2 _ ⟨l, j, kk, ek, hc, hj, q⟩ => ?_) (fun x d e' H' r y q => L.ex x d σ e' H' r.pop y q)
    subst ek
    obtain ⟨gT, gV, X2⟩ := R2
    obtain ⟨rk, X2⟩ := X2.topS
    obtain ⟨ry, X2⟩ := X2.topS
    have ek : k = .int kk := by simpa only [RS] using rk
    obtain ⟨vs, ha, rs⟩ := X2.cellL hc
    have F := RX.frL (o' := .lst (vs.set j y)) ha id (X2.cellB hc).2.1
    obtain ⟨fV2, X3⟩ := X2.setL hc ha (l' := l.set j dy) (vs' := vs.set j y) fun ow' how => RSs.set j (RSs.fr F how _ _ rs) (RS.fr F how _ _ ry)
    exact ⟨a, vs, kk, j, rfl, ek, ha, by rw [rs.len]; exact hj, L.nx σ _ _ ⟨gT, fV2, X3⟩ q⟩) (fun x d e' H' r y q => L.ex x d σ e' H' r y q)
/-! ### a list so many times -/
def vRep (fa fb : VT) : VT := fun e Q Qx => fa e (fun x e1 => fb e1 (fun y e2 => ∃ l k, x = .lst l ∧ y = .int k ∧ -(2 ^ 63) ≤ k ∧ k < 2 ^ 63 ∧ l.length * k.toNat ≤ sizeLine ∧ Q (.lst (List.replicate k.toNat l).flatten) e2) Qx) Qx
theorem RSs.rep {K : PySem.W.Frag} {ow : Addr → Prop} {H : Hp} {l : List D} {vs : List V} (h : RSs K ow H l vs) : ∀ n : Nat, RSs K ow H (List.replicate n l).flatten (List.replicate n vs).flatten
  | 0 => .nil
  | n + 1 => by
    rw [List.replicate_succ, List.replicate_succ, List.flatten_cons, List.flatten_cons]
    exact RSs.app (RSs.rep h n) h
theorem v_rep (ha : VE c W m ta (.l .s) fa) (hb : VE c W m tb .s fb) : VE c W m (tOp rRep ta tb) (.l .s) (vRep fa fb) := fun T σ e H Q Qv Qx hR hf hn hx => by
  refine ha T σ e H _ _ Qx hR hf (fun x dx e1 H1 R1 P1 h1 => ?_) hx
  refine hb _ σ e1 H1 _ _ Qx R1 h1 (fun y dy e2 H2 R2 P2 ⟨l, k, ex, ey, h3, h4, h5, q⟩ => ?_) (fun xn d e' H' R' X' q' => hx xn d e' H' R'.pop X' q')
  subst ex ey
  obtain ⟨fT, fV, X2⟩ := R2
  obtain ⟨ry, X2⟩ := X2.topS
  have ey : y = .int k := by simpa only [RS] using ry
  obtain ⟨fp, fT', e1', ro, nf, _⟩ := X2.updT
  obtain ⟨l0, a, vs, el, ea, ha, rs, ef⟩ := RO_l.mp ro
  cases el
  subst ea
  refine ⟨a, k, vs, rfl, ey, ha, h3, h4, by rw [rs.len]; exact h5, fun p np => hn _ _ e2 _ ?_ (P1.trans (P2.trans (Post.same (same_new np)))) q⟩
  exact R.drop2 (hs := [(.l .s, .ref a, .lst l)]) (X2.newL np (rs.rep k.toNat))
/-! ### a, b = a list -/
variable {tgs : TGs} {vgs : VTGs} {own : List Nat} {n : Nat}
def vgLst (n : Nat) (vgs : VTGs) : VTG
  | .lst l, e, Q => l.length = n ∧ vgs l e Q
  | _, _, _ => False
theorem vg_lst (hs : VGs c tgs own vgs) : VG c (gLst c.K n tgs) own (vgLst n vgs) := fun T σ e H x d Q Qv hR hv hn => by
  cases d <;> first | exact hv.elim | skip
  obtain ⟨fT, fV, X0⟩ := hR
  obtain ⟨r, X⟩ := X0.topS
  clear X0
  obtain ⟨a, vs, rfl, s, t⟩ := r.b.lst
  exact ⟨a, vs, rfl, s.sq, by rw [t.len]; exact hv.1, hs T σ e H vs _ Q Qv t.len ⟨fT, fV, X.pushRs t⟩ hv.2 hn⟩
end
/-! ### dicts of the module's own: texts by texts -/
structure KDS (K : PySem.W.Frag) (w : World) (d : Addr) (kvs : List (Str × Str)) : Prop where
  ex : ∃ es n, KDict K w d es n ∧ ∀ z, match kvs.lookup z with | none => findBy Value.isStrOf es z = none | some v => ∃ t, findBy Value.isStrOf es z = some (.str v t)
def isSt (v : Value) (x : Str) : Bool := match v with | .str y _ => decide (y = x) | _ => false
def chkD : List DictEntry → List (Str × Str) → Bool
  | [], [] => true
  | e :: es, (k, v) :: kvs => isSt e.key k && isSt e.val v && chkD es kvs
  | _, _ => false
theorem isSt_of {v : Value} {x : Str} (h : isSt v x = true) : ∃ t, v = .str x t := by
  cases v <;> simp [isSt] at h
  subst h
  exact ⟨_, rfl⟩
theorem chk_find : ∀ {es : List DictEntry} {kvs : List (Str × Str)}, chkD es kvs = true → ∀ z, match kvs.lookup z with | none => findBy Value.isStrOf es.toArray z = none | some v => ∃ t, findBy Value.isStrOf es.toArray z = some (.str v t)
  | [], [], _, z => by simp [findBy]
  | [], _ :: _, h, _ => by simp [chkD] at h
  | _ :: _, [], h, _ => by simp [chkD] at h
  | e :: es, (k, v) :: kvs, h, z => by
    simp only [chkD, Bool.and_eq_true] at h
    obtain ⟨t1, e1⟩ := isSt_of h.1.1
    obtain ⟨t2, e2⟩ := isSt_of h.1.2
    have ih := chk_find h.2 z
    unfold findBy at ih ⊢
    rw [List.find?_toArray] at ih ⊢
    by_cases q : z = k
    · subst q
      have : Value.isStrOf z e.key = true := by rw [e1]; simp [Value.isStrOf]
      rw [List.lookup]
      simp [this, e2]
    · have : Value.isStrOf z e.key = false := by rw [e1]; simp [Value.isStrOf]; exact fun w => q (by first | exact w | exact w.symm)
      have q' : (z == k) = false := by simp [q]
      rw [List.lookup, q', List.find?_cons_of_neg (by simp [this])]
      exact ih
theorem kds_of {K : PySem.W.Frag} {w : World} {d : Addr} {es : List DictEntry} {n : Nat} {kvs : List (Str × Str)} (h1 : K.lookup d = some ⟨.type "dict", none, .dict es.toArray n, #[]⟩) (h2 : PySem.W.KeysLit w.params es) (h3 : (d == sysModules) = false) (h4 : chkD es kvs = true) : KDS K w d kvs := ⟨es.toArray, n, ⟨h1, h2, h3⟩, chk_find h4⟩
def tKGet (kvs : List (Str × Str)) (d : Addr) (td ty : TE) : TE := fun σ H Q => td σ H fun x H1 => x = .ref d ∧ ty σ H1 fun y H2 => ∃ z, y = .str z ∧ Q (match kvs.lookup z with | none => .non | some v => .str v) H2
theorem pe_kget {X : Cx} {d : Addr} {kvs : List (Str × Str)} {o e : Expr} {apos cpos : Pos} {td ty : TE} (D : KDS X.K X.w d kvs) (ho : PE X o td) (he : PE X e ty) (m : M1 X o "get" apos e cpos) : PE X (.Call (.Attribute o "get" apos) [e] [] cpos) (tKGet kvs d td ty) := by
  obtain ⟨es, n, D, hf⟩ := D.ex
  refine ⟨fun pins s σ H Q I h => wpAny_Call_method m.base m.few m.line PySem.F.plainAttrs_dict PySem.F.slot_dict_get PySem.F.type_dict_get (thn (ho.run pins s σ H _ I h) ?_)⟩
  rintro u s1 ⟨x, H1, I1, rx, rfl, q1⟩
  obtain rfl : u = Value.ref d := rx
  refine ⟨kd_type D I1, fun b hb => ?_, ?_⟩
  · cases hb
    exact ⟨_, I1.kIn _ _ D.at_, rfl⟩
  rw [m.trees]
  refine wpAny_dict_get1 (knd := PySem.strKind X.prog X.w) D.low (thn (he.run pins s1 σ H1 _ I1 q1) ?_)
  rintro iv s2 ⟨y, H2, I2, ry, z, rfl, q2⟩
  obtain ⟨t, rfl⟩ := ry
  refine ⟨z, _, PySem.strKind_is X.prog X.w z t, PySem.W.mapOf_K (prog := X.prog) I2.kIn D.at_ D.lit, ?_⟩
  have hz := hf z
  cases q : kvs.lookup z with
  | none =>
    rw [q] at hz q2
    dsimp only at hz q2 ⊢
    rw [hz]
    exact ⟨.non, H2, I2.tok _, rfl, q2⟩
  | some v =>
    rw [q] at hz q2
    dsimp only at hz q2 ⊢
    obtain ⟨t', hz⟩ := hz
    rw [hz]
    exact ⟨.str v, H2, I2.tok _, ⟨t', rfl⟩, q2⟩
section
variable {c : Vc} {W : XW} {m : Md} {te : TE} {fe : VT}
def vKGet (kvs : List (Str × Str)) (fe : VT) : VT := fun e Q Qx => fe e (fun d e1 => ∃ z, d = .str z ∧ Q (match kvs.lookup z with | none => .non | some v => .str v) e1) Qx
theorem q_kget {kvs : List (Str × Str)} {d : Addr} (h : VB c te fe) : VQ c (tKGet kvs d (tC (.ref d)) te) (vKGet kvs fe) := fun fT fV T σ e H Q Qv Qx hR hf hn =>
  ⟨rfl, h fT fV T σ e H _ _ Qx hR hf fun v dd r ⟨z, ed, q⟩ => by
    subst ed
    refine ⟨z, r.str, ?_⟩
    cases w : kvs.lookup z with
    | none => rw [w] at q; exact hn _ _ rs_non q
    | some x => rw [w] at q; exact hn _ _ rs_str q⟩
end
end VL
set_option Elab.async false
set_option linter.all false
set_option maxRecDepth 100000
set_option maxHeartbeats 2000000
namespace VL
open PySem PySem.Spec PyProof.Rows L2
theorem sfldK {X : Cx} (K0 : PySem.W.Frag) (hK : X.K = K0) {o value : Expr} {f : Str} {pos pos' : Pos} {ta tv : TE} (ho : PE X o ta) (hv : PE X value tv) (hs : swapsWith value (some (.Attribute o f pos')) pos.line X.env = pure false) : PS X (.Assign [.Attribute o f pos'] value pos) (sFld K0 ta tv f) := by subst hK; exact ps_fld ho hv hs
theorem pe_mk0 {X : Cx} {x : Str} {C : Addr} {sp : Sp} {k j : Nat} {p pos : Pos} (c : C8.Mak X.prog X.w X.K X.mg X.base k x C sp []) (hr : Room j X.A) (hk : k + 1 ≤ j) (hg : Gl X x) (hdb : (x == ("__debug__" : Str)) = false := by decide) : PE X (.Call (.Name x p) [] [] pos) (tMake C sp [] C8.E0 tNil) := by
  obtain ⟨f, fd, ps, ds, M, F, hm, b, d⟩ := c.ex
  exact pe_make0 M F (hr.mono hk) hg hm b d C8.pass0 hdb
/-! ### defs that raise -/
section
variable {P : Program} {w : World} {K : PySem.W.Frag} {mg : Str → Option Value} {base : Heap}
theorem okN {x qual : Str} {st : Stmt} {f : Addr} {fd : FuncData} {N ps : List Str} {k : Nat} {sp : Sp} (F : L2.Fun K x qual st f fd) (S : FnScope N ps (defScope st)) (len : ∀ vs H Q E, sp vs H Q E → vs.length = ps.length)
    (hb : ∀ (cdv : Value) (A : Around) (outer : List PySem.Env) (s : Shared) (H : Hp) (vs : List V) (Q : VK) (E : XK), Room k (A.deeper (envOfC qual (defScope st) s.heap.objs.size f cdv)) → sp vs H Q E →
      ∃ t, PSs (cxOf (L2N.CX P w) P w K mg base N qual (defScope st) f cdv A outer s H E) (defBody st) t ∧ t { nx := fun _ H' => Q .non H', rt := Q } (start N vs) H) : FnOk P w K mg base (L2N.CX P w) (k + 1) f fd ps sp := by
  obtain ⟨oc, od, kV, doc, pm, an, cdv, ct, osl, rfl, lk, hcd⟩ := F.ex
  exact fn_of lk hcd S len fun A outer s H vs Q E hr hsp => hb cdv A outer s H vs Q E hr hsp
structure CalX (P : Program) (w : World) (K : PySem.W.Frag) (mg : Str → Option Value) (base : Heap) (k : Nat) (x : Str) (sp : Sp) : Prop where
  ex : ∃ (f : Addr) (fd : FuncData) (ps : List Str), FnOk P w K mg base (L2N.CX P w) k f fd ps sp ∧ mg x = some (.ref f) ∧ PySem.W.keepIn K (.ref f) = true ∧ Binds K fd ps []
end
theorem pe_cX {X : Cx} {x : Str} {sp : Sp} {k j : Nat} {W : WX} {e : Expr} {es : List Expr} {t : TA} {p pos : Pos} (c : CalX X.prog X.w X.K X.mg X.base k x sp) (hr : Room j X.A) (hk : k ≤ j) (hg : Gl X x) (tk : L2N.Takes X W) (ha : PA X (e :: es) t) (hdb : (x == ("__debug__" : Str)) = false := by decide) (he : starEach (e :: es) X.env = (false, eval e X.env) :: starEach es X.env := by rfl) (hpl : (backTo pos (starEach es X.env)).any (·.1) = false := by rfl) :
    PE X (.Call (.Name x p) (e :: es) [] pos) (tCallS sp (fun σ x d H => W x d σ H) t) := by
  obtain ⟨f, fd, ps, F, hm, kp, b⟩ := c.ex
  exact pe_callS F (hr.mono hk) hg hm kp b (fun σ => L2N.passAt tk σ) ha hdb he hpl
section
variable {c : Vc} {W : XW} {m : Md} {tA : TA} {fA : VTA}
def vCallX (n : Nat) (sp : VSp) (fA : VTA) : VT := fun e Q Qx => fA e (fun ds e1 => ds.length = n ∧ sp ds (fun r _ => Q r e1) fun x _ => Qx x e1) Qx
theorem v_callX {pM : List Sh} {rsh : Sh} {sp : VSp} (hA : VA c W m tA fA) (hs : ∀ sh ∈ pM, sh = .s) : VE c W m (tCallS (spOf c.K pM rsh sp) (fun σ x d H => W x d σ H) tA) rsh (vCallX pM.length sp fA) := fun T σ e H Q Qv Qx hR hf hn hx => by
  refine hA T σ e H _ _ Qx hR hf (fun fT fV vs ds e1 H1 X1 rs p ⟨hl, q⟩ => ?_) hx
  have how : ∀ a, (a ∈ ([] : List Addr) ++ [] ∨ owOf c fT fV a) → owOf c fT fV a := fun a z => z.elim (fun y => by cases y) id
  refine ⟨⟨c.K, H1, fun _ => False, owOf c fT fV, pM, roots pM 0 vs⟩, ds, fun r _ => Qv r e1, fun x _ => Qx x e1, rfl, rfl, rfl, rfl, ⟨hl, [], [], rfl, .of (RV.ofS hs (rs.less how) hl), by simp, fun a z => (by cases z), fun b o q _ => q, ExtT.refl H1, fun b q => q, fun a z => ⟨X1.owS z, id⟩, fun p hp => (by rw [roots_s hs] at hp; cases hp)⟩, q, ?_, ?_⟩
  · rintro v r ps H' hpl ⟨gT, gV, Y⟩ q
    have sm : Same H1 H' := fun b o z => Y.kp b o z id
    have hg : gV = [] := RV.fpS hs (Y.vr.strict hpl)
    subst hg
    obtain ⟨f1, f2, e2, r1, r2⟩ := Y.tm
    have r2 : f2 = [] := r2
    subst r2
    rw [List.append_nil] at e2
    subst e2
    have nd := Y.nd
    rw [List.append_nil] at nd
    have fr : ∀ a ∈ gT, H1 a = none := fun a z => (Y.fr a (by rw [List.append_nil]; exact z)).elim (fun y => y.elim) id
    refine hn v r e1 H' ⟨gT ++ fT, fV, X1.pushO sm nd fr (RO.fr (fun _ _ q _ => q) (ExtT.refl H') (fun a z => ?_) _ _ _ _ r1 (fun _ _ _ q => q))⟩ (p.trans (Post.same sm)) q
    rcases z with z | z
    · rw [List.append_assoc] at z
      rcases List.mem_append.mp z with z | z
      · exact .inl (.inl (by rw [List.append_nil]; exact z))
      · exact .inl (.inr (.inl z))
    · exact .inl (.inr (.inr z))
  · rintro x d ps H' _ ⟨gT, gV, Y⟩ y q
    exact hx x d e1 H' ⟨fT, fV, X1.same fun b o z => Y.kp b o z id⟩ y q
end
/-! ### str(x) of a text or a number -/
def rStrA : List V → Hp → VK → Prop := fun xs H Q => (∃ a, xs = [.str a] ∧ Q (.str a) H) ∨ ∃ i, xs = [.int i] ∧ i.natAbs.log2 < 1920 ∧ Q (.str (toString i)) H
theorem call_strA {X : Cx} : CallR X (.type "str") rStrA := fun pins s σ H xs us Q I r h => by
  rcases h with h | h
  · exact SkE.call_str_str pins s σ H xs us Q I r h
  · exact call_str_int pins s σ H xs us Q I r h
def gStrA : GA
  | [.str z], Q => Q (.str z)
  | [.int i], Q => i.natAbs.log2 < 1920 ∧ Q (.str (toString i))
  | _, _ => False
theorem cd_strA {K : PySem.W.Frag} : CaD K rStrA gStrA := fun ow H vs ds Q Qd rs hg hn => by
  unfold gStrA at hg
  split at hg
  · obtain ⟨v, rfl, r⟩ := pr1 rs
    exact .inl ⟨_, by rw [r.str], hn _ _ rs_str hg⟩
  · obtain ⟨v, rfl, r⟩ := pr1 rs
    exact .inr ⟨_, by rw [r.int], hg.1, hn _ _ rs_str hg.2⟩
  · exact hg.elim
/-! ### a tuple of the module's own -/
def strsD (l : List Str) : D := .tup (l.map D.str)
theorem q_ktup {c : Vc} {a : Addr} {l : List Str} (h : ∀ H, SqT c.K H a (l.map V.str)) : VQ c (tC (.ref a)) (vC (strsD l)) := fun fT fV T σ e H Q Qv Qx hR q hn => hn _ _ (by
  unfold strsD
  simp only [RS]
  exact ⟨a, _, rfl, h H, rs_strs l⟩) q
end VL
set_option Elab.async false
set_option linter.all false
set_option maxRecDepth 100000
set_option maxHeartbeats 2000000
namespace VL
open PySem PySem.Spec PyProof.Rows L2
section
variable {c : Vc} {W : XW} {m : Md} {te ta tb : TE} {fe fa fb f : VT} {tl th : TO} {fl fh : VTO}
def vNeg (fe : VT) : VT := fun e Q Qx => fe e (fun d e1 => ∃ i, d = .int i ∧ Q (.int (-i)) e1) Qx
theorem q_neg (h : VB c te fe) : VQ c (tUn (rU fun i => .int (-i)) te) (vNeg fe) := fun fT fV T σ e H Q Qv Qx hR hf hn =>
  h fT fV T σ e H _ _ Qx hR hf fun v d r ⟨i, ed, q⟩ => by
    subst ed
    exact ⟨i, r.int, hn _ _ rs_int q⟩
def gAny : GA
  | [.lst l], Q => ∃ bs : List Bool, l = bs.map D.bl ∧ Q (.bl (bs.any id))
  | _, _ => False
theorem cd_any {K : PySem.W.Frag} : CaD K (rAny K) gAny := fun ow H vs ds Q Qd rs hg hn => by
  unfold gAny at hg
  split at hg
  · obtain ⟨bs, rfl, q⟩ := hg
    obtain ⟨v, rfl, r⟩ := pr1 rs
    obtain ⟨a, ws, rfl, s, t⟩ := r.lst
    have e := t.bls
    subst e
    exact ⟨a, bs, rfl, s.sq, hn _ _ rs_bl q⟩
  · exact hg.elim
/-! slices of what is read on the spot -/
def VOQ (c : Vc) (to : TO) (f : VTO) : Prop := ∀ (fT fV : List Addr) (T : List Tm) (σ : L2.St) (e : Env) (H : Hp) (Q : Option Int → Hp → Prop) (Qv : Option Int → Env → Prop) (Qx : QX), RX c fT fV T σ e H → f e Qv Qx → (∀ o, Qv o e → Q o H) → to σ H Q
theorem voq_none : VOQ c tNoPart vNo := fun fT fV T σ e H Q Qv Qx hR hf hn => hn none hf
theorem voq_some (h : VQ c te fe) : VOQ c (tPart te) (vPart fe) := fun fT fV T σ e H Q Qv Qx hR hf hn =>
  h fT fV T σ e H _ _ Qx hR hf fun v d r ⟨i, ed, q⟩ => by
    subst ed
    exact ⟨i, r.b.int, hn _ q⟩
theorem v_slLq {r : RSl} {g : D → Option Int → Option Int → (List D → Prop) → Prop} (h : VB c te fe) (hl : VOQ c tl fl) (hh : VOQ c th fh) (ho : SlL c.K r g) : VE c W m (tSl r te tl th) (.l .s) (vSlL g fe fl fh) := fun T σ e H Q Qv Qx ⟨fT, fV, hR⟩ hf hn hx =>
  h fT fV T σ e H _ _ Qx hR hf fun x dx rx h1 => hl fT fV T σ e H _ _ Qx hR h1 fun lo h2 => hh fT fV T σ e H _ _ Qx hR h2 fun hi h3 => ho _ H x dx lo hi Q _ rx h3 fun zs vs a rz qz ha => hn _ _ e _ (hR.newL ha rz) (Post.same (same_new ha)) qz
/-! a cell, told by a value, as a tuple or a list -/
def vCaTd (n : Nat) (g : GAL) (fe : VT) : VT := fun e Q Qx => fe e (fun x e1 => ∃ a d, x = .ref a ∧ Cell n e1 a d ∧ g [d] fun z => Q (.tup z) e1) Qx
theorem v_caTd {r : List V → Hp → VK → Prop} {g : GAL} (h : VE c W m te .s fe) (ho : CaT c.K r g) : VE c W m (tCB r (tCons te tNil)) .s (vCaTd c.M.length g fe) := fun T σ e H Q Qv Qx hR hf hn hx =>
  h T σ e H _ _ Qx hR hf (fun v d e1 H1 ⟨fT, fV, X0⟩ p ⟨a, d', ed, hc, q⟩ => by
    subst ed
    obtain ⟨r, X1⟩ := X0.topS
    clear X0
    have z : v = .ref a := by simpa only [RS] using r
    subst z
    exact ho _ H1 [.ref a] [d'] Q _ (.cons (X1.cellB hc).1 .nil) q fun zs ws b H2 rz qz s sq => hn _ _ e1 _ (X1.newT s sq rz) (p.trans (Post.same s)) qz) hx
/-! one's own list and another one put together -/
def vOp2Lv (i : Nat) (g : G2L) (fb : VT) : VT := fun e Q Qx => (∃ d, e[i]? = some (some d)) ∧ fb e (fun y e1 => ∃ l, e1[i]? = some (some (.lst l)) ∧ g (.lst l) y fun z => Q (.lst z) e1) Qx
theorem v_opLv {r : R2} {g : G2L} {i : Nat} (hM : c.M[i]? = some (.l .s)) (hb : VE c W m tb .s fb) (ho : OpL c.K r g) : VE c W m (tOp r (tVar i) tb) (.l .s) (vOp2Lv i g fb) := fun T σ e H Q Qv Qx ⟨fT, fV, hX⟩ ⟨⟨d, hd⟩, hf⟩ hn hx => by
  obtain ⟨v, fp, hv, _⟩ := hX.upd hM hd
  refine ⟨v, hv, hb T σ e H _ _ Qx ⟨fT, fV, hX⟩ hf (fun y dy e1 H1 R1 p ⟨l, hl, q⟩ => ?_) hx⟩
  obtain ⟨gT, gV, X0⟩ := R1
  obtain ⟨ry, X1⟩ := X0.topS
  obtain ⟨v', fp', hv', ro, _⟩ := X1.upd hM hl
  rw [hv] at hv'
  cases hv'
  exact ho _ H1 v y _ dy Q _ ro.bl.1 ry.b q fun zs vs a rz qz ha => hn _ _ e1 _ (X1.newL ha rz) (p.trans (Post.same (same_new ha))) qz
end
end VL
set_option Elab.async false
set_option linter.all false
set_option maxRecDepth 100000
set_option maxHeartbeats 2000000
namespace VL
open PySem PySem.Spec PyProof.Rows L2
section
variable {c : Vc} {W : XW} {m : Md} {ta tb : TE} {fa fb : VT}
theorem v_opLeb {r : R2} {g : G2L} (ha : VE c W m ta .s fa) (hb : VB c tb fb) (ho : OpL c.K r g) : VE c W m (tOp r ta tb) (.l .s) (vOp2L g fa fb) := fun T σ e H Q Qv Qx hR hf hn hx =>
  ha T σ e H _ _ Qx hR hf (fun x dx e1 H1 ⟨fT, fV, X0⟩ p q => by
    obtain ⟨rx, X1⟩ := X0.topS
    exact hb fT fV T σ e1 H1 _ _ Qx X1 q fun y dy ry q => ho _ H1 x y dx dy Q _ rx.b ry q fun zs vs a rz qz ha => hn _ _ e1 _ (X1.newL ha rz) (p.trans (Post.same (same_new ha))) qz) hx
end
/-! the rules of cells, the place told by a number -/
section
variable {c : Vc} {W : XW} {m : Md} {te ta tb tv ti : TE} {fe fa fb fv fi : VT} {tA : TA} {fA : VTA} {as : List (Option Nat)} {rsh : Sh} {pM : List Sh} {sp : VSp} {E : XK} {C : Addr} {nm f : Str}
theorem n_cell (n : Nat) (hn : c.M.length = n) (h : VQ c te fe) : VB c te (vDr n fe) := by subst hn; exact b_cell h
theorem n_cellL (n : Nat) (hn : c.M.length = n) (h : VE c W .e te (.l .s) fe) : VE c W .e te .s (vCell n fe) := by subst hn; exact v_cellL h
theorem n_cellD (n : Nat) (hn : c.M.length = n) (h : VE c W .e te (.d fun _ => .s) fe) : VE c W .e te .s (vCell n fe) := by subst hn; exact v_cellD h
theorem n_appC (n : Nat) (hn : c.M.length = n) (he : VQ c te fe) (hv : VE c W .e tv .s fv) : VE c W .e (tBM c.K "list" rAppend te (tCons tv tNil)) .s (vAppC n fe fv) := by subst hn; exact v_appC he hv
theorem n_popC (n : Nat) (hn : c.M.length = n) (he : VQ c te fe) : VE c W .e (tBM0 c.K "list" rPop te) .s (vPopC n fe) := by subst hn; exact v_popC he
theorem n_setF (n : Nat) (hn : c.M.length = n) (hC : Cls c.K C) (hN : NoAttr c.K C f) (he : VQ c te fe) (hv : VE c W .e tv .s fv) : VS c W rsh (sFld c.K te tv f) (vSetF n C f fe fv) := by subst hn; exact vs_setF hC hN he hv
theorem n_setIxC (n : Nat) (hn : c.M.length = n) (he : VQ c te fe) (hv : VE c W .e tv .s fv) (hi : VE c W .e ti .s fi) : VS c W rsh (tAsg tv (gSub te ti rSetL)) (vSetIxC n fe fi fv) := by subst hn; exact vs_setIxC he hv hi
theorem n_callA (n : Nat) (hn : c.M.length = n) (hA : VAx c W tA as fA) (hs : ShOk c.M as pM) : VE c W .e (tCall (spA c.K pM rsh sp) [] E tA) rsh (vCallA n pM.length as sp fA) := by subst hn; exact v_callA hA hs
theorem n_callAX (n : Nat) (hn : c.M.length = n) (hA : VAx c W tA as fA) (hs : ShOk c.M as pM) : VE c W .e (tCallS (spA c.K pM rsh sp) (fun σ x d H => W x d σ H) tA) rsh (vCallAX n pM.length as sp fA) := by subst hn; exact v_callAX hA hs
theorem n_makeA (n : Nat) (hn : c.M.length = n) (hA : VAx c W tA as fA) (hs : ShOk c.M as pM) : VE c W .e (tMake C (spA c.K (.s :: pM) .s sp) [] E tA) .s (vMakeA n (pM.length + 1) C as sp fA) := by subst hn; exact v_makeA hA hs
theorem n_methA (n : Nat) (hn : c.M.length = n) (he : VQ c te fe) (hA : VAx c W tA as fA) (hs : ShOk c.M as pM) : VE c W .e (tMeth C nm (spA c.K (.s :: pM) rsh sp) [] E te tA) rsh (vMethA n (pM.length + 1) C nm as sp fe fA) := by subst hn; exact v_methA he hA hs
theorem n_caTd {r : List V → Hp → VK → Prop} {g : GAL} (n : Nat) (hn : c.M.length = n) (h : VE c W m te .s fe) (ho : CaT c.K r g) : VE c W m (tCB r (tCons te tNil)) .s (vCaTd n g fe) := by subst hn; exact v_caTd h ho
end
end VL
set_option Elab.async false
set_option linter.all false
set_option maxRecDepth 100000
set_option maxHeartbeats 2000000
namespace VL
open PySem PySem.Spec PyProof.Rows L2
theorem inV_strs {z : Str} : ∀ ks : List Str, inV (.str z) (ks.map V.str) = decide (z ∈ ks)
  | [] => by simp [inV]
  | k :: ks => by
    have ih := inV_strs (z := z) ks
    unfold inV at ih ⊢
    rw [List.map_cons, List.any_cons, ih]
    by_cases e : k = z
    · subst e
      simp [eqV]
    · have e' : ¬ z = k := fun w => e w.symm
      simp [eqV, e, e']
theorem map_sc (ks : List Str) : (ks.map D.str).map scV = ks.map V.str := by rw [List.map_map]; rfl
theorem all_sc (ks : List Str) : (ks.map D.str).all isSc = true := by simp [isSc]
/-- in, among texts -/
theorem in_strs {z : Str} {ks : List Str} : inV (scV (.str z)) ((ks.map D.str).map scV) = decide (z ∈ ks) := by rw [map_sc]; exact inV_strs ks
theorem lc_signs {vs : List Nat} {vg : VTG} {fe : VT} {Q : List D → Env → Prop} {e : Env} (p : Nat → Bool) (z : Str) (hz : z.length ≤ 100000)
    (h : ∀ c (A : D → Env → Prop) , (∀ e3, wipeE e3 vs = e → A (.bl (p c)) e3) → vg (.str ⟨#[c]⟩) e fun e1 => fe e1 A noX) (q : Q ((z.cps.toList.map p).map D.bl) e) : vLcL vs vg vYes fe Q (sgD z) [] e := by
  unfold sgD
  have hl : z.cps.toList.length = z.length := by simp [Str.length]
  refine lc_mapF (fun c => D.str ⟨#[c]⟩) (fun c => D.bl (p c)) z.cps.toList [] (by rw [List.length_nil, hl]; exact small (by omega)) (fun a _ A B hA => ?_) (by simpa [List.map_map, Function.comp_def] using q)
  have := h a A hA
  simpa [vYes] using this
theorem le_sg {a c : Nat} : (!decide ((⟨#[c]⟩ : Str).cps.toList < (⟨#[a]⟩ : Str).cps.toList)) = decide (a ≤ c) := by
  have e : ((⟨#[c]⟩ : Str).cps.toList < (⟨#[a]⟩ : Str).cps.toList) ↔ c < a := by
    show [c] < [a] ↔ c < a
    constructor
    · intro h
      rcases h with _ | _ | _
      all_goals first | assumption | skip
      all_goals simp_all
    · intro h
      exact List.Lex.rel h
  by_cases q : a ≤ c
  · have : ¬ c < a := by omega
    simp [e, this, q]
  · have : c < a := by omega
    simp [e, this, q]

theorem s_gInK {neg : Bool} {z : Str} {ks : List Str} {Q : D → Prop} : gIn neg (.str z) (strsD ks) Q = Q (.bl (if neg then !decide (z ∈ ks) else decide (z ∈ ks))) := by
  unfold strsD
  rw [s_gInT, in_strs, all_sc]
  simp [isSc]
theorem s_gInS {neg : Bool} {z : Str} {ks : List Str} {Q : D → Prop} : gIn neg (.str z) (.lst (ks.map D.str)) Q = Q (.bl (if neg then !decide (z ∈ ks) else decide (z ∈ ks))) := by
  rw [s_gInL, in_strs, all_sc]
  simp [isSc]
@[simp] theorem s_isScS {z : Str} : (isSc (.str z) = true) = True := by simp [isSc]
section
variable {Q : D → Prop} {QB : Bool → Prop} {QE : Env → Prop} {z : Str} {i n : Int} {b : Bool} {l : List D} {e : Env} {k : Nat} {vgs : VTGs}
theorem s_gIntS : gIntS [.str z] Q = ∃ n, PySem.intText? z = some n ∧ z.length ≤ 640 ∧ Q (.int n) := rfl
theorem s_gStrS : gStrS [.str z] Q = Q (.str z) := rfl
theorem s_gStrA1 : gStrA [.str z] Q = Q (.str z) := rfl
theorem s_gStrA2 : gStrA [.int i] Q = (i.natAbs.log2 < 1920 ∧ Q (.str (toString i))) := rfl
theorem s_gBoolL : gBoolL [.lst l] Q = Q (.bl (!l.isEmpty)) := rfl
theorem s_gMulS : gMulS (.str z) (.int n) Q = (PySem.MulOk z n ∧ Q (.str (Txt.mul z n))) := rfl
theorem s_gAny : gAny [.lst l] Q = ∃ bs : List Bool, l = bs.map D.bl ∧ Q (.bl (bs.any id)) := rfl
theorem s_truN : truD .non QB = QB false := rfl
theorem s_truB : truD (.bl b) QB = QB b := rfl
theorem s_truI : truD (.int i) QB = QB (i != 0) := rfl
theorem s_truS : truD (.str z) QB = (z.length ≤ sizeLine ∧ QB ((z.length : Int) != 0)) := rfl
theorem s_truL : truD (.lst l) QB = QB (!l.isEmpty) := rfl
theorem s_truT : truD (.tup l) QB = QB (!l.isEmpty) := rfl
theorem s_vgLst : vgLst k vgs (.lst l) e QE = (l.length = k ∧ vgs l e QE) := rfl
theorem s_seqL : seqD (.lst l) = some l := rfl
theorem s_seqT : seqD (.tup l) = some l := rfl
end
theorem cuD_to {l : List D} {p : Nat} (h : p ≤ l.length) : cuD l none (some (p : Int)) = l.take p := by
  unfold cuD
  rw [HT.sIx_none, HT.sIx_nat, List.drop_zero, Nat.sub_zero, Nat.min_eq_left h]
theorem cuD_from {l : List D} {p : Nat} (h : p ≤ l.length) : cuD l (some (p : Int)) none = l.drop p := by
  unfold cuD
  rw [HT.sIx_none, HT.sIx_nat, Nat.min_eq_left h]
  exact List.take_of_length_le (by rw [List.length_drop]; omega)
theorem cuD_1 {x : D} {l : List D} : cuD (x :: l) (some 1) none = l := cuD_from (l := x :: l) (p := 1) (by simp)
theorem cuD_2 {l : List D} (h : 2 ≤ l.length) : cuD l (some 2) none = l.drop 2 := cuD_from (p := 2) h
theorem zipD_strs {f : Nat → D} (a : List Nat) (b : List Str) : zipD (a.map f) (b.map D.str) = (a.zip b).map fun p => .tup [f p.1, .str p.2] := by
  unfold zipD
  rw [List.zipWith_map, List.zip, List.map_zipWith]
theorem ex_par {x y : D} {P : D → D → Prop} : (∃ a b, [x, y] = [a, b] ∧ P a b) = P x y := by
  apply propext
  constructor
  · rintro ⟨a, b, e, h⟩
    cases e
    exact h
  · exact fun h => ⟨x, y, rfl, h⟩
section
variable {neg : Bool} {z a b c d e : Str} {Q : D → Prop}
theorem s_gIn2 : gIn neg (.str z) (.tup [.str a, .str b]) Q = Q (.bl (if neg then !decide (z ∈ [a, b]) else decide (z ∈ [a, b]))) := s_gInK (ks := [a, b])
theorem s_gIn3 : gIn neg (.str z) (.tup [.str a, .str b, .str c]) Q = Q (.bl (if neg then !decide (z ∈ [a, b, c]) else decide (z ∈ [a, b, c]))) := s_gInK (ks := [a, b, c])
theorem s_gIn4 : gIn neg (.str z) (.tup [.str a, .str b, .str c, .str d]) Q = Q (.bl (if neg then !decide (z ∈ [a, b, c, d]) else decide (z ∈ [a, b, c, d]))) := s_gInK (ks := [a, b, c, d])
theorem s_gIn5 : gIn neg (.str z) (.tup [.str a, .str b, .str c, .str d, .str e]) Q = Q (.bl (if neg then !decide (z ∈ [a, b, c, d, e]) else decide (z ∈ [a, b, c, d, e]))) := s_gInK (ks := [a, b, c, d, e])
end
/-- an if without else, its test told at once -/
theorem guard {ft : VTB} {f : VTS} {U : VEnds} {e : Env} (b : Bool) (ht : ∀ QB : Bool → Env → Prop, QB b e → ft e QB U.ex) (h1 : b = true → f U e) (h2 : b = false → U.nx e) : vIfS ft f vNext U e := by
  rw [s_ifS]
  refine ht _ ?_
  cases b with
  | true => exact h1 rfl
  | false => exact h2 rfl
theorem guard2 {ft : VTB} {f g : VTS} {U : VEnds} {e : Env} (b : Bool) (ht : ∀ QB : Bool → Env → Prop, QB b e → ft e QB U.ex) (h1 : b = true → f U e) (h2 : b = false → g U e) : vIfS ft f g U e := by
  rw [s_ifS]
  refine ht _ ?_
  cases b with
  | true => exact h1 rfl
  | false => exact h2 rfl
theorem cellAt_set {d0 d : D} {a b : Addr} : ∀ {al : List Addr} {l : List D}, cellAt al l a = some d0 → cellAt al (cellSet al l a d) b = if a = b then some d else cellAt al l b
  | [], _, h => by simp [cellAt] at h
  | _ :: _, [], h => by simp [cellAt] at h
  | c :: al, x :: l, h => by
    simp only [cellAt, cellSet] at h ⊢
    by_cases e : c = a
    · rw [if_pos e]
      simp only [cellAt]
      by_cases e2 : a = b
      · rw [if_pos (e.trans e2), if_pos e2]
      · rw [if_neg (fun z => e2 (e.symm.trans z)), if_neg (fun z => e2 (e.symm.trans z)), if_neg e2]
    · rw [if_neg e] at h ⊢
      simp only [cellAt]
      by_cases e2 : c = b
      · rw [if_pos e2, if_pos e2, if_neg (fun z => e (e2.trans z.symm))]
      · rw [if_neg e2, if_neg e2, cellAt_set h]
theorem cellAt_new {a b : Addr} {d : D} {al : List Addr} {l : List D} : cellAt (a :: al) (d :: l) b = if a = b then some d else cellAt al l b := rfl
theorem ex_cell {n : Nat} {e : Env} {a : Addr} {d : D} : Cell n e a d = ∃ al l, e[n]? = some (some (.mem al l)) ∧ cellAt al l a = some d := rfl
theorem cell_no {a : Addr} {d : D} {al : List Addr} {l : List D} : cellAt al l a = some d → a ∈ al := fun h => by
  induction al generalizing l with
  | nil => simp [cellAt] at h
  | cons c al ih =>
    cases l with
    | nil => simp [cellAt] at h
    | cons x l =>
      simp only [cellAt] at h
      split at h
      · rename_i e; rw [e]; exact List.mem_cons_self
      · exact List.mem_cons_of_mem _ (ih h)
section
variable {ds : List D} {al al' : List Addr} {l l' : List D} {x y z u : D}
theorem ap1 (h : ds ++ [.mem al l] = [x, .mem al' l']) : ds = [x] ∧ al = al' ∧ l = l' := by
  obtain ⟨a, b⟩ := List.append_inj' (s₂ := [x]) h rfl
  cases b
  exact ⟨a, rfl, rfl⟩
theorem ap2 (h : ds ++ [.mem al l] = [x, y, .mem al' l']) : ds = [x, y] ∧ al = al' ∧ l = l' := by
  obtain ⟨a, b⟩ := List.append_inj' (s₂ := [x, y]) h rfl
  cases b
  exact ⟨a, rfl, rfl⟩
theorem ap3 (h : ds ++ [.mem al l] = [x, y, z, .mem al' l']) : ds = [x, y, z] ∧ al = al' ∧ l = l' := by
  obtain ⟨a, b⟩ := List.append_inj' (s₂ := [x, y, z]) h rfl
  cases b
  exact ⟨a, rfl, rfl⟩
end
end VL
set_option Elab.async false
set_option linter.all false
set_option maxRecDepth 100000
set_option maxHeartbeats 2000000
namespace HT
open PySem PySem.Spec PyProof.Rows
section
variable {prog : Program} {w : World} {A : Around} {E : Value → Shared → Prop} {s : Shared}
theorem rv_places (n : Nat) : Builtin.Slice.slicePlaces ((n : Int) - 1) (-1) (-1) = n := by
  unfold Builtin.Slice.slicePlaces
  rw [if_neg (by decide)]
  by_cases h : n = 0
  · subst h
    rfl
  · rw [if_pos (by omega)]
    have e : (n : Int) - 1 - (-1) - 1 = (n : Int) - 1 := by omega
    rw [e]
    have e2 : (-(-1 : Int)) = 1 := by decide
    rw [e2, Int.ediv_one]
    omega
theorem rv_applied {sl : Addr} {vs : Value} {n : Nat} {Q : Int × Int × Nat → Shared → Prop} (hs : s.heap.IsSliceOf sl .none .none vs) (pv : IsPart vs (some (-1)))
    (h : Q ((n : Int) - 1, -1, n) s) : wpAny (model prog w) A (Builtin.Slice.sliceApplied (.ref sl) (pure (n : Int))) Q E s := by
  obtain ⟨os, hos, hcs, hds⟩ := id hs
  unfold Builtin.Slice.sliceApplied Builtin.Slice.sliceFields
  refine wpAny_bind (wpAny_bind (wpAny_field hos hds (x := .none) rfl (wpAny_bind (wpAny_field hos hds (x := .none) rfl (wpAny_bind (wpAny_field hos hds (x := vs) rfl (wpAny_pure ?_)))))))
  refine wpAny_bind (slicePart_ pv ?_)
  show wpAny _ _ (if ((-1 : Int) == 0) = true then _ else _) _ _ s
  rw [if_neg (by decide)]
  refine wpAny_bind (slicePart_ .none (wpAny_bind (slicePart_ .none (wpAny_bind (wpAny_pure ?_)))))
  show wpAny _ _ (pure ((n : Int) - 1, (-1 : Int), Builtin.Slice.slicePlaces ((n : Int) - 1) (-1) (-1))) _ _ s
  rw [rv_places]
  exact wpAny_pure h
theorem fm_some {α β : Type} {f : α → Option β} {g : α → β} : ∀ l : List α, (∀ m ∈ l, f m = some (g m)) → l.filterMap f = l.map g
  | [], _ => rfl
  | m :: l, h => by rw [List.filterMap_cons, h m List.mem_cons_self, List.map_cons, fm_some l fun x hx => h x (List.mem_cons_of_mem _ hx)]
theorem rv_pick (xs : Array Value) : ((List.range xs.size).filterMap fun (m : Nat) => xs[((xs.size : Int) - 1 + (m : Int) * (-1)).toNat]?).toArray = xs.toList.reverse.toArray := by
  congr 1
  apply List.ext_getElem?
  intro i
  have e : (List.range xs.size).filterMap (fun (m : Nat) => xs[((xs.size : Int) - 1 + (m : Int) * (-1)).toNat]?) = (List.range xs.size).map fun m => xs.toList.reverse.getD m .none := by
    refine fm_some _ fun m hm => ?_
    have hm := List.mem_range.mp hm
    have hk : ((xs.size : Int) - 1 + (m : Int) * (-1)).toNat = xs.size - 1 - m := by omega
    rw [hk]
    have hlt : xs.size - 1 - m < xs.size := by omega
    rw [Array.getElem?_eq_getElem hlt]
    have : m < xs.toList.reverse.length := by simp; exact hm
    simp [List.getD_eq_getElem?_getD, List.getElem?_eq_getElem, this, hm]
  rw [e, List.getElem?_map]
  by_cases hi : i < xs.size
  · have h2 : i < xs.toList.reverse.length := by simp; exact hi
    rw [List.getElem?_range hi, Option.map_some, List.getD_eq_getElem?_getD, List.getElem?_eq_getElem h2]
    rfl
  · rw [List.getElem?_eq_none (by simp; omega), List.getElem?_eq_none (by simp; omega)]
    rfl
theorem rv_getItem {t sl : Addr} {items : Array Value} {vs : Value} {Q : Value → Shared → Prop} (ht : IsTup s.heap t items) (hs : s.heap.IsSliceOf sl .none .none vs) (pv : IsPart vs (some (-1)))
    (h : Q (.ref s.heap.objs.size) { s with heap := s.heap.push { cls := .type "tuple", data := .seq items.toList.reverse.toArray } })
    (hsz : items.size ≤ sizeLine) : wpAny (model prog w) A (getItem (.ref t) (.ref sl)) Q E s := by
  have htake : sizeOk (.seq items.toList.reverse.toArray) := by
    show items.toList.reverse.toArray.size ≤ sizeLine
    rw [List.size_toArray, List.length_reverse, Array.length_toList]
    exact hsz
  obtain ⟨os, hos, hcs, hds⟩ := id hs
  have hTs : s.TypeIs (.ref sl) "slice" := ⟨os, hos, hcs⟩
  unfold getItem
  try with_reducible refine wpAny_holding ?_
  first | refine wpAny_bind (wpAny_pure ?_) | skip
  refine wpAny_bind (wpAny_sequenceKey ht.typeIs (by decide) ?_)
  refine wpAny_bind (wpAny_callSpecial?_slot (name := Str.ofString "__getitem__") ht.typeIs PyProof.Rows.slot_tuple_getitem
    (wpAny_call_entry PyProof.Rows.slot_tuple_getitem ht.typeIs entry_tuple_getitem ?_ (args_tuple_getitem _ _)))
  show wpAny _ _ (Builtin.Tuple.tupleItemsOf (.ref t) >>= _) _ _ s
  refine wpAny_bind (tupleItemsOf_ ht ?_)
  refine wpAny_bind (wpAny_typeOf hTs ?_)
  rw [if_pos (by decide)]
  refine wpAny_bind (rv_applied hs pv ?_)
  have hno : ¬ ((((items.size : Int) - 1 == 0) && ((-1 : Int) == 1) && (items.size == items.size)) = true) := by simp
  show wpAny _ _ (if (((items.size : Int) - 1 == 0) && ((-1 : Int) == 1) && (items.size == items.size)) = true then _ else _) _ _ s
  rw [if_neg hno, rv_pick]
  first
    | exact wpAny_bind (m := Builtin.Tuple.tupleExact _) (wpAny_newObj_type (wpAny_pure ⟨_, rfl, wpAny_pure h⟩) htake)
    | exact wpAny_bind (m := Builtin.Tuple.tupleExact _) (wpAny_newObj_type (wpAny_bind (wpAny_pure (wpAny_pure ⟨_, rfl, wpAny_pure h⟩))) htake)
end
end HT
namespace Fb
open PySem PySem.Spec PyProof.Rows L2
section
variable {X : Cx}
/-- t[::-1] of a tuple -/
def tRevT (K : PySem.W.Frag) (te : TE) : TE := fun σ H Q => te σ H fun x H1 => ∃ a xs, x = .ref a ∧ SqT K H1 a xs ∧ ∀ p, H1 p = none → Q (.ref p) (upd H1 p (.tup xs.reverse))
theorem pe_revT {e : Expr} {te : TE} {k : Nat} {p1 p2 p3 pos : Pos} (he : PE X e te) : PE X (.Subscript e (.Slice none none (some (.UnaryOp .USub (.Constant (.int 1) k p1) p2)) p3) pos) (tRevT X.K te) := by
  refine ⟨fun pins s σ H Q I h => ?_⟩
  refine Subscript_ (thn (he.run pins s σ H _ I h) fun v s1 ⟨x, H1, I1, r1, q1⟩ => ?_)
  obtain ⟨a, xs, ex, hx, q⟩ := q1
  subst ex
  cases r1
  have hst : PO X (some (.UnaryOp .USub (.Constant (.int 1) k p1) p2)) (tPart (tUn (rU fun i => .int (-i)) (tC (.int 1)))) := po_some (pe_un un_neg pe_int)
  refine wpAny_Slice (thn (po_none.run pins s1 σ H1 (fun o H2 => o = none ∧ H2 = H1) I1 ⟨rfl, rfl⟩) fun vl s2 ⟨l, H2, I2, pl, el, e2⟩ => ?_)
  subst el e2
  refine thn (po_none.run pins s2 σ H2 (fun o H3 => o = none ∧ H3 = H2) I2 ⟨rfl, rfl⟩) fun vu s3 ⟨u, H3, I3, pu, eu, e3⟩ => ?_
  subst eu e3
  refine thn (hst.run pins s3 σ H3 (fun o H4 => o = some (-1) ∧ H4 = H3) I3 ⟨1, rfl, -1, rfl, rfl, rfl⟩) fun vs s4 ⟨o, H4, I4, ps, eo, e4⟩ => ?_
  subst eo e4
  have I5 : Inv X pins σ H4 { s4 with heap := s4.heap.push { cls := .type "slice", data := .fields #[vl, vu, vs] } } := I4.kept (t' := s4.toks) fun b ob q => Heap.get?_push_of_some _ q
  obtain ⟨its, r, ht, hz⟩ := I5.tuple hx
  have hlen := r.length
  cases pl
  cases pu
  show wpAny (model X.prog X.w) X.A (subscriptTail e (.Slice none none (some (.UnaryOp .USub (.Constant (.int 1) k p1) p2)) p3) (.ref a) (.ref s4.heap.objs.size)) (EP X pins σ Q) X.xe { s4 with heap := s4.heap.push { cls := .type "slice", data := .fields #[.none, .none, vs] } }
  refine tail_any (ops := [.ref a, .ref s4.heap.objs.size]) ht.typeIs (PyProof.Rows.slot_tuple_getitem.lookup) ?_ (by with_unfolding_all rfl)
  refine HT.rv_getItem ht (Heap.IsSliceOf.new _ .none .none vs) ps ?_ (by rw [List.size_toArray]; omega)
  refine ⟨.ref _, _, I5.laid (t' := s4.toks) (o := .tup xs.reverse) (fun b ob q => Heap.get?_push_of_some _ q) (Nat.le_refl _) ?_, rfl, q _ (I5.hok.fresh (Nat.le_refl _))⟩
  exact ⟨by rw [List.length_reverse]; exact hz, _, r.reverse, IsTup.new _ _⟩
end
end Fb
set_option Elab.async false
set_option linter.all false
set_option maxRecDepth 100000
set_option maxHeartbeats 2000000
namespace VL
open PySem PySem.Spec PyProof.Rows L2
/-! ### x[::-1] -/
section
variable {K : PySem.W.Frag} {ow : Addr → Prop} {H : Hp}
theorem RSs.snoc {d : D} {v : V} : ∀ {l : List D} {vs : List V}, RSs K ow H l vs → RS K ow H d v → RSs K ow H (l ++ [d]) (vs ++ [v])
  | [], _, h, r => by
    simp only [RSs] at h
    subst h
    exact .cons r .nil
  | x :: l, _, h, r => by
    simp only [RSs] at h
    obtain ⟨y, ys, rfl, h1, h2⟩ := h
    exact .cons h1 (RSs.snoc h2 r)
theorem RSs.rev : ∀ {l : List D} {vs : List V}, RSs K ow H l vs → RSs K ow H l.reverse vs.reverse
  | [], _, h => by
    simp only [RSs] at h
    subst h
    exact .nil
  | x :: l, _, h => by
    simp only [RSs] at h
    obtain ⟨y, ys, rfl, h1, h2⟩ := h
    rw [List.reverse_cons, List.reverse_cons]
    exact RSs.snoc (RSs.rev h2) h1
end
section
variable {X : Cx}
theorem revLK (K0 : PySem.W.Frag) (hK : X.K = K0) {e : Expr} {te : TE} {k : Nat} {p1 p2 p3 pos : Pos} (he : PE X e te) : PE X (.Subscript e (.Slice none none (some (.UnaryOp .USub (.Constant (.int 1) k p1) p2)) p3) pos) (tRevL K0 te) := by subst hK; exact pe_revL he
theorem revTK (K0 : PySem.W.Frag) (hK : X.K = K0) {e : Expr} {te : TE} {k : Nat} {p1 p2 p3 pos : Pos} (he : PE X e te) : PE X (.Subscript e (.Slice none none (some (.UnaryOp .USub (.Constant (.int 1) k p1) p2)) p3) pos) (Fb.tRevT K0 te) := by subst hK; exact Fb.pe_revT he
end
section
variable {c : Vc} {W : XW} {m : Md} {te : TE} {fe : VT}
def vRevL (fe : VT) : VT := fun e Q Qx => fe e (fun x e1 => ∃ l, x = .lst l ∧ Q (.lst l.reverse) e1) Qx
def vRevT (fe : VT) : VT := fun e Q Qx => fe e (fun x e1 => ∃ l, x = .tup l ∧ Q (.tup l.reverse) e1) Qx
theorem v_revL (h : VB c te fe) : VE c W m (tRevL c.K te) (.l .s) (vRevL fe) := fun T σ e H Q Qv Qx ⟨fT, fV, hR⟩ hf hn hx =>
  h fT fV T σ e H _ _ Qx hR hf fun x dx rx ⟨l, ed, q⟩ => by
    subst ed
    obtain ⟨a, vs, ev, hq, rs⟩ := rx
    exact ⟨a, vs, ev, hq.sq, fun p hp => hn _ _ e _ (hR.newL hp rs.rev) (Post.same (same_new hp)) q⟩
theorem v_revLe (h : VE c W m te .s fe) : VE c W m (tRevL c.K te) (.l .s) (vRevL fe) := fun T σ e H Q Qv Qx hR hf hn hx =>
  h T σ e H _ _ Qx hR hf (fun v d e1 H1 ⟨fT, fV, X0⟩ p ⟨l, ed, q⟩ => by
    subst ed
    obtain ⟨r, X1⟩ := X0.topS
    obtain ⟨a, vs, ev, hq, rs⟩ := r.b
    exact ⟨a, vs, ev, hq.sq, fun b hp => hn _ _ e1 _ (X1.newL hp rs.rev) (p.trans (Post.same (same_new hp))) q⟩) hx
theorem v_revT (h : VB c te fe) : VE c W m (Fb.tRevT c.K te) .s (vRevT fe) := fun T σ e H Q Qv Qx ⟨fT, fV, hR⟩ hf hn hx =>
  h fT fV T σ e H _ _ Qx hR hf fun x dx rx ⟨l, ed, q⟩ => by
    subst ed
    obtain ⟨a, vs, ev, hq, rs⟩ := rx
    exact ⟨a, vs, ev, hq, fun p hp => hn _ _ e _ (hR.newT (same_new hp) (SqT.of upd_same) rs.rev) (Post.same (same_new hp)) q⟩
/-- a text's method on what is read on the spot -/
theorem v_m1B {ta tb : TE} {fa fb : VT} {r : V → List V → Hp → VK → Prop} {g : G2} (ha : VQ c ta fa) (hb : VB c tb fb) (ho : MtD c.K r g) : VQ c (tM1 r ta tb) (vM1 g fa fb) := fun fT fV T σ e H Q Qv Qx hR hf hn =>
  ha fT fV T σ e H _ _ Qx hR hf fun x dx rx ⟨i, h1⟩ => by
    refine ⟨by cases dx <;> first | exact i.elim | exact ⟨_, rx.b.str⟩, ?_⟩
    exact hb fT fV T σ e H _ _ Qx hR h1 fun y dy ry h2 => ho _ H x y dx dy Q _ rx.b ry h2 fun z v => hn v z
theorem v_joinB {ta tb : TE} {fa fb : VT} (ha : VQ c ta fa) (hb : VB c tb fb) : VQ c (tM1 (fun x xs H Q => ∃ a p, ∃ ys : List Str, x = .str a ∧ xs = [.ref p] ∧ (SqL c.K H p (ys.map V.str) ∨ SqT c.K H p (ys.map V.str)) ∧ (ys.map (·.length)).sum + ys.length * a.length ≤ 16777216 ∧ Q (.str (Txt.join a ys)) H) ta tb) (vM1 gJoin fa fb) := v_m1B ha hb md_join
end
end VL
set_option Elab.async false
set_option linter.all false
set_option maxRecDepth 100000
set_option maxHeartbeats 2000000
namespace VL
open PySem PySem.Spec PyProof.Rows L2
section
variable {c : Vc} {W : XW} {rsh : Sh} {ta tb : TE} {fa fb : VT}
/-! ### a, b = x, y, things of one's own -/
def vParO (i j : Nat) (fa fb : VT) : VTS := fun D e => fa e (fun a e1 => fb e1 (fun b e2 => D.nx ((e2.set i (some a)).set j (some b))) D.ex) D.ex
theorem vs_parO {i j : Nat} {s1 s2 : Sh} (ha : VE c W .e ta s1 fa) (hb : VE c W .e tb s2 fb) (hij : i ≠ j) (hi : c.M[i]? = some s1) (hj : c.M[j]? = some s2) (ri : ∀ p ∈ c.rt, p.1 ≠ i) (rj : ∀ p ∈ c.rt, p.1 ≠ j) : VS c W rsh (tPar i j (tCons ta (tCons tb tNil))) (vParO i j fa fb) := fun T σ e H D Dv hR hf L =>
  ha T σ e H _ _ Dv.ex hR hf (fun x dx e1 H1 R1 _ q => hb _ σ e1 H1 _ _ Dv.ex R1 q (fun y dy e2 H2 R2 _ q2 => by
    refine ⟨x, y, rfl, ?_⟩
    have z := (R2.set hj rj).set hi ri
    rw [List.set_comm _ _ hij.symm, List.set_comm (l := e2) _ _ hij.symm] at z
    exact L.nx _ _ H2 z q2) (fun x d e' H' r y q => L.ex x d σ e' H' r.pop y q)) (fun x d e' H' r y q => L.ex x d σ e' H' r y q)
end
end VL
set_option Elab.async false
set_option linter.all false
set_option maxRecDepth 100000
set_option maxHeartbeats 2000000
/-! d.update(e), e a dict -/
namespace Fb
open PySem PySem.Spec PyProof.Rows L2
def rUpdD : V → List V → Hp → VK → Prop := fun x xs H Q => ∃ (d o : Addr) (kvs more : List (L2.Key × V)), x = .ref d ∧ xs = [.ref o] ∧ d ≠ o ∧ H d = some (.dK kvs) ∧ Rd H o (.dK more) ∧ kvs.length + more.length ≤ sizeLine ∧ Q .non (L2.upd H d (.dK (mergeK kvs more)))
theorem mt_updD {X : Cx} : MtR X "dict.update" rUpdD := by
  intro pins s σ H x vs v us Q I rx rv h
  obtain ⟨d, o, kvs, more, ex, ev, hne, e, eo, hz, q⟩ := h
  subst ex
  subst ev
  obtain rfl : v = Value.ref d := rx
  obtain ⟨u, rfl, ru⟩ := vals1 rv
  obtain rfl : u = Value.ref o := ru
  obtain ⟨z, hd, ws, rel, dd⟩ := dk_of I.hok e
  obtain ⟨z2, hd2, ws2, rel2, dd2⟩ := dk_rd I.hok eo
  refine call_meetsIn PySem.F.slot_dict_update dd.typeIs PySem.F.entry_dict_update (PySem.F.args_dict_update_2 _ _) (PySem.meets_dict_update (mixKind X.prog X.w) d o hne hd2) ⟨ws, ws2, dd, dd2, by rw [← rel.length, ← rel2.length]; exact hz, fun h' dd' _ hs => ?_⟩
  have he : ∃ q, h'.get? d = some q := let ⟨q, _, _, hq, _⟩ := dd'; ⟨q, hq⟩
  exact ⟨.non, _, d_write (t' := s.toks) I (by rw [e]; exact True.intro) hs he (dk_new (Nat.le_trans (length_mergeK more kvs) hz) hd (KV.merge rel2 rel) dd'), rfl, q⟩
end Fb
set_option Elab.async false
set_option linter.all false
set_option maxRecDepth 100000
set_option maxHeartbeats 2000000
namespace VL
open PySem PySem.Spec PyProof.Rows L2
/-! ### dicts of one's own: d[k] = v, d.update(e), dict(pairs) -/
section
variable {K : PySem.W.Frag} {ow ow' : Addr → Prop} {H H' : Hp}
abbrev dsh : Sh := .d fun _ => .s
theorem RO_dd {d : D} {v : V} {fp : List Addr} : RO K ow H d dsh v fp ↔ ∃ ks l a vs, d = .dct ks l ∧ v = .ref a ∧ H a = some (.dK (ks.zip vs)) ∧ ks.length = vs.length ∧ RSs K ow H l vs ∧ fp = [a] := by
  constructor
  · intro h
    cases d <;> first | (simp only [dsh, RO] at h; done) | skip
    rename_i ks l
    simp only [dsh, RO] at h
    obtain ⟨a, vs, fps, rfl, q, n, t, rfl⟩ := h
    have key : ∀ (l : List D) (ks : List Key) (vs : List V) (fps : List Addr), ROs K ow H l (ks.map fun _ => Sh.s) vs fps → RSs K ow H l vs ∧ fps = [] := fun l => by
      induction l with
      | nil =>
        intro ks vs fps t
        simp only [ROs] at t
        rw [t.2.1]
        exact ⟨.nil, t.2.2⟩
      | cons d l ih =>
        intro ks vs fps t
        simp only [ROs] at t
        obtain ⟨sh, shs', v, vs', f1, f2, e1, rfl, rfl, h1, h2⟩ := t
        cases ks with
        | nil => cases e1
        | cons k ks =>
          rw [List.map_cons] at e1
          cases e1
          obtain ⟨z1, z2⟩ := ih ks vs' f2 h2
          have := RO_s.mp h1
          exact ⟨.cons this.2 z1, by rw [this.1, z2]; rfl⟩
    obtain ⟨z1, z2⟩ := key l ks vs fps t
    exact ⟨ks, l, a, vs, rfl, rfl, q, n, z1, by rw [z2]⟩
  · rintro ⟨ks, l, a, vs, rfl, rfl, q, n, r, rfl⟩
    simp only [dsh, RO]
    refine ⟨a, vs, [], rfl, q, n, ?_, rfl⟩
    exact ROs.ofS (fun s hs => by
      obtain ⟨_, _, e⟩ := List.mem_map.mp hs
      exact e.symm) (by rw [List.length_map, n, r.len]) r
/-- in its place, or at the end -/
def pKs (ks : List Key) (k : Key) : List Key := if hasK ks k = true then ks else ks ++ [k]
def pVs {α : Type} (ks : List Key) (l : List α) (k : Key) (v : α) : List α := if hasK ks k = true then List.zipWith (fun k' x => if k' = k then v else x) ks l else l ++ [v]
theorem pVs_len {α β : Type} {ks : List Key} {l : List α} {l' : List β} {k : Key} {v : α} {v' : β} (h : l.length = l'.length) : (pVs ks l k v).length = (pVs ks l' k v').length := by
  unfold pVs
  split <;> simp [h]
theorem pKs_len {α : Type} {ks : List Key} {l : List α} {k : Key} {v : α} (h : ks.length = l.length) : (pKs ks k).length = (pVs ks l k v).length := by
  unfold pKs pVs
  split <;> simp [h]
theorem any_zip {k : Key} : ∀ {ks : List Key} {vs : List V}, ks.length = vs.length → ((ks.zip vs).any fun kv => decide (kv.1 = k)) = hasK ks k
  | [], [], _ => by simp [hasK]
  | [], _ :: _, h => by cases h
  | _ :: _, [], h => by cases h
  | k0 :: ks, v :: vs, h => by
    rw [List.zip_cons_cons, List.any_cons, any_zip (Nat.succ.inj h)]
    rfl
theorem map_zip {k : Key} {v : V} : ∀ {ks : List Key} {vs : List V}, (ks.zip vs).map (fun kv => if kv.1 = k then (kv.1, v) else kv) = ks.zip (List.zipWith (fun k' x => if k' = k then v else x) ks vs)
  | [], _ => by simp
  | _ :: _, [] => by simp
  | k0 :: ks, x :: vs => by
    rw [List.zip_cons_cons, List.map_cons, map_zip, List.zipWith_cons_cons, List.zip_cons_cons]
    split <;> rfl
theorem putK_zip {ks : List Key} {vs : List V} {k : Key} {v : V} (h : ks.length = vs.length) : putK (ks.zip vs) k v = (pKs ks k).zip (pVs ks vs k v) := by
  unfold putK pKs pVs
  rw [any_zip h]
  by_cases e : hasK ks k = true
  · rw [if_pos e, if_pos e, if_pos e, map_zip]
  · rw [if_neg e, if_neg e, if_neg e, List.zip_append h]
    rfl
theorem RSs.zipW {k : Key} {dy : D} {y : V} (ry : RS K ow H dy y) : ∀ {ks : List Key} {l : List D} {vs : List V}, RSs K ow H l vs → RSs K ow H (List.zipWith (fun k' x => if k' = k then dy else x) ks l) (List.zipWith (fun k' x => if k' = k then y else x) ks vs)
  | [], _, _, _ => by simp only [List.zipWith_nil_left]; exact .nil
  | _ :: _, [], _, h => by
    simp only [RSs] at h
    rw [h]
    exact .nil
  | k0 :: ks, d :: l, _, h => by
    simp only [RSs] at h
    obtain ⟨v, r, rfl, h1, h2⟩ := h
    rw [List.zipWith_cons_cons, List.zipWith_cons_cons]
    refine .cons ?_ (RSs.zipW ry h2)
    split
    · exact ry
    · exact h1
theorem RSs.pVs {k : Key} {dy : D} {y : V} (ry : RS K ow H dy y) {ks : List Key} {l : List D} {vs : List V} (h : RSs K ow H l vs) : RSs K ow H (VL.pVs ks l k dy) (VL.pVs ks vs k y) := by
  unfold VL.pVs
  split
  · exact h.zipW ry
  · exact RSs.app (.cons ry .nil) h
/-- many put, one behind the other -/
def mKs (ks : List Key) : List Key → List Key
  | [] => ks
  | k :: more => mKs (pKs ks k) more
def mVs {α : Type} (ks : List Key) (l : List α) : List Key → List α → List α
  | k :: more, v :: vs => mVs (pKs ks k) (pVs ks l k v) more vs
  | _, _ => l
theorem mergeK_zip : ∀ {more : List Key} {ws : List V} {ks : List Key} {vs : List V}, ks.length = vs.length → more.length = ws.length → mergeK (ks.zip vs) (more.zip ws) = (mKs ks more).zip (mVs ks vs more ws) ∧ (mKs ks more).length = (mVs ks vs more ws).length
  | [], [], ks, vs, h, _ => ⟨rfl, h⟩
  | [], _ :: _, _, _, _, h => by cases h
  | _ :: _, [], _, _, _, h => by cases h
  | k :: more, w :: ws, ks, vs, h, h2 => by
    obtain ⟨a, b⟩ := mergeK_zip (more := more) (ws := ws) (ks := pKs ks k) (vs := VL.pVs ks vs k w) (pKs_len h) (Nat.succ.inj h2)
    refine ⟨?_, b⟩
    rw [List.zip_cons_cons]
    show mergeK (putK (ks.zip vs) k w) (more.zip ws) = _
    rw [putK_zip h]
    exact a
theorem RSs.mVs : ∀ {more : List Key} {ws : List V} {ds : List D} {ks : List Key} {l : List D} {vs : List V}, RSs K ow H l vs → RSs K ow H ds ws → RSs K ow H (VL.mVs ks l more ds) (VL.mVs ks vs more ws)
  | [], _, _, _, _, _, h, _ => by simp only [VL.mVs]; exact h
  | _ :: _, _, [], _, _, _, h, h2 => by
    simp only [RSs] at h2
    rw [h2]
    simp only [VL.mVs]
    exact h
  | k :: more, _, d :: ds, ks, l, vs, h, h2 => by
    simp only [RSs] at h2
    obtain ⟨w, r, rfl, h3, h4⟩ := h2
    simp only [VL.mVs]
    exact RSs.mVs (RSs.pVs h3 h) h4
end
section
variable {c : Vc} {W : XW} {rsh : Sh} {m : Md} {te tv ti : TE} {fe fv fi : VT}
theorem RX.ownD {fT fV : List Addr} {T : List Tm} {σ : L2.St} {e : Env} {H : Hp} {i : Nat} {ks : List Key} {l : List D} (h : RX c fT fV T σ e H) (hM : c.M[i]? = some dsh) (hd : e[i]? = some (some (.dct ks l))) :
    ∃ a vs, σ[i]? = some (some (.ref a)) ∧ H a = some (.dK (ks.zip vs)) ∧ ks.length = vs.length ∧ RSs c.K (owOf c fT fV) H l vs ∧ owOf c fT fV a ∧ ∀ (ks' : List Key) (l' : List D) (vs' : List V), ks'.length = vs'.length → (∀ ow', (∀ b, ow' b → owOf c fT fV b ∨ H b = none) → RSs c.K ow' (L2.upd H a (.dK (ks'.zip vs'))) l' vs') → ∃ fV', RX c fT fV' T σ (e.set i (some (.dct ks' l'))) (L2.upd H a (.dK (ks'.zip vs'))) := by
  obtain ⟨v, fp, hv, ro, sub, nf, k⟩ := h.upd hM hd
  obtain ⟨ks0, l0, a, vs, el, ea, ha, hn, rs, ef⟩ := RO_dd.mp ro
  cases el
  subst ea ef
  refine ⟨a, vs, hv, ha, hn, rs, .inl (sub a (List.mem_singleton_self a)), fun ks' l' vs' hn' hr => ?_⟩
  have nfx : ∀ u, H a = some u → ¬ Fx u := fun u q => by rw [ha] at q; cases q; exact id
  refine k (L2.upd H a (.dK (ks'.zip vs'))) (.dct ks' l') [a] (fun b o q n => ?_) (ExtT.upd nfx) (fun b q => al_upd b q) (by simp) (fun b z => .inl z) fun ow' how => RO_dd.mpr ⟨ks', l', a, vs', rfl, rfl, upd_same, hn', hr ow' how, rfl⟩
  rw [upd_ne (fun z => n (by rw [z]; exact List.mem_singleton_self a))]
  exact q
theorem RX.frD {fT fV : List Addr} {H : Hp} {a : Addr} {o o' : HO} (ha : H a = some o) (nf : ¬ Fx o) (oa : owOf c fT fV a) : Fr (owOf c fT fV) H (L2.upd H a o') := RX.frL ha nf oa
def vDPut (i : Nat) (fi fv : VT) : VTS := fun D e => fv e (fun y e1 => (∃ ks l, e1[i]? = some (some (.dct ks l))) ∧ fi e1 (fun kk e2 => ∃ ks l k, kk = kD k ∧ e2[i]? = some (some (.dct ks l)) ∧ ks.length < sizeLine ∧ D.nx (e2.set i (some (.dct (pKs ks k) (pVs ks l k y))))) D.ex) D.ex
theorem vs_dput {i : Nat} (hM : c.M[i]? = some dsh) (hv : VE c W .e tv .s fv) (hi : VE c W .e ti .s fi) : VS c W rsh (sDPut (tVar i) ti tv) (vDPut i fi fv) := fun T σ e H D Dv hR hf L =>
  hv T σ e H _ _ Dv.ex hR hf (fun y dy e1 H1 R1 _ ⟨⟨ks0, l0, hl0⟩, q⟩ => by
    obtain ⟨fT, fV, X1⟩ := R1
    obtain ⟨a, vs0, hva, ha0, _⟩ := X1.ownD hM hl0
    refine ⟨_, hva, hi _ σ e1 H1 _ _ Dv.ex ⟨fT, fV, X1⟩ q (fun kv dk e2 H2 R2 _ ⟨ks, l, k, ek, hl, hz, q⟩ => ?_) (fun x d e' H' r y q => L.ex x d σ e' H' r.pop y q)⟩
    subst ek
    obtain ⟨gT, gV, X2⟩ := R2
    obtain ⟨rk, X2⟩ := X2.topS
    obtain ⟨ry, X2⟩ := X2.topS
    have ek : kv = kV k := rk.b.key
    obtain ⟨a1, vs, hv1, ha, hn, rs, oa, kp⟩ := X2.ownD hM hl
    rw [hva] at hv1
    cases hv1
    have F := RX.frL (o' := .dK ((pKs ks k).zip (pVs ks vs k y))) ha id oa
    obtain ⟨fV2, X3⟩ := kp (pKs ks k) (pVs ks l k dy) (pVs ks vs k y) (pKs_len hn) fun ow' how => RSs.pVs (RS.fr F how _ _ ry) (RSs.fr F how _ _ rs)
    refine ⟨a, _, rfl, ?_, L.nx σ _ _ ⟨gT, fV2, X3⟩ q⟩
    rw [ek]
    have := DPut.k (k := k) (v := y) ha (by rw [List.length_zip, ← hn, Nat.min_self]; exact hz)
    rw [putK_zip hn] at this
    exact this) (fun x d e' H' r y q => L.ex x d σ e' H' r y q)
def vUpd (i : Nat) (fe : VT) : VT := fun e Q Qx => (∃ ks l, e[i]? = some (some (.dct ks l))) ∧ fe e (fun y e1 => ∃ ks l ks2 l2, y = .dct ks2 l2 ∧ e1[i]? = some (some (.dct ks l)) ∧ ks.length + ks2.length ≤ sizeLine ∧ Q .non (e1.set i (some (.dct (mKs ks ks2) (mVs ks l ks2 l2))))) Qx
theorem tyV_d {K : PySem.W.Frag} {H : Hp} {a : Addr} {kvs : List (Key × V)} (h : H a = some (.dK kvs)) : tyV K "dict" (.ref a) H := .inr (.inr (.inl ⟨rfl, .inl ⟨kvs, h⟩⟩))
theorem v_upd {i : Nat} (hM : c.M[i]? = some dsh) (he : VE c W .e te dsh fe) : VE c W .e (tBM c.K "dict" Fb.rUpdD (tVar i) (tCons te tNil)) .s (vUpd i fe) := fun T σ e H Q Qv Qx hR ⟨⟨ks0, l0, hl0⟩, hf⟩ hn hx => by
  obtain ⟨fT, fV, hX⟩ := hR
  obtain ⟨a, vs0, hv, ha0, _⟩ := hX.ownD hM hl0
  refine ⟨_, hv, tyV_d ha0, ?_⟩
  refine he T σ e H _ _ Qx ⟨fT, fV, hX⟩ hf (fun y dy e1 H1 R1 _ ⟨ks, l, ks2, l2, ey, hl, hz, q⟩ => ?_) hx
  subst ey
  obtain ⟨fT1, fV1, X1⟩ := R1
  obtain ⟨a1, vs, hv1, ha, hlen, rs, oa, k⟩ := X1.ownD hM hl
  rw [hv] at hv1
  cases hv1
  obtain ⟨fp, fT', e1', ro, nf, _⟩ := X1.updT
  obtain ⟨ks0', l0', b, ws, el, eb, hb, hlen2, rs2, ef⟩ := RO_dd.mp ro
  cases el
  subst eb
  have hab : a ≠ b := fun z => by
    obtain ⟨v, fp2, hv', ro', sub, _⟩ := X1.upd hM hl
    have n := X1.nd
    obtain ⟨g1, gp, g2, x, y, a1, a2, a3, a4, a5⟩ := X1.vr.split hM
    rw [hl] at a2
    cases a2
    obtain ⟨v2, ev2, ro2⟩ := a4
    obtain ⟨_, _, b2, _, el2, eb2, _, _, _, ef2⟩ := RO_dd.mp ro2
    rw [hv] at a1
    cases a1
    cases ev2
    cases eb2
    rw [List.nodup_append] at n
    exact n.2.2 b (by rw [e1', ef]; simp) a (by rw [a3, ef2]; simp) z.symm
  obtain ⟨m1, m2⟩ := mergeK_zip (more := ks2) (ws := ws) hlen hlen2
  have F := RX.frL (o' := .dK ((mKs ks ks2).zip (mVs ks vs ks2 ws))) ha id oa
  obtain ⟨fV2, X2⟩ := k (mKs ks ks2) (mVs ks l ks2 l2) (mVs ks vs ks2 ws) m2 fun ow' how => RSs.mVs (RSs.fr F how _ _ rs) (RSs.fr F how _ _ rs2)
  obtain ⟨fT3, X3⟩ := X2.pop
  refine ⟨a, b, ks.zip vs, ks2.zip ws, rfl, rfl, hab, ha, .inl hb, by rw [List.length_zip, List.length_zip, ← hlen, ← hlen2, Nat.min_self, Nat.min_self]; exact hz, ?_⟩
  rw [m1]
  exact hn _ _ _ _ ⟨fT3, fV2, X3.pushS rs_non⟩ Post.e q
/-! dict(pairs) -/
variable {tA : TA} {fA : VTA}
def rDictP (K : PySem.W.Frag) : List V → Hp → VK → Prop := fun xs H Q => ∃ (a : Addr) (ps : List Addr) (kvs : List (Key × V)), xs = [.ref a] ∧ SqL K H a (ps.map V.ref) ∧ Paired (fun p kv => SqT K H p [kV kv.1, kv.2]) ps kvs ∧ ∀ p, H p = none → Q (.ref p) (upd H p (.dK (mergeK [] kvs)))
theorem call_dictPK {X : Cx} (K0 : PySem.W.Frag) (hK : X.K = K0) (hcalm : X.calm = true) : CallR X (.type "dict") (rDictP K0) := by subst hK; exact call_dictP hcalm
def vDictP (fA : VTA) : VT := fun e Q Qx => fA e (fun ds e1 => ∃ prs : List (Key × D), ds = [.lst (prs.map fun p => .tup [kD p.1, p.2])] ∧ Q (.dct (mKs [] (prs.map (·.1))) (mVs [] [] (prs.map (·.1)) (prs.map (·.2)))) e1) Qx
theorem pairs_rs {K : PySem.W.Frag} {ow : Addr → Prop} {H : Hp} : ∀ {prs : List (Key × D)} {vs : List V}, RSs K ow H (prs.map fun p => .tup [kD p.1, p.2]) vs → ∃ (ps : List Addr) (ws : List V), vs = ps.map V.ref ∧ Paired (fun p kv => SqT K H p [kV kv.1, kv.2]) ps ((prs.map (·.1)).zip ws) ∧ (prs.map (·.1)).length = ws.length ∧ RSs K ow H (prs.map (·.2)) ws
  | [], _, h => by
    simp only [List.map_nil, RSs] at h
    subst h
    exact ⟨[], [], rfl, .nil, rfl, .nil⟩
  | (k, d) :: prs, _, h => by
    rw [List.map_cons] at h
    simp only [RSs] at h
    obtain ⟨v, r, rfl, h1, h2⟩ := h
    obtain ⟨ps, ws, rfl, pp, hl, rr⟩ := pairs_rs h2
    simp only [RS] at h1
    obtain ⟨a, vs, rfl, sq, t⟩ := h1
    simp only [RSs] at t
    obtain ⟨x, r1, rfl, rx, y, r2, rfl, ry, rfl⟩ := t
    have ex : x = kV k := rx.b.key
    subst ex
    refine ⟨a :: ps, y :: ws, rfl, ?_, by simpa using hl, .cons ry rr⟩
    rw [List.map_cons, List.zip_cons_cons]
    exact .cons sq pp
theorem v_dictP (hA : VBA c tA fA) : VE c W m (tCB (rDictP c.K) tA) dsh (vDictP fA) := fun T σ e H Q Qv Qx ⟨fT, fV, hR⟩ hf hn hx =>
  hA fT fV T σ e H _ _ Qx hR hf fun vs ds rs ⟨prs, ed, q⟩ => by
    subst ed
    obtain ⟨v, rfl, rb⟩ := pr1 rs
    obtain ⟨a, us, rfl, sq, r⟩ := rb.lst
    obtain ⟨ps, ws, rfl, pp, hl, rr⟩ := pairs_rs r
    refine ⟨a, ps, _, rfl, sq.sq, pp, fun p np => ?_⟩
    obtain ⟨m1, m2⟩ := mergeK_zip (more := prs.map (·.1)) (ws := ws) (ks := []) (vs := []) rfl hl
    have m1 : mergeK [] ((prs.map (·.1)).zip ws) = _ := m1
    rw [m1]
    refine hn _ _ e _ ⟨[p] ++ fT, fV, hR.pushO (same_new np) (by simp) (fun a z => by rw [List.mem_singleton.mp z]; exact np) (RO_dd.mpr ⟨_, _, p, _, rfl, rfl, upd_same, m2, ?_, rfl⟩)⟩ (Post.same (same_new np)) q
    exact RSs.fr (Fr.same (same_new np)) (ow_grow (fp := [p]) (fun a z => by rw [List.mem_singleton.mp z]; exact np)) _ _ (RSs.mVs (ks := []) .nil rr)
/-! sorted(..) of texts, of a dict by texts -/
def gSortS : GAL := fun ds Q => ∃ ns : List Str, ds = [.lst (ns.map D.str)] ∧ ns.length < 64 ∧ ∀ ys : List Str, ys.Perm ns → Q (ys.map D.str)
theorem cl_sortS {K : PySem.W.Frag} : CaL K (rSortedS K) gSortS := fun ow H vs ds Q Qd rs ⟨ns, ed, h64, q⟩ hn => by
  subst ed
  obtain ⟨v, rfl, rb⟩ := pr1 rs
  obtain ⟨a, us, rfl, sq, r⟩ := rb.lst
  have e := r.strs
  subst e
  exact ⟨a, ns, rfl, sq.sq, h64, fun ys p hp _ np => hn _ _ p (rs_strs ys) (q ys hp) np⟩
theorem sortSK {X : Cx} (K0 : PySem.W.Frag) (hK : X.K = K0) : CallR X (.builtin "sorted") (rSortedS K0) := by subst hK; exact cr_sortedS
def rSortedDS : List V → Hp → VK → Prop := fun xs H Q => ∃ (a : Addr) (kvs : List (Key × V)) (ks : List Str), xs = [.ref a] ∧ Rd H a (.dK kvs) ∧ kvs.map (·.1) = ks.map Sum.inr ∧ ks.length < 64 ∧ ∀ ys p, ys.Perm ks → sortedS ys = true → H p = none → Q (.ref p) (upd H p (.lst (ys.map V.str)))
theorem sortDK {X : Cx} (hc : X.calm = true) : CallR X (.builtin "sorted") rSortedDS := call_sortedD hc
def gSortD : GAL := fun ds Q => ∃ (ns : List Str) (l : List D), ds = [.dct (ns.map Sum.inr) l] ∧ ns.length < 64 ∧ ∀ ys : List Str, ys.Perm ns → Q (ys.map D.str)
theorem cl_sortD {K : PySem.W.Frag} : CaL K rSortedDS gSortD := fun ow H vs ds Q Qd rs ⟨ns, l, ed, h64, q⟩ hn => by
  subst ed
  obtain ⟨v, rfl, rb⟩ := pr1 rs
  obtain ⟨a, us, rfl, sq, hl, r⟩ := rb.dct
  exact ⟨a, _, ns, rfl, sq, by rw [List.map_fst_zip (by omega)], h64, fun ys p hp _ np => hn _ _ p (rs_strs ys) (q ys hp) np⟩
end
end VL
set_option Elab.async false
set_option linter.all false
set_option maxRecDepth 100000
set_option maxHeartbeats 2000000
namespace VL
open PySem PySem.Spec PyProof.Rows L2
/-! ### a comprehension over a dict of one's own: under a lock -/
section
variable {K : PySem.W.Frag} {ow : Addr → Prop} {H : Hp}
/-- .. the slot of another form -/
theorem RV.splitS : ∀ {M : List Sh} {σ : L2.St} {e : Env} {fV : List Addr} {i : Nat} {sh : Sh}, RV K ow H M σ e fV → M[i]? = some sh →
    ∃ f1 fp f2 x y, σ[i]? = some x ∧ e[i]? = some y ∧ fV = f1 ++ (fp ++ f2) ∧ Slot K ow H sh x y fp ∧
      ∀ {H' : Hp} {ow' : Addr → Prop} {sh' : Sh} {fp' : List Addr}, (∀ b o, H b = some o → ¬ ow b → H' b = some o) → ExtT H H' → (∀ a, ow' a → ow a ∨ H a = none) → (∀ b ∈ f1 ++ f2, ∀ o, H b = some o → H' b = some o) → Slot K ow' H' sh' x y fp' →
        RV K ow' H' (M.set i sh') σ e (f1 ++ (fp' ++ f2))
  | [], _, _, _, i, _, _, hM => by simp at hM
  | sh0 :: M, _, _, _, 0, sh, ⟨x, σ', y, e', f1, f2, e1, e2, e3, h1, h2⟩, hM => by
    subst e1 e2 e3
    simp only [List.getElem?_cons_zero, Option.some.injEq] at hM
    subst hM
    refine ⟨[], f1, f2, x, y, rfl, rfl, rfl, h1, fun {H' ow' sh' fp'} hk hT how k s => ?_⟩
    exact ⟨x, σ', y, e', fp', f2, rfl, rfl, rfl, s, RV.fr hk hT how h2 (fun b z => k b z)⟩
  | sh0 :: M, _, _, _, i + 1, sh, ⟨x, σ', y, e', f1, f2, e1, e2, e3, h1, h2⟩, hM => by
    subst e1 e2 e3
    simp only [List.getElem?_cons_succ] at hM
    obtain ⟨g1, fp, g2, x2, y2, a1, a2, a3, a4, a5⟩ := RV.splitS h2 hM
    subst a3
    refine ⟨f1 ++ g1, fp, g2, x2, y2, by simpa using a1, by simpa using a2, by simp, a4, fun {H' ow' sh' fp'} hk hT how k s => ?_⟩
    refine ⟨x, σ', y, e', f1, g1 ++ (fp' ++ g2), rfl, rfl, by simp, h1.fr hk hT how (fun b z => k b (by simp [z])), ?_⟩
    exact a5 hk hT how (fun b z => k b (by
      rcases List.mem_append.mp z with q | q
      · simp [q]
      · simp [q])) s
theorem RVT.splitS {M : List Sh} {σ : L2.St} {e : Env} {fV : List Addr} {i : Nat} {sh : Sh} (h : RVT K ow H M σ e fV) (hM : M[i]? = some sh) :
    ∃ f1 fp f2 x y, σ[i]? = some x ∧ e[i]? = some y ∧ fV = f1 ++ (fp ++ f2) ∧ Slot K ow H sh x y fp ∧
      ∀ {H' : Hp} {ow' : Addr → Prop} {sh' : Sh} {fp' : List Addr}, (∀ b o, H b = some o → ¬ ow b → H' b = some o) → ExtT H H' → (∀ a, ow' a → ow a ∨ H a = none) → (∀ b ∈ f1 ++ f2, ∀ o, H b = some o → H' b = some o) → Slot K ow' H' sh' x y fp' →
        RVT K ow' H' (M.set i sh') σ e (f1 ++ (fp' ++ f2)) := by
  obtain ⟨e0, tl, f0, ft, rfl, rfl, r, t⟩ := h
  obtain ⟨f1, fq, f2, x, y, a1, a2, a3, a4, a5⟩ := r.splitS hM
  subst a3
  have hi : i < e0.length := (List.getElem?_eq_some_iff.mp a2).1
  refine ⟨f1, fq, f2 ++ ft, x, y, a1, by rw [List.getElem?_append_left hi]; exact a2, by simp, a4, fun {H' ow' sh' fp'} hk hT how k s => ?_⟩
  refine ⟨e0, tl, f1 ++ (fp' ++ f2), ft, rfl, by simp, a5 hk hT how (fun b z => k b ?_) s, t.fr hk hT how (fun b z => k b (by simp [z]))⟩
  rcases List.mem_append.mp z with z | z <;> simp [z]
end
theorem kD_rs {K : PySem.W.Frag} {ow : Addr → Prop} {H : Hp} (k : Key) : RS K ow H (kD k) (kV k) := by
  cases k with
  | inl i => exact rs_int
  | inr x => exact rs_str
theorem kDs_rs {K : PySem.W.Frag} {ow : Addr → Prop} {H : Hp} : ∀ ks : List Key, RSs K ow H (ks.map kD) (ks.map kV)
  | [] => .nil
  | k :: ks => .cons (kD_rs k) (kDs_rs ks)
section
variable {c : Vc} {W : XW} {tt : TT} {ft : VTB}
def vLcK (i j : Nat) (ft : VTB) : VT := fun e Q _ => ∃ ks l, e[i]? = some (some (.dct ks l)) ∧ ks.length < sizeLine ∧ ∃ p : Key → Bool, (∀ k ∈ ks, ft (e.set j (some (kD k))) (fun b _ => b = p k) noX) ∧ Q (.lst ((ks.filter p).map kD)) e
theorem v_lcK {i j : Nat} (hM : c.M[i]? = some dsh) (hj : c.M[j]? = some .s) (hij : i ≠ j) (hr : ∀ p ∈ c.rt, p.1 ≠ j) (ht : ∀ (H0 : Hp) (io : Addr → Prop), VBt ⟨c.K, H0, io, c.av, c.M.set i .s, c.rt⟩ W0 .n tt ft) : VE c W .n (tLockE (tLc (iKeys (tVar i)) (gName j) tt (tVar j) [j])) (.l .s) (vLcK i j ft) := fun T σ e H Q Qv Qx ⟨fT, fV, X⟩ ⟨ks, l, he, hz, p, hp, q⟩ hn hx => by
  obtain ⟨a, vs, hv, ha, hl, rs, oa, _⟩ := X.ownD hM he
  refine ⟨a, _, ha, trivial, fun od => ?_⟩
  have hsz : (ks.zip vs).length = ks.length := by rw [List.length_zip, ← hl, Nat.min_self]
  have hHl : ∀ b o, H b = some o → b ≠ a → L2.upd H a (.frz od (.dK (ks.zip vs))) b = some o := fun b o q n => by rw [upd_ne n]; exact q
  refine ⟨.ref a, hv, a, od, rfl, .inl ⟨_, upd_same, fun P hP => ?_⟩⟩
  have hPa : P ≠ a := fun z => by rw [z, upd_same] at hP; cases hP
  have hPn : H P = none := by rw [upd_ne hPa] at hP; exact hP
  generalize hHd : L2.upd H a (.frz od (.dK (ks.zip vs))) = Hl at hP hHl ⊢
  have hla : Hl a = some (.frz od (.dK (ks.zip vs))) := by rw [← hHd, upd_same]
  refine ⟨fun k n H2 => n = ks.length - k ∧ k ≤ ks.length ∧ Same Hl H2 ∧ H2 P = some (.lst (((ks.take k).filter p).map kV)), ⟨ks.length, by simp, Nat.zero_le _, same_new hP, by rw [upd_same]; rfl⟩, ?_⟩
  rintro k n H2 ⟨rfl, hk, sm, hP2⟩
  have h2a : H2 a = some (.frz od (.dK (ks.zip vs))) := sm _ _ hla
  by_cases hlt : k < ks.length
  · refine .inr ⟨⟨h2a, by rw [hsz]; exact hlt⟩, fun H' => Same Hl H' ∧ H' P = some (.lst (((ks.take (k + 1)).filter p).map kV)), fun H' z => ⟨ks.length - (k + 1), by omega, rfl, hlt, z.1, z.2⟩, ?_⟩
    rintro x H3 ⟨rfl, key, v', hkey, rfl⟩
    have hks : ks[k]? = some key := by
      rw [List.getElem?_eq_getElem hlt]
      have := hkey
      rw [List.getElem?_zip_eq_some] at this
      rw [List.getElem?_eq_getElem hlt] at this
      exact this.1
    have hmem : key ∈ ks := List.mem_of_getElem? hks
    have htk : ks.take (k + 1) = ks.take k ++ [key] := by rw [List.take_add_one, hks]; rfl
    have hkk : ∀ b o, H b = some o → b ≠ a → H3 b = some o := fun b o q n => sm b o (hHl b o q n)
    obtain ⟨f1, fp, f2, x, y, a1, a2, a3, a4, a5⟩ := X.vr.splitS hM
    subst a3
    rw [he] at a2
    cases a2
    obtain ⟨v, ev, ro⟩ := a4
    rw [hv] at a1
    cases a1
    cases ev
    obtain ⟨ks', l', a', vs', el, ea, ha', hl', rs', ef⟩ := RO_dd.mp ro
    cases el
    cases ea
    subst ef
    have p1 : List.Perm (fT ++ (f1 ++ ([a] ++ f2))) (a :: (fT ++ (f1 ++ ([] ++ f2)))) := by
      rw [List.perm_iff_count]
      intro b
      simp only [List.count_append, List.count_cons, List.count_nil]
      omega
    have nd := p1.nodup X.nd
    rw [List.nodup_cons] at nd
    have sub : ∀ b, b ∈ fT ++ (f1 ++ ([] ++ f2)) → b ∈ fT ++ (f1 ++ ([a] ++ f2)) := fun b z => p1.mem_iff.mpr (List.mem_cons_of_mem _ z)
    have nav : ¬ c.av a := fun z => by
      have w := X.ok a z
      rcases X.fr a (p1.mem_iff.mpr List.mem_cons_self) with y | y
      · exact w.2 y
      · exact w.1 y
    have R' : R ⟨c.K, H3, fun b => b ∈ fT ++ (f1 ++ ([] ++ f2)), c.av, c.M.set i .s, c.rt⟩ T σ e H3 := by
      have how : ∀ b, owOf ⟨c.K, H3, fun b => b ∈ fT ++ (f1 ++ ([] ++ f2)), c.av, c.M.set i .s, c.rt⟩ fT (f1 ++ ([] ++ f2)) b → owOf c fT (f1 ++ ([a] ++ f2)) b ∨ H b = none := fun b z => by
        rcases z with z | z
        · exact .inl (.inl (sub b z))
        · exact .inl (.inr z)
      have hk1 : ∀ b o, H b = some o → ¬ owOf c fT (f1 ++ ([a] ++ f2)) b → H3 b = some o := fun b o q n => hkk b o q fun z => n (by rw [z]; exact oa)
      have hT : ExtT H H3 := fun b o q f => hkk b o q fun z => by
        subst z
        rw [ha] at q
        cases q
        exact f
      have F : Fr (owOf c fT (f1 ++ ([a] ++ f2))) H H3 := ⟨hk1, hT⟩
      refine ⟨fT, f1 ++ ([] ++ f2), X.tm.fr hk1 hT how (fun b z o q => hkk b o q fun w => nd.1 (by rw [← w]; simp [z])), a5 hk1 hT how (fun b z o q => hkk b o q fun w => nd.1 (by
        rw [← w]
        rcases List.mem_append.mp z with z | z <;> simp [z])) ⟨.ref a, rfl, RO_s.mpr ⟨rfl, ?_⟩⟩, nd.2, fun b z => .inl z, fun b o q _ => q, ExtT.refl _, fun b q => q, fun b z => ⟨?_, ?_⟩, X.rt⟩
      · simp only [RS]
        refine ⟨a, vs, rfl, .inr ⟨od, h2a⟩, ?_, hl, RSs.fr F how _ _ rs⟩
        rintro (z | z)
        · exact nd.1 z
        · exact nav z
      · show H3 b ≠ none
        intro w
        cases y : H b with
        | none => exact X.avn z y
        | some o =>
          by_cases ba : b = a
          · exact nav (by rw [← ba]; exact z)
          · rw [hkk b o y ba] at w
            cases w
      · intro y
        rcases X.fr b (sub b y) with w | w
        · exact (X.ok b z).2 w
        · exact (X.ok b z).1 w
    have R2 := R'.wipe (vs := [j]) (fun i z p hp => by rw [List.mem_singleton.mp z]; exact hr p hp)
    obtain ⟨gT, gV, X2⟩ := R2
    have R3 : R ⟨c.K, H3, fun b => b ∈ fT ++ (f1 ++ ([] ++ f2)), c.av, c.M.set i .s, c.rt⟩ T ((L2.wipe σ [j]).set j (some (kV key))) ((wipeE e [j]).set j (some (kD key))) H3 := R.set ⟨gT, gV, X2.pushS (kD_rs key)⟩ (by
      show (c.M.set i .s)[j]? = some .s
      rw [List.getElem?_set_ne hij]
      exact hj) hr
    have ee : (wipeE e [j]).set j (some (kD key)) = e.set j (some (kD key)) := by
      unfold wipeE wipeE
      rw [List.set_set]
    rw [ee] at R3
    have hjl : j < (L2.wipe σ [j]).length := by
      rw [wipe_length]
      have z := X.vr.len.1
      have := (List.getElem?_eq_some_iff.mp hj).1
      omega
    refine ⟨?_, ht _ _ T _ _ H3 _ _ noX R3 (hp key hmem) (fun b e4 H4 R4 p4 q4 => ?_) (fun x d e' H' r y q => q.elim)⟩
    · show ((σ.set j none).set j (some (kV key))).set j none = σ.set j none
      rw [List.set_set, List.set_set]
    have p4 : Same H3 H4 := p4 rfl
    subst q4
    cases hpk : p key with
    | true =>
      refine ⟨_, List.getElem?_set_self hjl, _, p4 _ _ hP2, ?_, fun b o eb => ?_, ?_⟩
      · rw [List.length_map]
        have h1 := List.length_filter_le p (ks.take k)
        rw [List.length_take] at h1
        omega
      · rw [upd_ne (ne_of_none eb hP)]
        exact p4 b o (sm b o eb)
      · rw [upd_same, htk, List.filter_append, List.map_append]
        simp [hpk]
    | false =>
      refine ⟨fun b o eb => p4 b o (sm b o eb), ?_⟩
      rw [p4 _ _ hP2, htk, List.filter_append]
      simp [hpk]
  · have hk : k = ks.length := by omega
    subst hk
    rw [List.take_length] at hP2
    have smf : Same H (L2.upd H2 a (.dK (ks.zip vs))) := fun b o eb => by
      by_cases z : b = a
      · subst z
        rw [ha] at eb
        cases eb
        exact upd_same
      · rw [upd_ne z]
        exact sm b o (hHl b o eb z)
    refine .inl ⟨⟨h2a, by rw [hsz]; exact Nat.le_refl _⟩, h2a, ?_⟩
    refine hn (.ref P) _ e _ ⟨[P] ++ fT, fV, X.pushO smf (by simp) (fun b z => by rw [List.mem_singleton.mp z]; exact hPn) (RO_l.mpr ⟨_, P, _, rfl, rfl, ?_, kDs_rs _, rfl⟩)⟩ (Post.same smf) q
    rw [upd_ne hPa]
    exact hP2
end
end VL
set_option Elab.async false
set_option linter.all false
set_option maxRecDepth 100000
set_option maxHeartbeats 2000000
namespace VL
open PySem PySem.Spec PyProof.Rows L2
/-! ### a comprehension over a list that is read on the spot -/
section
variable {c : Vc} {W : XW} {te te1 : TE} {fe fe0 : VT} {tt : TT} {ft : VTB} {tg : TG} {vg : VTG} {own vs : List Nat}
theorem pushR_app : ∀ (xs : List V) (ds : List D) (T : List Tm), ∃ hs : List Tm, VL.pushR xs ds T = hs ++ T ∧ ∀ (i : Nat) (x : V) (d : D), xs[i]? = some x → ds[i]? = some d → (.s, x, d) ∈ hs
  | [], ds, T => ⟨[], by cases ds <;> rfl, fun i x d h => by simp at h⟩
  | x :: xs, [], T => ⟨[], rfl, fun i x d _ h => by simp at h⟩
  | x :: xs, d :: ds, T => by
    obtain ⟨hs, e, h⟩ := pushR_app xs ds T
    refine ⟨(.s, x, d) :: hs, by simp only [VL.pushR, e]; rfl, fun i y z hy hz => ?_⟩
    cases i with
    | zero =>
      simp at hy hz
      subst hy hz
      exact List.mem_cons_self
    | succ i => exact List.mem_cons_of_mem _ (h i y z (by simpa using hy) (by simpa using hz))
def vLcB (fi : VT) (vs : List Nat) (vg : VTG) (ft : VTB) (fe : VT) : VT := fun e Q Qx => fi e (fun d e1 => ∃ l, d = .lst l ∧ vLcL vs vg ft fe (fun acc e2 => Q (.lst acc) e2) l [] (wipeE e1 vs)) Qx
theorem v_lcB {sh : Sh} (hi : VB c te fe0) (hg : VG c tg own vg) (ht : VBt c W0 .n tt ft) (he : VE c W0 .n te1 sh fe) (ho : ∀ i ∈ own, i ∈ vs) (hr : ∀ i ∈ vs, ∀ p ∈ c.rt, p.1 ≠ i) : VE c W .n (tLc (iList c.K te) tg tt te1 vs) (.l .s) (vLcB fe0 vs vg ft fe) := fun T σ e H Q Qv Qx ⟨fT0, fV0, X0⟩ hf hn hx => by
  have he := he.s
  refine hi fT0 fV0 T σ e H _ _ Qx X0 hf fun v d rb ⟨ds, ed, q⟩ => ?_
  subst ed
  obtain ⟨l, us, rfl, sq, rs⟩ := rb.lst
  refine ⟨l, rfl, ⟨us, sq.sq⟩, ?_⟩
  intro a ha
  obtain ⟨hs, eh, hmem⟩ := pushR_app us ds T
  have R1 : R c (hs ++ T) σ e H := ⟨fT0, fV0, by rw [← eh]; exact X0.pushR rs⟩
  have hl0 := R1.len
  have hrt : ∀ p ∈ c.rt, σ[p.1]? = some (some p.2) := X0.rt
  have start : R c ((.l .s, .ref a, .lst []) :: (hs ++ T)) (L2.wipe σ vs) (wipeE e vs) (upd H a (.lst [])) := by
    obtain ⟨fT, fV, z⟩ := R1.wipe hr
    exact z.newL ha .nil
  have hlen : us.length = ds.length := rs.len
  have hsame : ∀ H', Same H H' → SqL c.K H' l us := fun H' s => by
    rcases sq with q | q
    · refine .inl ?_
      rcases q with q | ⟨o, q⟩
      · exact .inl (s _ _ q)
      · exact .inr ⟨o, s _ _ q⟩
    · exact (LsR.sq (K := c.K) (H := H') (.inr q))
  refine ⟨fun i k H' => k = ds.length - i ∧ i ≤ ds.length ∧ Same H H' ∧ ∃ e' acc, R c ((.l .s, .ref a, .lst acc) :: (hs ++ T)) (L2.wipe σ vs) e' H' ∧ (∀ i ∈ vs, ∀ d, e'[i]? ≠ some (some d)) ∧ vLcL vs vg ft fe (fun acc e2 => Qv (.lst acc) e2) (ds.drop i) acc e', ⟨ds.length, by simp, Nat.zero_le _, same_new ha, _, [], start, fun i z d => wipeE_no z, q⟩, ?_⟩
  rintro i k H2 ⟨rfl, hle, p2, e2, acc, R2, no2, q2⟩
  by_cases hlt : i < ds.length
  · obtain ⟨fT, fV, X2⟩ := R2
    have hlu : i < us.length := by omega
    refine .inr ⟨⟨us, us[i], hsame H2 p2, List.getElem?_eq_getElem hlu⟩, fun H' => Same H H' ∧ ∃ e' acc, R c ((.l .s, .ref a, .lst acc) :: (hs ++ T)) (L2.wipe σ vs) e' H' ∧ (∀ i ∈ vs, ∀ d, e'[i]? ≠ some (some d)) ∧ vLcL vs vg ft fe (fun acc e2 => Qv (.lst acc) e2) (ds.drop (i + 1)) acc e', fun H' z => ⟨ds.length - (i + 1), by omega, rfl, hlt, z.1, z.2⟩, ?_⟩
    rintro x H3 ⟨rfl, hyx⟩
    have hxu : us[i]? = some x := hyx us (hsame H3 p2)
    have rd : RS c.K (owOf c fT fV) H3 ds[i] x := X2.mem (t := (.s, x, ds[i])) (List.mem_cons_of_mem _ (List.mem_append_left _ (hmem i x _ hxu (List.getElem?_eq_getElem hlt)))) rfl
    have ed : ds.drop i = ds[i] :: ds.drop (i + 1) := List.drop_eq_getElem_cons hlt
    rw [ed] at q2
    refine hg _ (L2.wipe σ vs) e2 H3 x _ _ _ ⟨fT, fV, X2.pushS rd⟩ q2 fun σ3 e3 R3 w3 q3 => ?_
    have w : L2.wipe σ3 vs = L2.wipe σ vs := by
      rw [w3 vs ho]
      apply List.ext_getElem?
      intro j
      rw [wipe_get, wipe_get, wipe_length]
      by_cases z : j ∈ vs
      · rw [if_pos z, if_pos z]
      · rw [if_neg z, if_neg z]
    refine ⟨?_, ht _ σ3 e3 H3 _ _ (fun _ _ => False) R3 q3 (fun b e4 H4 R4 p4 q4 => ?_) (fun x d e' H' r y q => q.elim)⟩
    · exact w
    have p4 : Same H3 H4 := p4 rfl
    cases b with
    | false =>
      have z := R4.wipe hr
      rw [w] at z
      exact ⟨p2.trans p4, _, acc, z, fun i y d => wipeE_no y, q4⟩
    | true =>
      refine he _ σ3 e4 H4 _ _ (fun _ _ => False) R4 q4 (fun y dy e5 H5 R5 p5 ⟨hz, q5⟩ => ?_) (fun x d e' H' r y q => q.elim)
      have p5 : Same H4 H5 := p5 rfl
      obtain ⟨ws, hw, lw, R6⟩ := R5.append
      have z := R6.wipe hr
      rw [w] at z
      refine ⟨ws, hw, by rw [lw]; exact hz, fun b o eb => ?_, _, _, z, fun i y d => wipeE_no y, q5⟩
      rw [upd_ne (ne_of_none eb ha)]
      exact p5 b o (p4 b o (p2 b o eb))
  · have eq : i = ds.length := by omega
    subst eq
    rw [List.drop_length] at q2
    obtain ⟨fT, fV, X2⟩ := R2
    refine .inl ⟨⟨us, hsame H2 p2, by omega⟩, ?_⟩
    have z : R c ((.l .s, .ref a, .lst acc) :: T) (L2.wipe σ vs) e2 H2 := R.drop2 ⟨fT, fV, X2⟩
    refine hn _ _ e2 H2 (z.agree (by rw [wipe_length]) (fun i d q => ?_) hrt) (fun _ => p2) q2
    rw [wipe_get, if_neg (fun y => no2 i y d q)]
end
end VL
set_option Elab.async false
set_option linter.all false
set_option maxRecDepth 100000
set_option maxHeartbeats 4000000
/-! a tuple once, or not at all: t * 1, t * 0 -/
namespace Fb
open PySem PySem.Spec PyProof.Rows L2
theorem tuple_mul1 (l : Addr) (items : Array Value) (n : Nat) (dd : Option Addr) (sl : Array (Option Value)) (u : Tok) :
    Meets (Builtin.«tuple.__mul__» ⟨[.ref l, .int 1 u], []⟩) (fun _ R s => s.heap.get? l = some { cls := .type "tuple", dict := dd, data := .seq items n, slots := sl } ∧ R (.ok (.ret (Value.ref l))) s) :=
  .of_wp fun prog w A R s h => by
    obtain ⟨hp, g, d, tk, os⟩ := s
    obtain ⟨hl, h⟩ := h
    have f1 := AutoSeq1.idx_int
    wp_walk using wpAny_loadPart' hl
    exact ⟨_, rfl, h⟩
theorem tuple_mul0 (l : Addr) (items : Array Value) (n : Nat) (dd : Option Addr) (sl : Array (Option Value)) (u : Tok) (hi : items.isEmpty = false) :
    Meets (Builtin.«tuple.__mul__» ⟨[.ref l, .int 0 u], []⟩) (fun _ R s => s.heap.get? l = some { cls := .type "tuple", dict := dd, data := .seq items n, slots := sl } ∧ R (.ok (.ret (Value.ref s.heap.objs.size))) { s with heap := s.heap.push { cls := Value.type "tuple", data := Data.seq #[] }, toks := s.toks }) :=
  .of_wp fun prog w A R s h => by
    obtain ⟨hp, g, d, tk, os⟩ := s
    obtain ⟨hl, h⟩ := h
    have f1 := AutoSeq1.idx_int
    wp_walk using wpAny_loadPart' hl
    exact ⟨_, rfl, h⟩
def rRep01 (K : PySem.W.Frag) : R2 := fun x y H Q => ∃ l k xs, x = .ref l ∧ y = .int k ∧ SqT K H l xs ∧ ((k = 1 ∧ Q (.ref l) H) ∨ (k = 0 ∧ xs ≠ [] ∧ ∀ p, H p = none → Q (.ref p) (upd H p (.tup []))))
section
variable {X : Cx}
theorem op_rep01 : OpR X (binaryOp .Mult) (rRep01 X.K) := by
  intro pins s σ H x y v u Q I rx ry h
  obtain ⟨l, k, xs, rfl, rfl, hT, h⟩ := h
  cases rx
  obtain ⟨t, rfl⟩ := ry
  obtain ⟨its, r, ⟨⟨cls, dd, data, sl⟩, ho, hc, n, hd⟩, hs⟩ := I.tuple hT
  simp only at hc hd
  subst hc hd
  rcases h with ⟨rfl, q⟩ | ⟨rfl, hne, q⟩
  · refine wpAny_binaryOp_repeat_ref (T := "tuple") (U := "int") (by decide) ⟨_, ho, rfl⟩ (fun s' => typeIs_int s' 1 t) noFill_tuple_mul F.fills_int_mul F.slot_int_rmul repeat_tuple F.slot_int_index.lookup
      (call_meets F.slot_int_rmul (typeIs_int s 1 t) F.entry_int_rmul (F.args_int_rmul_2 _ _) (int_rmul_tuple 1 t l its.toArray n dd sl)
        ⟨ho, rfl, ⟨_, ho, rfl⟩, call_meets F.slot_tuple_mul ⟨_, ho, rfl⟩ F.entry_tuple_mul (F.args_tuple_mul_2 _ _) (tuple_mul1 l its.toArray n dd sl t) ⟨ho, ?_⟩⟩)
    exact ⟨.ref l, H, I, rfl, q⟩
  · have hi : its.toArray.isEmpty = false := by
      cases its with
      | nil =>
        have := r.length
        exact absurd (List.eq_nil_of_length_eq_zero this) hne
      | cons a b => rfl
    refine wpAny_binaryOp_repeat_ref (T := "tuple") (U := "int") (by decide) ⟨_, ho, rfl⟩ (fun s' => typeIs_int s' 0 t) noFill_tuple_mul F.fills_int_mul F.slot_int_rmul repeat_tuple F.slot_int_index.lookup
      (call_meets F.slot_int_rmul (typeIs_int s 0 t) F.entry_int_rmul (F.args_int_rmul_2 _ _) (int_rmul_tuple 0 t l its.toArray n dd sl)
        ⟨ho, rfl, ⟨_, ho, rfl⟩, call_meets F.slot_tuple_mul ⟨_, ho, rfl⟩ F.entry_tuple_mul (F.args_tuple_mul_2 _ _) (tuple_mul0 l its.toArray n dd sl t hi) ⟨ho, ?_⟩⟩)
    exact ⟨.ref s.heap.objs.size, _, I.laid (t' := s.toks) (o := .tup []) (fun b ob q => Heap.get?_push_of_some _ q) (Nat.le_refl _) ⟨by simp, [], .nil, IsTup.new _ _⟩, rfl, q _ (I.hok.fresh (Nat.le_refl _))⟩
end
end Fb
set_option Elab.async false
set_option linter.all false
set_option maxRecDepth 100000
set_option maxHeartbeats 2000000
namespace VL
open PySem PySem.Spec PyProof.Rows L2
/-! ### x * k: a list that is read; a tuple once or not at all -/
def rRepR (K : PySem.W.Frag) : R2 := fun x y H Q => ∃ l k xs, x = .ref l ∧ y = .int k ∧ LsR K H l xs ∧ -(2 ^ 63) ≤ k ∧ k < 2 ^ 63 ∧ xs.length * k.toNat ≤ sizeLine ∧
  ∀ p, H p = none → Q (.ref p) (upd H p (.lst (List.replicate k.toNat xs).flatten))
theorem ls_at {X : Cx} {pins : List (Addr × Obj)} {s : Shared} {σ : L2.St} {H : Hp} {l : Addr} {xs : List V} (I : Inv X pins σ H s) (h : LsR X.K H l xs) : ∃ (its : List Value) (n : Nat), Vals xs its ∧ xs.length = its.length ∧ s.heap.get? l = some { cls := .type "list", data := .seq its.toArray n } := by
  rcases h with h | ⟨its, n, hk, hz, r⟩
  · obtain ⟨z, its, n, r, e⟩ := h.ok I.hok
    exact ⟨its, n, r, r.length, e⟩
  · exact ⟨its, n, r, r.length, I.kIn l _ hk⟩
theorem op_repR {X : Cx} (K0 : PySem.W.Frag) (hK : X.K = K0) : OpR X (binaryOp .Mult) (rRepR K0) := by
  subst hK
  intro pins s σ H x y v u Q I rx ry h
  obtain ⟨l, k, xs, rfl, rfl, hH, h1, h2, hz, q⟩ := h
  cases rx
  obtain ⟨t, rfl⟩ := ry
  obtain ⟨its, n, r, hl, e⟩ := ls_at I hH
  have hlen : its.toArray.size * k.toNat ≤ sizeLine := by rw [List.size_toArray, ← hl]; exact hz
  have hcap : ¬ its.toArray.size * k.toNat > (2 ^ 63 - 1) / 8 := by
    have : (sizeLine : Nat) ≤ (2 ^ 63 - 1) / 8 := by decide
    omega
  have hfit : ¬ (!Builtin.List.listFitsIndex k) = true := by
    rw [fitsIndex_both h1 h2]
    exact Bool.false_ne_true
  have hlong : ¬ Builtin.List.listTooLong (its.toArray.size * k.toNat) = true := by
    rw [notLongL hlen]
    exact Bool.false_ne_true
  have hnew : List.foldl (fun x1 x2 => x1 ++ x2) #[] (List.replicate (if its.toArray.isEmpty = true then 0 else k.toNat) its.toArray) = (List.replicate k.toNat its).flatten.toArray := by
    rw [size_rep]
    cases its with
    | nil => simp
    | cons a r' => rw [if_neg (by simp)]
  refine wpAny_binaryOp_repeat_ref (T := "list") (U := "int") (by decide) ⟨_, e, rfl⟩ (fun s' => typeIs_int s' k t) noFill_list_mul F.fills_int_mul F.slot_int_rmul repeat_list F.slot_int_index.lookup
    (call_meets F.slot_int_rmul (typeIs_int s k t) F.entry_int_rmul (F.args_int_rmul_2 _ _) (int___rmul___int_list k t l its.toArray n)
      ⟨e, rfl, ⟨_, e, rfl⟩, call_meets F.slot_list_mul ⟨_, e, rfl⟩ F.entry_list_mul (F.args_list_mul_2 _ _) (AutoListH.list___mul___list_int_3 l its.toArray n k t hfit hcap hlong) ⟨e, ?_⟩⟩)
  rw [hnew]
  exact ⟨.ref _, _, I.lnew (t' := s.toks) (r.rep k.toNat) (by rw [PyProof.Rows.lm_len_rep_flat, Nat.mul_comm]; exact hz), rfl, q _ I.fresh⟩
theorem op_rep01K {X : Cx} (K0 : PySem.W.Frag) (hK : X.K = K0) : OpR X (binaryOp .Mult) (Fb.rRep01 K0) := by subst hK; exact Fb.op_rep01
def gRepL : G2L
  | .lst l, .int k, Q => -(2 ^ 63) ≤ k ∧ k < 2 ^ 63 ∧ l.length * k.toNat ≤ sizeLine ∧ Q (List.replicate k.toNat l).flatten
  | _, _, _ => False
theorem ol_repL {K : PySem.W.Frag} : OpL K (rRepR K) gRepL := fun ow H x y dx dy Q Qd rx ry hg hn => by
  cases dx <;> first | exact hg.elim | skip
  cases dy <;> first | exact hg.elim | skip
  obtain ⟨h1, h2, h3, q⟩ := hg
  obtain ⟨a, vs, rfl, s, r⟩ := rx.lst
  have ey := ry.int
  subst ey
  exact ⟨a, _, vs, rfl, rfl, s, h1, h2, by rw [r.len]; exact h3, fun p np => hn _ _ p (r.rep _) q np⟩
def gRep01 : G2L
  | .tup l, .int k, Q => l ≠ [] ∧ (k = 0 ∨ k = 1) ∧ Q (if k = 1 then l else [])
  | _, _, _ => False
theorem ot_rep01 {K : PySem.W.Frag} : OpT K (Fb.rRep01 K) gRep01 := fun ow H x y dx dy Q Qd rx ry hg hn => by
  cases dx <;> first | exact hg.elim | skip
  cases dy <;> first | exact hg.elim | skip
  obtain ⟨h1, h2, q⟩ := hg
  obtain ⟨a, vs, rfl, s, r⟩ := rx.tup
  have ey := ry.int
  subst ey
  refine ⟨a, _, vs, rfl, rfl, s, ?_⟩
  rcases h2 with rfl | rfl
  · refine .inr ⟨rfl, fun z => ?_, fun p np => ?_⟩
    · rw [z] at r
      have := r.len
      exact h1 (List.eq_nil_of_length_eq_zero this.symm)
    · exact hn [] [] p _ .nil (by simpa using q) (same_new np) (.inl (.inl upd_same))
  · exact .inl ⟨rfl, hn _ _ a H r (by simpa using q) (fun _ _ q => q) s⟩
section
variable {c : Vc} {W : XW} {te : TE} {fe : VT} {sh : Sh}
theorem VE.ne (h : VE c W .n te sh fe) : VE c W .e te sh fe := fun T σ e H Q Qv Qx hR hf hn hx => h T σ e H Q Qv Qx hR hf (fun v d e' H' r _ q => hn v d e' H' r Post.e q) hx
def vDNew : VT := fun e Q _ => Q (.dct [] []) e
theorem v_dnew {m : Md} : VE c W m tDNewK dsh vDNew := fun T σ e H Q Qv Qx ⟨fT, fV, X⟩ q hn hx => fun p np =>
  hn _ _ e _ ⟨[p] ++ fT, fV, X.pushO (same_new np) (by simp) (fun a z => by rw [List.mem_singleton.mp z]; exact np) (RO_dd.mpr ⟨[], [], p, [], rfl, rfl, upd_same, rfl, .nil, rfl⟩)⟩ (Post.same (same_new np)) q
/-- one's own thing, handed out -/
def vOwn (i : Nat) : VT := fun e Q _ => ∃ d, e[i]? = some (some d) ∧ Q d (e.set i none)
theorem v_own {i : Nat} (hM : c.M[i]? = some sh) : VE c W .e (tVar i) sh (vOwn i) := fun T σ e H Q Qv Qx ⟨fT, fV, X⟩ ⟨d, hd, q⟩ hn hx => by
  obtain ⟨v, gT, gV, hv, Y, _⟩ := X.take hM hd
  exact ⟨v, hv, hn v d _ H ⟨gT, gV, Y⟩ Post.e q⟩
theorem b_varD {i : Nat} (hM : c.M[i]? = some dsh) : VB c (tVar i) (vVar i) := fun fT fV T σ e H Q Qv Qx hR hf hn => by
  obtain ⟨d, hd, q⟩ := hf
  obtain ⟨v, fp, hv, ro, _⟩ := hR.upd hM hd
  obtain ⟨ks, l, a, vs, rfl, rfl, ha, hl, rs, _⟩ := RO_dd.mp ro
  exact ⟨_, hv, hn _ (.dct ks l) ⟨a, vs, rfl, .inl ha, hl, rs⟩ q⟩
end
theorem s_gRepL {l : List D} {k : Int} {Q : List D → Prop} : gRepL (.lst l) (.int k) Q = (-(2 ^ 63) ≤ k ∧ k < 2 ^ 63 ∧ l.length * k.toNat ≤ sizeLine ∧ Q (List.replicate k.toNat l).flatten) := rfl
theorem s_gRep01 {l : List D} {k : Int} {Q : List D → Prop} : gRep01 (.tup l) (.int k) Q = (l ≠ [] ∧ (k = 0 ∨ k = 1) ∧ Q (if k = 1 then l else [])) := rfl
end VL
set_option Elab.async false
set_option linter.all false
set_option maxRecDepth 100000
set_option maxHeartbeats 2000000
namespace VL
open PySem PySem.Spec PyProof.Rows L2
section
variable {c : Vc} {W : XW} {rsh : Sh} {tA : TA} {fA : VTA}
/-! ### a, b, c = x, y, z of plain names -/
def vPar3 (i j l : Nat) (fA : VTA) : VTS := fun D e => fA e (fun ds e1 => ∃ a b d, ds = [a, b, d] ∧ D.nx (((e1.set i (some a)).set j (some b)).set l (some d))) D.ex
theorem vs_par3 {i j l : Nat} (h : VA c W .e tA fA) (hi : c.M[i]? = some .s) (hj : c.M[j]? = some .s) (hl : c.M[l]? = some .s) (ri : ∀ p ∈ c.rt, p.1 ≠ i) (rj : ∀ p ∈ c.rt, p.1 ≠ j) (rl : ∀ p ∈ c.rt, p.1 ≠ l) : VS c W rsh (tPar3 i j l tA) (vPar3 i j l fA) := fun T σ e H D Dv hR hf L =>
  h T σ e H _ _ Dv.ex hR hf (fun fT fV vs ds e1 H1 R1 rs _ ⟨a, b, d, hd, q⟩ => by
    subst hd
    simp only [RSs] at rs
    obtain ⟨v, r, rfl, ra, v2, r2, rfl, rb, v3, r3, rfl, rc, rfl⟩ := rs
    have z : R c ((.s, v, a) :: (.s, v2, b) :: (.s, v3, d) :: T) σ e1 H1 := ⟨fT, fV, ((R1.pushS rc).pushS rb).pushS ra⟩
    exact ⟨v, v2, v3, rfl, L.nx _ _ H1 (((z.set hi ri).set hj rj).set hl rl) q⟩) (fun x d e' H' r y q => L.ex x d σ e' H' r y q)
end
end VL
set_option Elab.async false
set_option linter.all false
set_option maxRecDepth 100000
set_option maxHeartbeats 2000000
namespace VL
open PySem PySem.Spec PyProof.Rows L2
/-! ### dicts whose keys are None, numbers, texts, or tuples of these -/
section
variable {κ : Type} [DecidableEq κ]
def hasG (ks : List κ) (k : κ) : Bool := ks.any fun x => decide (x = k)
def pG (ks : List κ) (k : κ) : List κ := if hasG ks k = true then ks else ks ++ [k]
def pGV {α : Type} (ks : List κ) (l : List α) (k : κ) (v : α) : List α := if hasG ks k = true then List.zipWith (fun k' x => if k' = k then v else x) ks l else l ++ [v]
def getG {α : Type} : List κ → List α → κ → Option α
  | k0 :: ks, x :: l, k => if k0 = k then some x else getG ks l k
  | _, _, _ => none
theorem pG_len {α : Type} {ks : List κ} {l : List α} {k : κ} {v : α} (h : ks.length = l.length) : (pG ks k).length = (pGV ks l k v).length := by
  unfold pG pGV
  split
  · rw [List.length_zipWith, h, Nat.min_self]
  · simp [h]
theorem valV_zipG {k : κ} : ∀ {ks : List κ} {vs : List V}, valV (ks.zip vs) k = getG ks vs k
  | [], _ => by simp [valV, getG]
  | _ :: _, [] => by simp [valV, getG]
  | k0 :: ks, v :: vs => by
    rw [List.zip_cons_cons, getG]
    by_cases e : k0 = k
    · rw [if_pos e, valV_pos (p := (k0, v)) e]
    · rw [if_neg e, valV_neg (p := (k0, v)) e, valV_zipG]
theorem any_zipG {k : κ} : ∀ {ks : List κ} {vs : List V}, ks.length = vs.length → ((ks.zip vs).any fun kv => decide (kv.1 = k)) = hasG ks k
  | [], [], _ => by simp [hasG]
  | [], _ :: _, h => by cases h
  | _ :: _, [], h => by cases h
  | k0 :: ks, v :: vs, h => by
    rw [List.zip_cons_cons, List.any_cons, any_zipG (Nat.succ.inj h)]
    rfl
theorem map_zipG {k : κ} {v : V} : ∀ {ks : List κ} {vs : List V}, (ks.zip vs).map (fun kv => if kv.1 = k then (kv.1, v) else kv) = ks.zip (List.zipWith (fun k' x => if k' = k then v else x) ks vs)
  | [], _ => by simp
  | _ :: _, [] => by simp
  | k0 :: ks, x :: vs => by
    rw [List.zip_cons_cons, List.map_cons, map_zipG, List.zipWith_cons_cons, List.zip_cons_cons]
    split <;> rfl
theorem putK_zipG {ks : List κ} {vs : List V} {k : κ} {v : V} (h : ks.length = vs.length) : putK (ks.zip vs) k v = (pG ks k).zip (pGV ks vs k v) := by
  unfold putK pG pGV
  rw [any_zipG h]
  by_cases e : hasG ks k = true
  · rw [if_pos e, if_pos e, if_pos e, map_zipG]
  · rw [if_neg e, if_neg e, if_neg e, List.zip_append h]
    rfl
end
theorem hasG_sing (ls : List Leaf) (x : Leaf) : hasG (ls.map fun y => [y]) [x] = hasG ls x := by
  unfold hasG
  rw [List.any_map]
  congr 1
  funext y
  simp
theorem pG_sing (ls : List Leaf) (x : Leaf) : pG (ls.map fun y => [y]) [x] = (pG ls x).map fun y => [y] := by
  unfold pG
  rw [hasG_sing]
  split <;> simp
theorem pGV_sing {α : Type} (ls : List Leaf) (l : List α) (x : Leaf) (v : α) : pGV (ls.map fun y => [y]) l [x] v = pGV ls l x v := by
  unfold pGV
  rw [hasG_sing, List.zipWith_map_left]
  simp
theorem getG_sing {α : Type} : ∀ (ls : List Leaf) (l : List α) (x : Leaf), getG (ls.map fun y => [y]) l [x] = getG ls l x
  | [], l, x => by simp [getG]
  | _ :: _, [], x => by simp [getG]
  | y :: ls, v :: l, x => by
    rw [List.map_cons, getG, getG, getG_sing ls l x]
    simp
/-! ### keys -/
def leafD : D → Option Leaf
  | .non => some .none
  | .int i => some (.num i)
  | .str s => some (.text s)
  | _ => none
def leafsD : List D → Option (List Leaf)
  | [] => some []
  | d :: ds => match leafD d, leafsD ds with
    | some x, some r => some (x :: r)
    | _, _ => none
def keyD : Bool → D → Option (List Leaf)
  | false, d => (leafD d).map fun x => [x]
  | true, .tup l => leafsD l
  | true, _ => none
section
variable {K : PySem.W.Frag} {ow : Addr → Prop} {H : Hp}
theorem leaf_v {d : D} {v : V} {x : Leaf} (r : RS K ow H d v) (h : leafD d = some x) : v = Fb.lfV x := by
  cases d <;> simp only [leafD, Option.some.injEq, reduceCtorEq] at h
  all_goals (subst h; simp only [RS] at r; rw [r]; rfl)
theorem leafs_v : ∀ {ds : List D} {vs : List V} {k : List Leaf}, RSs K ow H ds vs → leafsD ds = some k → vs = k.map Fb.lfV
  | [], vs, k, r, h => by
    simp only [RSs] at r
    simp only [leafsD, Option.some.injEq] at h
    rw [r, ← h]
    rfl
  | d :: ds, vs, k, r, h => by
    simp only [RSs] at r
    obtain ⟨v, r', rfl, r1, r2⟩ := r
    rw [leafsD] at h
    cases e1 : leafD d with
    | none => rw [e1] at h; simp at h
    | some x =>
      cases e2 : leafsD ds with
      | none => rw [e1, e2] at h; simp at h
      | some q =>
        rw [e1, e2] at h
        simp only [Option.some.injEq] at h
        rw [← h, List.map_cons, leaf_v r1 e1, leafs_v r2 e2]
/-- a key's value -/
def KeyV (K : PySem.W.Frag) (H : Hp) (t : Bool) (k : List Leaf) (y : V) : Prop := match t with
  | false => ∃ x, k = [x] ∧ y = Fb.lfV x
  | true => ∃ b, y = .ref b ∧ SqT K H b (k.map Fb.lfV)
theorem key_v {t : Bool} {d : D} {v : V} {k : List Leaf} (r : RS K ow H d v) (h : keyD t d = some k) : KeyV K H t k v := by
  cases t with
  | false =>
    unfold keyD at h
    obtain ⟨x, hx, rfl⟩ := Option.map_eq_some_iff.mp h
    exact ⟨x, rfl, leaf_v r hx⟩
  | true =>
    cases d <;> simp only [keyD, reduceCtorEq] at h
    simp only [RS] at r
    obtain ⟨a, vs, rfl, s, rs⟩ := r
    refine ⟨a, rfl, ?_⟩
    rw [← leafs_v rs h]
    exact s
end
section
variable {K : PySem.W.Frag} {H : Hp} {P : Program} {w : World} {t : Bool} {a : Addr} {ks : List (List Leaf)} {vs : List V} {k : List Leaf} {y v : V}
theorem valN_zip {k : List Leaf} : ∀ {ks : List (List Leaf)} {bs : List Addr} {vs : List V}, bs.length = ks.length → Fb.valN (ks.zip (bs.zip vs)) k = getG ks vs k
  | [], bs, vs, _ => by simp [Fb.valN, getG]
  | _ :: _, [], _, h => by cases h
  | _ :: _, _ :: _, [], _ => by simp [Fb.valN, getG]
  | k0 :: ks, b :: bs, v :: vs, h => by
    have ih := valN_zip (k := k) (vs := vs) (Nat.succ.inj h)
    unfold Fb.valN at ih ⊢
    rw [List.zip_cons_cons, List.zip_cons_cons, List.find?_cons, getG]
    by_cases e : k0 = k
    · simp [e]
    · simp only [e, decide_false, if_false]
      exact ih
theorem getG_has {α : Type} {k : List Leaf} : ∀ {ks : List (List Leaf)} {l : List α}, ks.length = l.length → (getG ks l k).isSome = hasG ks k
  | [], [], _ => rfl
  | [], _ :: _, h => by cases h
  | _ :: _, [], h => by cases h
  | k0 :: ks, x :: l, h => by
    have ih := getG_has (k := k) (ks := ks) (l := l) (Nat.succ.inj h)
    unfold hasG at ih ⊢
    rw [getG, List.any_cons]
    by_cases e : k0 = k
    · simp [e]
    · rw [if_neg e, ih]
      simp [e]
theorem map_zipN {k : List Leaf} {v : V} : ∀ {ks : List (List Leaf)} {bs : List Addr} {vs : List V}, (ks.zip (bs.zip vs)).map (fun x => if x.1 = k then (x.1, x.2.1, v) else x) = ks.zip (bs.zip (List.zipWith (fun k' x => if k' = k then v else x) ks vs))
  | [], _, _ => by simp
  | _ :: _, [], _ => by simp
  | _ :: _, _ :: _, [] => by simp
  | k0 :: ks, b :: bs, x :: vs => by
    rw [List.zip_cons_cons, List.zip_cons_cons, List.map_cons, map_zipN, List.zipWith_cons_cons, List.zip_cons_cons, List.zip_cons_cons]
    split <;> rfl
theorem nda_get (h : NDa K H P w t a ks vs) (hk : KeyV K H t k y) (hv : getG ks vs k = some v) : Fb.NGet K P w H a y (some v) := by
  cases t with
  | false =>
    obtain ⟨ls, rfl, e⟩ := h
    obtain ⟨x, rfl, rfl⟩ := hk
    rw [getG_sing] at hv
    exact .inl ⟨_, x, e, rfl, by rw [valV_zipG, hv]⟩
  | true =>
    obtain ⟨bs, hl, e, q⟩ := h
    obtain ⟨b, rfl, s⟩ := hk
    refine .inr ⟨_, k, b, e, fun x hx => ?_, rfl, s, by rw [valN_zip hl, hv]⟩
    obtain ⟨k1, b1, v1⟩ := x
    have h1 := List.of_mem_zip hx
    have : (k1, b1) ∈ ks.zip bs := by
      clear e q hv s h1
      induction ks generalizing bs vs with
      | nil => simp at hx
      | cons k0 ks ih =>
        cases bs with
        | nil => cases hl
        | cons b0 bs =>
          cases vs with
          | nil => simp at hx
          | cons v0 vs =>
            rw [List.zip_cons_cons, List.zip_cons_cons] at hx
            rw [List.zip_cons_cons]
            rcases List.mem_cons.mp hx with z | z
            · cases z; exact List.mem_cons_self
            · exact List.mem_cons_of_mem _ (ih bs (Nat.succ.inj hl) z)
    exact q _ this
theorem nda_put (h : NDa K H P w t a ks vs) (hn : ks.length = vs.length) (hk : KeyV K H t k y) (hz : ks.length < sizeLine) : ∃ o, Fb.NPut K P w H a y v (L2.upd H a o) ∧ NDa K (L2.upd H a o) P w t a (pG ks k) (pGV ks vs k v) ∧ ∃ u, H a = some u ∧ ¬ Fx u := by
  cases t with
  | false =>
    obtain ⟨ls, rfl, e⟩ := h
    obtain ⟨x, rfl, rfl⟩ := hk
    rw [List.length_map] at hn hz
    refine ⟨Fb.ldO P w a ((pG ls x).zip (pGV ls vs x v)), .inl ⟨_, x, e, rfl, by rw [List.length_zip, ← hn, Nat.min_self]; exact hz, by rw [putK_zipG hn]⟩, ⟨pG ls x, pG_sing ls x, by rw [pGV_sing, upd_same]⟩, _, e, id⟩
  | true =>
    have kt : Fb.NGet K P w H a y (getG ks vs k) ∨ True := .inr trivial
    obtain ⟨bs, hl, e, q⟩ := h
    obtain ⟨b, rfl, s⟩ := hk
    have hT : ∀ o', ExtT H (L2.upd H a o') := fun o' => ExtT.upd fun u z => by rw [e] at z; cases z; exact id
    have ktup : Fb.KTup K H (ks.zip (bs.zip vs)) := fun x hx => by
      obtain ⟨k1, b1, v1⟩ := x
      have : (k1, b1) ∈ ks.zip bs := by
        clear e q s hT hn hz kt
        induction ks generalizing bs vs with
        | nil => simp at hx
        | cons k0 ks ih =>
          cases bs with
          | nil => cases hl
          | cons b0 bs =>
            cases vs with
            | nil => simp at hx
            | cons v0 vs =>
              rw [List.zip_cons_cons, List.zip_cons_cons] at hx
              rw [List.zip_cons_cons]
              rcases List.mem_cons.mp hx with z | z
              · cases z; exact List.mem_cons_self
              · exact List.mem_cons_of_mem _ (ih bs (Nat.succ.inj hl) z)
      exact q _ this
    have hlen : (ks.zip (bs.zip vs)).length = ks.length := by simp [hl, ← hn]
    have hput : Fb.putNt (ks.zip (bs.zip vs)) k b v = (pG ks k).zip ((if hasG ks k = true then bs else bs ++ [b]).zip (pGV ks vs k v)) := by
      unfold Fb.putNt pG pGV
      rw [valN_zip hl, getG_has hn]
      by_cases z : hasG ks k = true
      · rw [if_pos z, if_pos z, if_pos z, if_pos z, map_zipN]
      · rw [if_neg z, if_neg z, if_neg z, if_neg z, List.zip_append (by omega), List.zip_append (by simp [hl, ← hn])]
        rfl
    refine ⟨Fb.ntO P w a ((pG ks k).zip ((if hasG ks k = true then bs else bs ++ [b]).zip (pGV ks vs k v))), .inr ⟨_, k, b, e, ktup, rfl, s, by rw [hlen]; exact hz, by rw [hput]⟩, ⟨if hasG ks k = true then bs else bs ++ [b], ?_, upd_same, fun p hp => ?_⟩, _, e, id⟩
    · unfold pG
      split <;> simp [hl]
    · by_cases z : hasG ks k = true
      · unfold pG at hp
        rw [if_pos z, if_pos z] at hp
        exact sqT_ext (hT _) (q p hp)
      · unfold pG at hp
        rw [if_neg z, if_neg z, List.zip_append (by omega)] at hp
        rcases List.mem_append.mp hp with y | y
        · exact sqT_ext (hT _) (q p y)
        · simp at y
          rw [y]
          exact sqT_ext (hT _) s
end
section
variable {K : PySem.W.Frag} {ow : Addr → Prop} {H : Hp}
theorem RSs.zipG {k : List Leaf} {dy : D} {y : V} (ry : RS K ow H dy y) : ∀ {ks : List (List Leaf)} {l : List D} {vs : List V}, RSs K ow H l vs → RSs K ow H (List.zipWith (fun k' x => if k' = k then dy else x) ks l) (List.zipWith (fun k' x => if k' = k then y else x) ks vs)
  | [], _, _, _ => by simp only [List.zipWith_nil_left]; exact .nil
  | _ :: _, [], _, h => by
    simp only [RSs] at h
    rw [h]
    exact .nil
  | k0 :: ks, d :: l, _, h => by
    simp only [RSs] at h
    obtain ⟨v, r, rfl, h1, h2⟩ := h
    rw [List.zipWith_cons_cons, List.zipWith_cons_cons]
    refine .cons ?_ (RSs.zipG ry h2)
    split
    · exact ry
    · exact h1
theorem RSs.pGV {k : List Leaf} {dy : D} {y : V} (ry : RS K ow H dy y) {ks : List (List Leaf)} {l : List D} {vs : List V} (h : RSs K ow H l vs) : RSs K ow H (VL.pGV ks l k dy) (VL.pGV ks vs k y) := by
  unfold VL.pGV
  split
  · exact h.zipG ry
  · exact RSs.app (.cons ry .nil) h
theorem RSs.getG {k : List Leaf} : ∀ {ks : List (List Leaf)} {l : List D} {vs : List V} {d : D}, RSs K ow H l vs → VL.getG ks l k = some d → ∃ v, VL.getG ks vs k = some v ∧ RS K ow H d v
  | [], _, _, _, _, h => by simp [VL.getG] at h
  | _ :: _, [], _, _, _, h => by simp [VL.getG] at h
  | k0 :: ks, x :: l, _, d, r, h => by
    simp only [RSs] at r
    obtain ⟨v, r', rfl, r1, r2⟩ := r
    rw [VL.getG] at h ⊢
    by_cases e : k0 = k
    · rw [if_pos e] at h ⊢
      cases h
      exact ⟨v, rfl, r1⟩
    · rw [if_neg e] at h ⊢
      exact RSs.getG r2 h
end
section
variable {c : Vc} {W : XW} {m : Md} {te tv ti : TE} {fe fv fi : VT} {rsh : Sh} {P : Program} {w : World}
/-- {}, to be a dict whose keys are tuples -/
def vNNew (P : Program) (w : World) : VT := fun e Q _ => Q (.nd P w true [] []) e
theorem v_nnew : VE c W .e (Fb.tNNew P w) .n (vNNew P w) := fun T σ e H Q Qv Qx hR hf hn hx => by
  intro p np
  obtain ⟨fT, fV, X0⟩ := hR
  refine hn _ _ _ _ ⟨_, _, X0.pushO (same_new np) (by simp) (fun a z => by rw [List.mem_singleton.mp z]; exact np) (fp := [p]) ?_⟩ Post.e hf
  simp only [RO]
  exact ⟨p, [], [], rfl, ⟨[], rfl, upd_same, by simp⟩, rfl, by simp only [ROs, List.map_nil]; exact ⟨trivial, trivial, trivial⟩, rfl⟩
theorem v_cellN (h : VE c W .e te .n fe) : VE c W .e te .s (vCell c.M.length fe) := fun T σ e H Q Qv Qx hR hf hn hx =>
  h T σ e H _ _ Qx hR hf (fun v d e1 H1 R1 _ ⟨hm, q⟩ => by
    have hd : ∃ P w t ks l, d = .nd P w t ks l := by
      obtain ⟨fT, fV, X⟩ := R1
      obtain ⟨f1, f2, e1, h1, h2⟩ := X.tm
      have h1 : RO _ _ _ d .n v f1 := h1
      cases d <;> first | exact ⟨_, _, _, _, _, rfl⟩ | (simp only [RO] at h1)
    obtain ⟨P, w, t, ks, l, rfl⟩ := hd
    obtain ⟨a, rfl, hno, R2⟩ := R1.cellN rfl rfl hm
    exact hn _ _ _ _ R2 Post.e (q a hno)) hx
theorem RX.cellNd {fT fV : List Addr} {T : List Tm} {σ : L2.St} {e : Env} {H : Hp} {a : Addr} {P : Program} {w : World} {t : Bool} {ks : List (List Leaf)} {l : List D} (h : RX c fT fV T σ e H) (hc : Cell c.M.length e a (.nd P w t ks l)) : ∃ vs, NDa c.K H P w t a ks vs ∧ ks.length = vs.length ∧ RSs c.K (owOf c fT fV) H l vs := by
  obtain ⟨_, _, r⟩ := h.cellB hc
  rcases r.cell with ⟨_, _, e, _⟩ | ⟨_, _, _, e, _⟩ | ⟨_, _, _, _, _, e, _⟩ | ⟨_, _, _, _, _, vs, e, q, n, rs⟩
  · cases e
  · cases e
  · cases e
  · cases e
    exact ⟨vs, q, n, rs⟩
/-- d[k] = v, d a cell -/
def vNPut (n : Nat) (P : Program) (w : World) (fe fi fv : VT) : VTS := fun D e => fv e (fun y e1 => fe e1 (fun x e2 => ∃ a, x = .ref a ∧ fi e2 (fun dk e3 => ∃ t ks l k, Cell n e3 a (.nd P w t ks l) ∧ keyD t dk = some k ∧ ks.length < sizeLine ∧ D.nx (setC n e3 a (.nd P w t (pG ks k) (pGV ks l k y)))) D.ex) D.ex) D.ex
theorem vs_nput (he : VQ c te fe) (hv : VE c W .e tv .s fv) (hi : VE c W .e ti .s fi) : VS c W rsh (Fb.sNPut c.K P w te ti tv) (vNPut c.M.length P w fe fi fv) := fun T σ e H D Dv hR hf L =>
  hv T σ e H _ _ Dv.ex hR hf (fun y dy e1 H1 R1 _ q => by
    obtain ⟨fT, fV, X1⟩ := R1
    refine he fT fV _ σ e1 H1 _ _ Dv.ex X1 q fun v d r ⟨a, ed, q⟩ => ?_
    subst ed
    have z : v = .ref a := by simpa only [RS] using r
    subst z
    refine hi _ σ e1 H1 _ _ Dv.ex ⟨fT, fV, X1⟩ q (fun kv dk e2 H2 R2 _ ⟨t, ks, l, k, hc, ek, hz, q⟩ => ?_) (fun x d e' H' r y q => L.ex x d σ e' H' r.pop y q)
    obtain ⟨gT, gV, X2⟩ := R2
    obtain ⟨rk, X2⟩ := X2.topS
    obtain ⟨ry, X2⟩ := X2.topS
    obtain ⟨vs, nd, hn, rs⟩ := X2.cellNd hc
    obtain ⟨o, hput, nd2, u, hu, nf⟩ := nda_put (v := y) nd hn (key_v rk ek) hz
    have F := RX.frL (o' := o) hu nf (X2.cellB hc).2.1
    obtain ⟨fV2, X3⟩ := X2.setC (H' := L2.upd H2 a o) (d' := .nd P w t (pG ks k) (pGV ks l k dy)) hc (fun b o q z => by rw [upd_ne z]; exact q) (frC hu nf) al_upd fun ow' how => RO.ncell nd2 (pG_len hn) (RSs.pGV (RS.fr F how _ _ ry) (RSs.fr F how _ _ rs))
    exact ⟨a, _, rfl, hput, L.nx σ _ _ ⟨gT, fV2, X3⟩ q⟩) (fun x d e' H' r y q => L.ex x d σ e' H' r y q)
/-- d[k], d a cell -/
def vNGet (n : Nat) (P : Program) (w : World) (fe fi : VT) : VT := fun e Q Qx => fe e (fun x e1 => ∃ a, x = .ref a ∧ fi e1 (fun dk e2 => ∃ t ks l k d, Cell n e2 a (.nd P w t ks l) ∧ keyD t dk = some k ∧ getG ks l k = some d ∧ Q d e2) Qx) Qx
theorem v_nget (he : VQ c te fe) (hi : VE c W .e ti .s fi) : VE c W .e (Fb.tNGet c.K P w te ti) .s (vNGet c.M.length P w fe fi) := fun T σ e H Q Qv Qx hR hf hn hx => by
  obtain ⟨fT, fV, X1⟩ := hR
  refine he fT fV _ σ e H _ _ Qx X1 hf fun v d r ⟨a, ed, q⟩ => ?_
  subst ed
  have z : v = .ref a := by simpa only [RS] using r
  subst z
  refine hi _ σ e H _ _ Qx ⟨fT, fV, X1⟩ q (fun kv dk e2 H2 R2 p ⟨t, ks, l, k, d, hc, ek, hg, q⟩ => ?_) hx
  obtain ⟨gT, gV, X2⟩ := R2
  obtain ⟨rk, X2⟩ := X2.topS
  obtain ⟨vs, nd, hl, rs⟩ := X2.cellNd hc
  obtain ⟨v, hv, rv⟩ := rs.getG hg
  exact ⟨a, v, rfl, nda_get nd (key_v rk ek) hv, hn _ _ _ _ ⟨gT, gV, X2.pushS rv⟩ Post.e q⟩
/-- {None: v} -/
def vLD1 (P : Program) (w : World) (fv : VT) : VT := fun e Q Qx => fv e (fun y e1 => Q (.nd P w false [[.none]] [y]) e1) Qx
end
end VL
set_option Elab.async false
set_option linter.all false
set_option maxRecDepth 100000
set_option maxHeartbeats 2000000
namespace VL
open PySem PySem.Spec PyProof.Rows L2
/-! ### a cell let go: from now on one's own thing -/
def dropA : List Addr → List D → Addr → List Addr × List D
  | b :: as, d :: l, a => if b = a then (as, l) else (b :: (dropA as l a).1, d :: (dropA as l a).2)
  | as, l, _ => (as, l)
def dropC (n : Nat) (e : Env) (a : Addr) : Env :=
  match e[n]? with
  | some (some (.mem al l)) => e.set n (some (.mem (dropA al l a).1 (dropA al l a).2))
  | _ => e
section
variable {K : PySem.W.Frag} {ow : Addr → Prop} {H : Hp}
theorem RM.drop {a : Addr} {d : D} : ∀ {al : List Addr} {l : List D}, RM K ow H al l → cellAt al l a = some d → RO K ow H d (cellSh d) (.ref a) [a] ∧ RM K ow H (dropA al l a).1 (dropA al l a).2 ∧ List.Perm al (a :: (dropA al l a).1)
  | [], _, _, h => by simp [cellAt] at h
  | _ :: _, [], h, _ => h.elim
  | b :: al, x :: l, ⟨h1, h2⟩, hc => by
    rw [dropA]
    by_cases e : b = a
    · subst e
      rw [if_pos rfl]
      rw [cellAt_new, if_pos rfl] at hc
      cases hc
      exact ⟨h1, h2, List.Perm.refl _⟩
    · rw [if_neg e]
      rw [cellAt_new, if_neg e] at hc
      obtain ⟨k1, k2, k3⟩ := RM.drop h2 hc
      exact ⟨k1, ⟨h1, k2⟩, (List.Perm.cons b k3).trans (List.Perm.swap a b _)⟩
end
section
variable {c : Vc} {W : XW} {m : Md} {te : TE} {fe : VT}
theorem RX.uncell {fT fV : List Addr} {T : List Tm} {σ : L2.St} {e : Env} {H : Hp} {a : Addr} {d : D} (h : RX c fT fV T σ e H) (hc : Cell c.M.length e a d) : R c ((cellSh d, .ref a, d) :: T) σ (dropC c.M.length e a) H := by
  obtain ⟨al, l, hm, ha⟩ := hc
  obtain ⟨e0, f0, ee, le0, ef, rv, rm⟩ := h.memAt hm
  subst ee ef
  obtain ⟨r1, r2, pm⟩ := rm.drop ha
  have eN : dropC c.M.length (e0 ++ [some (.mem al l)]) a = e0 ++ [some (.mem (dropA al l a).1 (dropA al l a).2)] := by
    unfold dropC
    rw [hm]
    show (e0 ++ [some (D.mem al l)]).set c.M.length _ = _
    rw [List.set_append_right _ _ (by omega), le0, Nat.sub_self]
    rfl
  rw [eN]
  have p0 : List.Perm (fT ++ (f0 ++ al)) ([a] ++ fT ++ (f0 ++ (dropA al l a).1)) := by
    have q1 : List.Perm (fT ++ (f0 ++ al)) (fT ++ (f0 ++ (a :: (dropA al l a).1))) := List.Perm.append_left _ (List.Perm.append_left _ pm)
    refine q1.trans ?_
    rw [List.perm_iff_count]
    intro b
    simp only [List.count_append, List.count_cons, List.count_nil]
    omega
  have how : ∀ b, owOf c ([a] ++ fT) (f0 ++ (dropA al l a).1) b → owOf c fT (f0 ++ al) b ∨ H b = none := fun b z => by
    rcases z with z | z
    · exact .inl (.inl (p0.mem_iff.mpr z))
    · exact .inl (.inr z)
  exact ⟨[a] ++ fT, f0 ++ (dropA al l a).1, ⟨[a], fT, rfl, RO.fr (fun _ _ q _ => q) (ExtT.refl H) how _ _ _ _ r1 (fun _ _ _ q => q), h.tm.fr (fun _ _ q _ => q) (ExtT.refl H) how (fun _ _ _ q => q)⟩, ⟨e0, _, f0, (dropA al l a).1, rfl, rfl, rv.fr (fun _ _ q _ => q) (ExtT.refl H) how (fun _ _ _ q => q), rfl, r2.fr (fun _ _ q _ => q) (ExtT.refl H) how (fun _ _ _ q => q)⟩, p0.nodup h.nd, fun b z => h.fr b (p0.mem_iff.mpr z), h.kp, h.tp, h.al, h.ok, h.rt⟩
/-- a cell's list, taken out -/
def vTake (n : Nat) (fe : VT) : VT := fun e Q Qx => fe e (fun x e1 => ∃ a l, x = .ref a ∧ Cell n e1 a (.lst l) ∧ Q (.lst l) (dropC n e1 a)) Qx
theorem v_take (he : VQ c te fe) : VE c W .e te (.l .s) (vTake c.M.length fe) := fun T σ e H Q Qv Qx hR hf hn hx => by
  obtain ⟨fT, fV, X1⟩ := hR
  refine he fT fV _ σ e H _ _ Qx X1 hf fun v d r ⟨a, l, ed, hc, q⟩ => ?_
  subst ed
  have z : v = .ref a := by simpa only [RS] using r
  subst z
  exact hn _ _ _ _ (X1.uncell hc) Post.e q
/-- {None: v} -/
theorem v_ld1 {P : Program} {w : World} {tv : TE} {fv : VT} (hv : VE c W .e tv .s fv) : VE c W .e (Fb.tLDisp P w [(tC .non, tv)]) .n (vLD1 P w fv) := fun T σ e H Q Qv Qx hR hf hn hx => by
  intro p np
  obtain ⟨fT0, fV0, X0⟩ := hR
  have X1 : RX c ([p] ++ fT0) fV0 ((.n, .ref p, .nd P w false [] []) :: T) σ e (L2.upd H p (Fb.ldO P w p [])) := X0.pushO (same_new np) (by simp) (fun a z => by rw [List.mem_singleton.mp z]; exact np) (by
    simp only [RO]
    exact ⟨p, [], [], rfl, ⟨[], rfl, upd_same⟩, rfl, by simp only [ROs, List.map_nil]; exact ⟨trivial, trivial, trivial⟩, rfl⟩)
  refine hv _ σ e _ _ _ Qx ⟨_, _, X1⟩ hf (fun y dy e1 H1 R1 _ q => ?_) (fun xn d e' H' R' X' q' => hx xn d e' H' R'.pop X' q')
  obtain ⟨fT, fV, X2⟩ := R1
  obtain ⟨ry, X2⟩ := X2.topS
  obtain ⟨fpp, fT', e1', ro, nf, k⟩ := X2.updT
  simp only [RO] at ro
  obtain ⟨a, vs, fps, ea, ⟨ls, els, ha⟩, hl, t, rfl⟩ := ro
  cases ea
  simp only [ROs, List.map_nil] at t
  obtain ⟨-, rfl, rfl⟩ := t
  have els : ls = [] := by cases ls with | nil => rfl | cons _ _ => simp at els
  subst els
  have ha : H1 p = some (Fb.ldO P w p []) := ha
  refine ⟨ha, [(.none, y)], rfl, show 1 ≤ 15 by decide, ?_⟩
  have nfx : ∀ u, H1 p = some u → ¬ Fx u := fun u z => by rw [ha] at z; cases z; exact id
  refine hn _ _ e1 _ ⟨_, fV, k (L2.upd H1 p (Fb.ldO P w p [(.none, y)])) (.nd P w false [[.none]] [dy]) [p] (fun b o z n => ?_) (ExtT.upd nfx) al_upd (by simp) (fun b z => .inl z) fun ow' how => ?_⟩ Post.e q
  · rw [upd_ne (fun y => n (by rw [y]; exact List.mem_singleton_self p))]
    exact z
  · have F : Fr (owOf c fT fV) H1 (L2.upd H1 p (Fb.ldO P w p [(.none, y)])) := ⟨fun b o z n => by
      rw [upd_ne (fun y => n (.inl (by rw [y, e1']; simp)))]
      exact z, ExtT.upd nfx⟩
    simp only [RO]
    refine ⟨p, [y], [], rfl, ⟨[.none], rfl, upd_same⟩, rfl, ?_, rfl⟩
    exact ROs.ofS (fun s z => by obtain ⟨_, _, e⟩ := List.mem_map.mp z; exact e.symm) (by simp) (.cons (RS.fr F how _ _ ry) .nil)
end
end VL
set_option Elab.async false
set_option linter.all false
set_option maxRecDepth 100000
set_option maxHeartbeats 2000000
namespace VL
open PySem PySem.Spec PyProof.Rows L2
section
variable {c : Vc} {W : XW} {te tv ti : TE} {fe fv fi : VT} {rsh : Sh} {P : Program} {w : World}
theorem n_cellN (n : Nat) (hn : c.M.length = n) (h : VE c W .e te .n fe) : VE c W .e te .s (vCell n fe) := by subst hn; exact v_cellN h
theorem n_nput (n : Nat) (hn : c.M.length = n) (he : VQ c te fe) (hv : VE c W .e tv .s fv) (hi : VE c W .e ti .s fi) : VS c W rsh (Fb.sNPut c.K P w te ti tv) (vNPut n P w fe fi fv) := by subst hn; exact vs_nput he hv hi
theorem n_nget (n : Nat) (hn : c.M.length = n) (he : VQ c te fe) (hi : VE c W .e ti .s fi) : VE c W .e (Fb.tNGet c.K P w te ti) .s (vNGet n P w fe fi) := by subst hn; exact v_nget he hi
theorem n_take (n : Nat) (hn : c.M.length = n) (he : VQ c te fe) : VE c W .e te (.l .s) (vTake n fe) := by subst hn; exact v_take he
end
section
variable {X : Cx} {K0 : PySem.W.Frag} {P0 : Program} {w0 : World} (hK : X.K = K0) (hP : X.prog = P0) (hw : X.w = w0)
include hK hP hw
theorem ps_nputK {o i value : Expr} {pos pos' : Pos} {td ty tv : TE} (hu : X.A.units + 1 < cLine) (ho : PE X o td) (hi : PE X i ty) (hv : PE X value tv) (hs : swapsWith value (some (.Subscript o i pos')) pos.line X.env = pure false) : PS X (.Assign [.Subscript o i pos'] value pos) (Fb.sNPut K0 P0 w0 td ty tv) := by subst hK hP hw; exact Fb.ps_nput hu ho hi hv hs
theorem pe_ngetK {o i : Expr} {pos : Pos} {td ty : TE} (hu : X.A.units + 1 < cLine) (ho : PE X o td) (hi : PE X i ty) (hs : NoSl i) : PE X (.Subscript o i pos) (Fb.tNGet K0 P0 w0 td ty) := by subst hK hP hw; exact Fb.pe_nget hu ho hi hs
end
section
variable {X : Cx} {P0 : Program} {w0 : World} (hP : X.prog = P0) (hw : X.w = w0)
include hP hw
theorem pe_nnewK {pos : Pos} : PE X (.Dict [] [] pos) (Fb.tNNew P0 w0) := by subst hP hw; exact Fb.pe_nnew
theorem pe_ldispK {pos : Pos} {keys : List (Option Expr)} {values : List Expr} {trs : List (TE × TE)} (h : PPs X pos keys values trs) (hall : keys.all (·.isSome) = true) (hl : keys.length = values.length) (h0 : keys ≠ []) (h15 : keys.length ≤ 15) : PE X (.Dict keys values pos) (Fb.tLDisp P0 w0 trs) := by subst hP hw; exact Fb.pe_ldisp h hall hl h0 h15
end
end VL
set_option Elab.async false
set_option linter.all false
set_option maxRecDepth 100000
set_option maxHeartbeats 2000000
namespace VL
open PySem PySem.Spec PyProof.Rows L2
/-! ### cells: xs.extend(ys), d[k] = v of a dict whose keys are numbers and texts -/
section
variable {c : Vc} {W : XW} {te tv ti : TE} {fe fv fi : VT} {rsh : Sh}
def vExtC (n : Nat) (fe fv : VT) : VT := fun e Q Qx => fe e (fun x e1 => ∃ a, x = .ref a ∧ (∃ l, Cell n e1 a (.lst l)) ∧ fv e1 (fun y e2 => ∃ l zs, y = .lst zs ∧ Cell n e2 a (.lst l) ∧ l.length + zs.length ≤ sizeLine ∧ Q .non (setC n e2 a (.lst (l ++ zs)))) Qx) Qx
theorem v_extC (he : VQ c te fe) (hv : VE c W .e tv .s fv) : VE c W .e (tBM c.K "list" (rExtR c.K) te (tCons tv tNil)) .s (vExtC c.M.length fe fv) := fun T σ e H Q Qv Qx ⟨fT, fV, hX⟩ hf hn hx =>
  he fT fV T σ e H _ _ Qx hX hf fun v d r ⟨a, ed, ⟨l0, hc0⟩, q⟩ => by
    subst ed
    have z : v = .ref a := by simpa only [RS] using r
    subst z
    obtain ⟨vs0, ha0, _⟩ := hX.cellL hc0
    refine ⟨tyV_l ha0, hv T σ e H _ _ Qx ⟨fT, fV, hX⟩ q (fun y dy e1 H1 R1 _ ⟨l, zs, ey, hc, hz, q⟩ => ?_) hx⟩
    subst ey
    obtain ⟨fT1, fV1, X0⟩ := R1
    obtain ⟨ry, X1⟩ := X0.topS
    clear X0
    obtain ⟨b, ws, rfl, s, rw⟩ := ry.b.lst
    obtain ⟨vs, ha, rs⟩ := X1.cellL hc
    have F := RX.frL (o' := .lst (vs ++ ws)) ha id (X1.cellB hc).2.1
    obtain ⟨fV2, X2⟩ := X1.setL hc ha (l' := l ++ zs) (vs' := vs ++ ws) fun ow' how => RSs.app (RSs.fr F how _ _ rw) (RSs.fr F how _ _ rs)
    exact ⟨a, b, vs, ws, rfl, rfl, ha, s, by rw [rs.len, rw.len]; exact hz, hn _ _ _ _ ⟨fT1, fV2, X2.pushS rs_non⟩ Post.e q⟩
theorem RX.cellD {fT fV : List Addr} {T : List Tm} {σ : L2.St} {e : Env} {H : Hp} {a : Addr} {ks : List Key} {l : List D} (h : RX c fT fV T σ e H) (hc : Cell c.M.length e a (.dct ks l)) : ∃ vs, H a = some (.dK (ks.zip vs)) ∧ ks.length = vs.length ∧ RSs c.K (owOf c fT fV) H l vs := by
  obtain ⟨_, _, r⟩ := h.cellB hc
  rcases r.cell with ⟨_, _, e, _⟩ | ⟨_, _, vs, e, q, n, rs⟩ | ⟨_, _, _, _, _, e, _⟩ | ⟨_, _, _, _, _, _, e, _⟩
  · cases e
  · cases e
    exact ⟨vs, q, n, rs⟩
  · cases e
  · cases e
def vDPutC (n : Nat) (fe fi fv : VT) : VTS := fun D e => fv e (fun y e1 => fe e1 (fun x e2 => ∃ a, x = .ref a ∧ fi e2 (fun dk e3 => ∃ ks l k, dk = kD k ∧ Cell n e3 a (.dct ks l) ∧ ks.length < sizeLine ∧ D.nx (setC n e3 a (.dct (pKs ks k) (pVs ks l k y)))) D.ex) D.ex) D.ex
theorem vs_dputC (he : VQ c te fe) (hv : VE c W .e tv .s fv) (hi : VE c W .e ti .s fi) : VS c W rsh (sDPut te ti tv) (vDPutC c.M.length fe fi fv) := fun T σ e H D Dv hR hf L =>
  hv T σ e H _ _ Dv.ex hR hf (fun y dy e1 H1 R1 _ q => by
    obtain ⟨fT, fV, X1⟩ := R1
    refine he fT fV _ σ e1 H1 _ _ Dv.ex X1 q fun v d r ⟨a, ed, q⟩ => ?_
    subst ed
    have z : v = .ref a := by simpa only [RS] using r
    subst z
    refine hi _ σ e1 H1 _ _ Dv.ex ⟨fT, fV, X1⟩ q (fun kv dk e2 H2 R2 _ ⟨ks, l, k, ek, hc, hz, q⟩ => ?_) (fun x d e' H' r y q => L.ex x d σ e' H' r.pop y q)
    subst ek
    obtain ⟨gT, gV, X2⟩ := R2
    obtain ⟨rk, X2⟩ := X2.topS
    obtain ⟨ry, X2⟩ := X2.topS
    have ek : kv = kV k := rk.b.key
    obtain ⟨vs, ha, hn, rs⟩ := X2.cellD hc
    have F := RX.frL (o' := .dK ((pKs ks k).zip (pVs ks vs k y))) ha id (X2.cellB hc).2.1
    obtain ⟨fV2, X3⟩ := X2.setC (H' := L2.upd H2 a (.dK ((pKs ks k).zip (pVs ks vs k y)))) (d' := .dct (pKs ks k) (pVs ks l k dy)) hc (fun b o q z => by rw [upd_ne z]; exact q) (frC ha id) al_upd fun ow' how => RO.dcell upd_same (pKs_len hn) (RSs.pVs (RS.fr F how _ _ ry) (RSs.fr F how _ _ rs))
    refine ⟨a, _, rfl, ?_, L.nx σ _ _ ⟨gT, fV2, X3⟩ q⟩
    rw [ek]
    have := DPut.k (k := k) (v := y) ha (by rw [List.length_zip, ← hn, Nat.min_self]; exact hz)
    rw [putK_zip hn] at this
    exact this) (fun x d e' H' r y q => L.ex x d σ e' H' r y q)
theorem n_extC (n : Nat) (hn : c.M.length = n) (he : VQ c te fe) (hv : VE c W .e tv .s fv) : VE c W .e (tBM c.K "list" (rExtR c.K) te (tCons tv tNil)) .s (vExtC n fe fv) := by subst hn; exact v_extC he hv
theorem n_dputC (n : Nat) (hn : c.M.length = n) (he : VQ c te fe) (hv : VE c W .e tv .s fv) (hi : VE c W .e ti .s fi) : VS c W rsh (sDPut te ti tv) (vDPutC n fe fi fv) := by subst hn; exact vs_dputC he hv hi
end
end VL
set_option Elab.async false
set_option linter.all false
set_option maxRecDepth 100000
set_option maxHeartbeats 2000000
namespace VL
open PySem PySem.Spec PyProof.Rows L2
/-! ### isinstance(x, N): x a cell that is an instance, N a class of the program -/
section
variable {c : Vc} {W : XW} {te : TE} {fe : VT}
/-- what is asked of the class C of x, and the answer b for the class N -/
structure OwnIs (K : PySem.W.Frag) (C N : Addr) (b : Bool) : Prop where
  cl : Cls K C
  ha : PySem.W.findIn K (.ref C) "__class__" = some (some (.builtin "object.__class__"))
  hn : PySem.W.specialIn K (.builtin "object.__class__") "__get__" = some (some (.builtin "getset_descriptor.__get__"))
  htk : PySem.W.takesIn K (.builtin "object.__class__") = some true
  hm : PySem.W.mroIn K C (.type "object") = some true
  one : PySem.W.kitOne K (.ref C) (.ref N) = some b
def vIsiO (n : Nat) (tab : List (Addr × Bool)) (fe : VT) : VT := fun e Q Qx => fe e (fun x e1 => ∃ a C fs l b, x = .ref a ∧ Cell n e1 a (.obj C fs l) ∧ (C, b) ∈ tab ∧ Q (.bl b) e1) Qx
theorem q_isiO {N : Addr} {tab : List (Addr × Bool)} (hT : ∀ p ∈ tab, OwnIs c.K p.1 N p.2) (h : VQ c te fe) : VQ c (tCB (rIsi c.K) (tCons te (tCons (tC (.ref N)) tNil))) (vIsiO c.M.length tab fe) := fun fT fV T' σ e H Q Qv Qx hR hf hn =>
  h fT fV T' σ e H _ _ Qx hR hf fun v d r ⟨a, C, fs, l, b, ed, hc, hp, q⟩ => by
    subst ed
    have z : v = .ref a := by simpa only [RS] using r
    subst z
    have o := hT _ hp
    rcases (hR.cellB hc).2.2.cell with ⟨l', vs, e', _⟩ | ⟨ks, l', vs, e', _⟩ | ⟨C', fs', l', dx, vs, e', ha, n, rs⟩ | ⟨_, _, _, _, _, _, e', _⟩
    · cases e'
    · cases e'
    · cases e'
      exact ⟨.ref a, .ref N, .ref C, .ref N, b, rfl, .own N, .base (.ins ha o.cl o.ha o.hn o.htk o.hm), o.one, hn _ _ rs_bl q⟩
    · cases e'
theorem n_isiO (n : Nat) (hn : c.M.length = n) {N : Addr} {tab : List (Addr × Bool)} (hT : ∀ p ∈ tab, OwnIs c.K p.1 N p.2) (h : VQ c te fe) : VQ c (tCB (rIsi c.K) (tCons te (tCons (tC (.ref N)) tNil))) (vIsiO n tab fe) := by subst hn; exact q_isiO hT h
/-! ### list(range(i, j)) -/
theorem rg_rs {K : PySem.W.Frag} {ow : Addr → Prop} {H : Hp} : ∀ (n : Nat) (f : Nat → Int), RSs K ow H ((List.range n).map fun i => D.int (f i)) ((List.range n).map fun i => V.int (f i))
  | 0, _ => .nil
  | n + 1, f => by
    rw [List.range_succ_eq_map, List.map_cons, List.map_cons, List.map_map, List.map_map]
    exact .cons rs_int (rg_rs n fun i => f (i + 1))
def vListRg (fa fb : VT) : VT := fun e Q Qx => fa e (fun x e1 => fb e1 (fun y e2 => ∃ i j : Int, x = .int i ∧ y = .int j ∧ RgOk i j ∧ Q (.lst (rngD i (j - i).toNat)) e2) Qx) Qx
theorem v_listRg {ta tb : TE} {fa fb : VT} (ha : VQ c ta fa) (hb : VQ c tb fb) : VE c W .e (tLstRg (tRg2 ta tb)) (.l .s) (vListRg fa fb) := fun T σ e H Q Qv Qx ⟨fT, fV, hX⟩ hf hn hx =>
  ha fT fV T σ e H _ _ Qx hX hf fun v1 d1 r1 q0 => hb fT fV T σ e H _ _ Qx hX q0 fun v2 d2 r2 ⟨i, j, e1, e2, ok, q⟩ => by
    clear q0
    subst e1 e2
    refine ⟨i, j, r1.b.int, r2.b.int, ok, fun a hna => ?_⟩
    have s : Same H (L2.upd H a (.lst (rgV i j))) := same_new hna
    exact hn _ _ e _ ⟨[a] ++ fT, fV, hX.pushO s (by simp) (fun b z => by rw [List.mem_singleton.mp z]; exact hna) (RO.lcell upd_same (rg_rs _ _))⟩ (Post.same s) q
/-! ### make(..).f, and its list taken out -/
def vFldE (n : Nat) (C : Addr) (f : Str) (fe : VT) : VT := fun e Q Qx => fe e (fun x e1 => ∃ a fs l d, x = .ref a ∧ Cell n e1 a (.obj C fs l) ∧ getF fs l f = some d ∧ Q d e1) Qx
theorem v_fldE {C : Addr} {f : Str} (hC : Cls c.K C) (hN : NoAttr c.K C f) (he : VE c W .e te .s fe) : VE c W .e (tFld c.K te f) .s (vFldE c.M.length C f fe) := fun T σ e H Q Qv Qx hR hf hn hx =>
  he T σ e H _ _ Qx hR hf (fun v d e1 H1 R1 p ⟨a, fs, l, d', ed, hc, hg, q⟩ => by
    obtain ⟨fT, fV, X0⟩ := R1
    subst ed
    obtain ⟨r, X1⟩ := X0.topS
    have z : v = .ref a := by simpa only [RS] using r
    subst z
    rcases (X1.cellB hc).2.2.cell with ⟨l', vs, e', _⟩ | ⟨ks, l', vs, e', _⟩ | ⟨C', fs', l', dx, vs, e', ha, n, rs⟩ | ⟨_, _, _, _, _, _, e', _⟩
    · cases e'
    · cases e'
    · cases e'
      obtain ⟨w, hw, rw⟩ := rs.getF hg
      exact ⟨a, C, dx, _, w, rfl, ha, hC, hN, by rw [lookup_zip]; exact hw, hn _ _ e1 H1 ⟨fT, fV, X1.pushS rw⟩ p q⟩
    · cases e') hx
theorem v_takeE (he : VE c W .e te .s fe) : VE c W .e te (.l .s) (vTake c.M.length fe) := fun T σ e H Q Qv Qx hR hf hn hx =>
  he T σ e H _ _ Qx hR hf (fun v d e1 H1 R1 p ⟨a, l, ed, hc, q⟩ => by
    obtain ⟨fT, fV, X0⟩ := R1
    subst ed
    obtain ⟨r, X1⟩ := X0.topS
    have z : v = .ref a := by simpa only [RS] using r
    subst z
    exact hn _ _ _ _ (X1.uncell hc) Post.e q) hx
theorem n_fldE (n : Nat) (hn : c.M.length = n) {C : Addr} {f : Str} (hC : Cls c.K C) (hN : NoAttr c.K C f) (he : VE c W .e te .s fe) : VE c W .e (tFld c.K te f) .s (vFldE n C f fe) := by subst hn; exact v_fldE hC hN he
theorem n_takeE (n : Nat) (hn : c.M.length = n) (he : VE c W .e te .s fe) : VE c W .e te (.l .s) (vTake n fe) := by subst hn; exact v_takeE he
end
end VL
set_option Elab.async false
set_option linter.all false
set_option maxRecDepth 100000
set_option maxHeartbeats 2000000
/-! ### a dict of one's own whose values are lists of one's own: d[k] read, d[k].append(v), d[k].extend(l), {k: [..], ..}; l.clear() -/
namespace VL
open PySem PySem.Spec PyProof.Rows L2
abbrev dlsh : Sh := .d fun _ => .l .s
def setK : List Key → List D → Key → D → List D
  | k0 :: ks, d0 :: l, k, d => if k0 = k then d :: l else d0 :: setK ks l k d
  | _, l, _, _ => l
section
variable {K : PySem.W.Frag} {ow ow' : Addr → Prop} {H H' : Hp}
theorem ROs_dl : ∀ {ks : List Key} {l : List D} {vs : List V} {fps : List Addr} {k : Key} {d : D}, ks.length = vs.length → ROs K ow H l (ks.map fun _ => Sh.l .s) vs fps → getK ks l k = some d →
    ∃ xs b ws f1 f2, d = .lst xs ∧ valV (ks.zip vs) k = some (.ref b) ∧ H b = some (.lst ws) ∧ RSs K ow H xs ws ∧ fps = f1 ++ b :: f2 ∧
      ∀ {H' : Hp} {ow' : Addr → Prop} {xs' : List D} {ws' : List V}, (∀ x o, H x = some o → ¬ ow x → H' x = some o) → ExtT H H' → (∀ a, ow' a → ow a ∨ H a = none) → (∀ x ∈ f1 ++ f2, ∀ o, H x = some o → H' x = some o) → H' b = some (.lst ws') → RSs K ow' H' xs' ws' → ROs K ow' H' (setK ks l k (.lst xs')) (ks.map fun _ => Sh.l .s) vs fps
  | [], [], _, _, _, _, _, _, h => by cases h
  | [], _ :: _, _, _, _, _, _, _, h => by cases h
  | _ :: _, [], _, _, _, _, _, _, h => by cases h
  | k0 :: ks, d0 :: l, vs, fps, k, d, hn, h, hk => by
    simp only [List.map_cons, ROs] at h
    obtain ⟨sh, shs', v, vs', f1, f2, e1, rfl, rfl, h1, h2⟩ := h
    cases e1
    by_cases e : k0 = k
    · simp only [getK, if_pos e, Option.some.injEq] at hk
      subst hk
      obtain ⟨xs, b, ws, rfl, rfl, hb, rs, rfl⟩ := RO_l.mp h1
      refine ⟨xs, b, ws, [], f2, rfl, valV_pos e, hb, rs, rfl, fun {H' ow' xs' ws'} kk hT how ko hb' rs' => ?_⟩
      simp only [setK, if_pos e, List.map_cons, ROs]
      exact ⟨.l .s, _, .ref b, vs', [b], f2, rfl, rfl, rfl, RO_l.mpr ⟨xs', b, ws', rfl, rfl, hb', rs', rfl⟩, ROs.fr kk hT how _ _ _ _ h2 fun x z => ko x (by simpa using z)⟩
    · simp only [getK, if_neg e] at hk
      obtain ⟨xs, b, ws, g1, g2, e1, e2, e3, e4, rfl, X⟩ := ROs_dl (Nat.succ.inj hn) h2 hk
      refine ⟨xs, b, ws, f1 ++ g1, g2, e1, (valV_neg e).trans e2, e3, e4, by simp, fun {H' ow' xs' ws'} kk hT how ko hb' rs' => ?_⟩
      simp only [setK, if_neg e, List.map_cons, ROs]
      exact ⟨.l .s, _, v, vs', f1, g1 ++ b :: g2, rfl, rfl, rfl, RO.fr kk hT how _ _ _ _ h1 fun x z => ko x (by simp [z]), X kk hT how (fun x z => ko x (by
        rcases List.mem_append.mp z with z | z <;> simp [z])) hb' rs'⟩
end
section
variable {c : Vc} {W : XW} {rsh : Sh} {m : Md} {ta te : TE} {fa fe : VT}
theorem RX.ownDL {fT fV : List Addr} {T : List Tm} {σ : L2.St} {e : Env} {H : Hp} {i : Nat} {ks : List Key} {l : List D} {k : Key} {d : D} (h : RX c fT fV T σ e H) (hM : c.M[i]? = some dlsh) (hd : e[i]? = some (some (.dct ks l))) (hk : getK ks l k = some d) :
    ∃ a vs b xs ws, d = .lst xs ∧ σ[i]? = some (some (.ref a)) ∧ H a = some (.dK (ks.zip vs)) ∧ ks.length = vs.length ∧ valV (ks.zip vs) k = some (.ref b) ∧ H b = some (.lst ws) ∧ RSs c.K (owOf c fT fV) H xs ws ∧ owOf c fT fV b ∧
      ∀ (xs' : List D) (ws' : List V), (∀ ow', (∀ b, ow' b → owOf c fT fV b ∨ H b = none) → RSs c.K ow' (L2.upd H b (.lst ws')) xs' ws') → ∃ fV', RX c fT fV' T σ (e.set i (some (.dct ks (setK ks l k (.lst xs'))))) (L2.upd H b (.lst ws')) := by
  obtain ⟨v, fp, hv, ro, sub, nf, kk⟩ := h.upd hM hd
  simp only [RO] at ro
  obtain ⟨a, vs, fps, rfl, ha, hl, t, rfl⟩ := ro
  obtain ⟨xs, b, ws, f1, f2, rfl, hval, hb, rs, rfl, X⟩ := ROs_dl hl t hk
  have ob : owOf c fT fV b := .inl (sub b (by simp))
  refine ⟨a, vs, b, xs, ws, rfl, hv, ha, hl, hval, hb, rs, ob, fun xs' ws' hr => ?_⟩
  have nfx : ∀ u, H b = some u → ¬ Fx u := fun u q => by rw [hb] at q; cases q; exact id
  have ab : a ≠ b := fun z => by
    rw [z] at nf
    simp at nf
  refine kk (L2.upd H b (.lst ws')) _ (a :: (f1 ++ b :: f2)) (fun x o q n => ?_) (ExtT.upd nfx) (fun x q => al_upd x q) nf (fun x z => .inl z) fun ow' how => ?_
  · rw [upd_ne (fun z => n (by rw [z]; simp))]
    exact q
  · simp only [RO]
    refine ⟨a, vs, _, rfl, by rw [upd_ne ab]; exact ha, hl, X (fun x o q n => ?_) (ExtT.upd nfx) how (fun x z o q => ?_) upd_same (hr ow' how), rfl⟩
    · rw [upd_ne (fun z => n (by rw [z]; exact ob))]
      exact q
    · have nb : b ∉ f1 ++ f2 := by
        have := (List.nodup_cons.mp nf).2
        have p : List.Perm (f1 ++ b :: f2) (b :: (f1 ++ f2)) := List.perm_middle
        exact (List.nodup_cons.mp (p.nodup this)).1
      rw [upd_ne (fun y => nb (by rw [← y]; exact z))]
      exact q
theorem dlsh_dct {fT fV : List Addr} {T : List Tm} {σ : L2.St} {e : Env} {H : Hp} {i : Nat} {d : D} (h : RX c fT fV T σ e H) (hM : c.M[i]? = some dlsh) (hd : e[i]? = some (some d)) : ∃ ks l a vs, d = .dct ks l ∧ σ[i]? = some (some (.ref a)) ∧ H a = some (.dK (ks.zip vs)) ∧ ks.length = vs.length := by
  obtain ⟨v, fp, hv, ro, _⟩ := h.upd hM hd
  cases d <;> first | (simp only [RO] at ro; done) | skip
  simp only [RO] at ro
  obtain ⟨a, vs, fps, rfl, ha, hl, _⟩ := ro
  exact ⟨_, _, a, vs, rfl, hv, ha, hl⟩
theorem b_dgetL {i : Nat} (hM : c.M[i]? = some dlsh) (h2 : VB c ta fa) : VB c (tDGet (tVar i) ta) (vDGet (vVar i) fa) := fun fT fV T σ e H Q Qv Qx X hf hn => by
  obtain ⟨d, hd, q⟩ := hf
  obtain ⟨ks, l, a0, vs0, rfl, hv0, ha0, hl0⟩ := dlsh_dct X hM hd
  refine ⟨_, hv0, h2 fT fV T σ e H _ _ Qx X q fun y dy ry q2 => ?_⟩
  obtain ⟨k, d, rfl, hk, q3⟩ := q2
  obtain ⟨a, vs, b, xs, ws, rfl, hv, ha, hl, hval, hb, rs, ob, _⟩ := X.ownDL hM hd hk
  rw [hv0] at hv
  cases hv
  exact ⟨_, _, rfl, .inl ⟨_, k, .inl ha, ry.key, hval.symm⟩, hn _ (.lst xs) ⟨b, ws, rfl, .inl (.inl hb), rs⟩ q3⟩
def vModD (P : List D → D → List D → Prop) (i : Nat) (fa fe : VT) : VT := fun e Q Qx => ∃ ks0 l0, e[i]? = some (some (.dct ks0 l0)) ∧ fa e (fun y e0 => ∃ k xs0, y = kD k ∧ getK ks0 l0 k = some (.lst xs0) ∧ fe e0 (fun d e1 => ∃ ks l xs zs, e1[i]? = some (some (.dct ks l)) ∧ getK ks l k = some (.lst xs) ∧ P xs d zs ∧ Q .non (e1.set i (some (.dct ks (setK ks l k (.lst zs)))))) Qx) Qx
abbrev pApp : List D → D → List D → Prop := fun xs d zs => xs.length < sizeLine ∧ zs = xs ++ [d]
abbrev pExt : List D → D → List D → Prop := fun xs d zs => ∃ ys, d = .lst ys ∧ xs.length + ys.length ≤ sizeLine ∧ zs = xs ++ ys
def vAppD (i : Nat) (fa fe : VT) : VT := vModD pApp i fa fe
def vExtD (i : Nat) (fa fe : VT) : VT := vModD pExt i fa fe
theorem fr_l {K : PySem.W.Frag} {ow : Addr → Prop} {H : Hp} {b : Addr} {ws : List V} {o' : HO} (hb : H b = some (.lst ws)) (ob : ow b) : Fr ow H (L2.upd H b o') := ⟨fun x o q n => by
  rw [upd_ne (fun z => n (by rw [z]; exact ob))]
  exact q, ExtT.upd fun u q => by rw [hb] at q; cases q; exact id⟩
theorem sub_dl {i : Nat} {r : V → List V → Hp → VK → Prop} (hM : c.M[i]? = some dlsh) (ha : VB c ta fa) (he : VE c W .n te .s fe)
    (P : List D → D → List D → Prop)
    (step : ∀ (ow : Addr → Prop) (H : Hp) (b : Addr) (xs : List D) (ws : List V) (y : V) (dy : D) (zs : List D) (Q : VK), H b = some (.lst ws) → RSs c.K ow H xs ws → ow b → RS c.K ow H dy y → P xs dy zs → (∀ ws', (∀ ow', (∀ b, ow' b → ow b ∨ H b = none) → RSs c.K ow' (L2.upd H b (.lst ws')) zs ws') → Q .non (L2.upd H b (.lst ws'))) → r (.ref b) [y] H Q) :
    VE c W .e (tBM c.K "list" r (tDGet (tVar i) ta) (tCons te tNil)) .s (vModD P i fa fe) := fun T σ e H Q Qv Qx ⟨fT, fV, X⟩ ⟨ks0, l0, hd, hf⟩ hn hx => by
  obtain ⟨ks1, l1, a0, vs0, e0, hv0, ha0, hl0⟩ := dlsh_dct X hM hd
  cases e0
  refine ⟨_, hv0, ha fT fV T σ e H _ _ Qx X hf fun y dy ry ⟨k, xs0, ey, hk, q⟩ => ?_⟩
  subst ey
  obtain ⟨a, vs, b, xs, ws, e1, hv, hha, hl, hval, hb, rs, ob, _⟩ := X.ownDL hM hd hk
  cases e1
  rw [hv0] at hv
  cases hv
  refine ⟨_, _, rfl, .inl ⟨_, k, .inl hha, ry.key, hval.symm⟩, tyV_l hb, ?_⟩
  refine he T σ e H _ _ Qx ⟨fT, fV, X⟩ q (fun z dz e1 H1 R1 p1 ⟨ks2, l2, xs2, zs2, hd2, hk2, hP, q2⟩ => ?_) hx
  have sm : Same H H1 := p1 rfl
  obtain ⟨fT1, fV1, X1⟩ := R1
  obtain ⟨rz, X1⟩ := X1.topS
  obtain ⟨a2, vs2, b2, xs3, ws2, e3, hv2, ha2, hl2, hval2, hb2, rs2, ob2, kk⟩ := X1.ownDL hM hd2 hk2
  cases e3
  rw [hv0] at hv2
  cases hv2
  have eb : b2 = b := by
    have z1 := sm _ _ hha
    rw [ha2] at z1
    have z2 : ks2.zip vs2 = ks0.zip vs := by injection z1 with z1; injection z1
    rw [z2, hval] at hval2
    injection hval2 with z3
    injection z3 with z3
    exact z3.symm
  subst eb
  refine step _ H1 b2 xs2 ws2 z dz zs2 Q hb2 rs2 ob2 rz hP fun ws' hr => ?_
  obtain ⟨fV3, X3⟩ := kk zs2 ws' hr
  exact hn _ _ _ _ ⟨fT1, fV3, X3.pushS rs_non⟩ Post.e q2
theorem v_appD {i : Nat} (hM : c.M[i]? = some dlsh) (ha : VB c ta fa) (he : VE c W .n te .s fe) : VE c W .e (tBM c.K "list" rAppend (tDGet (tVar i) ta) (tCons te tNil)) .s (vAppD i fa fe) :=
  sub_dl hM ha he pApp fun ow H b xs ws y dy zs Q hb rs ob ry hP k => by
    obtain ⟨hz, rfl⟩ := hP
    refine ⟨b, ws, y, rfl, rfl, hb, by rw [rs.len]; exact hz, k _ fun ow' how => ?_⟩
    have F := fr_l (K := c.K) (o' := .lst (ws ++ [y])) hb ob
    exact RSs.app (.cons (RS.fr F how _ _ ry) .nil) (RSs.fr F how _ _ rs)
theorem v_extD {i : Nat} (hM : c.M[i]? = some dlsh) (ha : VB c ta fa) (he : VE c W .n te .s fe) : VE c W .e (tBM c.K "list" (rExtR c.K) (tDGet (tVar i) ta) (tCons te tNil)) .s (vExtD i fa fe) :=
  sub_dl hM ha he pExt fun ow H b xs ws y dy zs Q hb rs ob ry hP k => by
    obtain ⟨ys, rfl, hz, rfl⟩ := hP
    obtain ⟨d, us, rfl, sq, rs2⟩ := ry.b.lst
    refine ⟨b, d, ws, us, rfl, rfl, hb, sq, by rw [rs.len, rs2.len]; exact hz, k _ fun ow' how => ?_⟩
    have F := fr_l (K := c.K) (o' := .lst (ws ++ us)) hb ob
    exact RSs.app (RSs.fr F how _ _ rs2) (RSs.fr F how _ _ rs)
/-! ### {k: [..], ..} -/
abbrev mkTm (kd : Key × D) (v : V) : Tm := (.l .s, v, kd.2)
def VPsL (c : Vc) (W : XW) (m : Md) (trs : List (TE × TE)) (f : VTP) : Prop := ∀ (T : List Tm) (σ : L2.St) (e : Env) (H : Hp) (Q : List (V × V) → Hp → Prop) (Qv : List (Key × D) → Env → Prop) (Qx : QX), R c T σ e H → f e Qv Qx →
  (∀ (kds : List (Key × D)) (vs : List V) e' H', vs.length = kds.length → R c ((List.zipWith mkTm kds vs).reverse ++ T) σ e' H' → Post m H H' e e' → Qv kds e' → Q (List.zipWith (fun kd v => (kV kd.1, v)) kds vs) H') → (∀ x d e' H', R c T σ e' H' → XAt H' x d → Qx x e' → W (.ref x.C) d σ H') → tPairs trs σ H Q
variable {trs : List (TE × TE)} {fp : VTP} {tb : TE} {fb : VT}
theorem vpl_nil : VPsL c W m [] vpNil := fun T σ e H Q Qv Qx hR hf hn hx => hn [] [] e H rfl hR (Post.refl _ _ _) hf
theorem vpl_cons (ha : VE c W m ta .s fa) (hb : VE c W m tb (.l .s) fb) (hr : VPsL c W m trs fp) : VPsL c W m ((ta, tb) :: trs) (vpCons fa fb fp) := fun T σ e H Q Qv Qx hR hf hn hx => by
  refine ha T σ e H _ _ Qx hR hf (fun x dx e1 H1 R1 P1 ⟨k, ek, h1⟩ => ?_) hx
  subst ek
  have ex : x = kV k := by
    obtain ⟨fT, fV, X1⟩ := R1
    exact X1.topS.1.b.key
  subst ex
  refine hb T σ e1 H1 _ _ Qx R1.pop h1 (fun y dy e2 H2 R2 P2 h2 => ?_) hx
  refine hr _ σ e2 H2 _ _ Qx R2 h2 (fun kds vs e3 H3 hl R3 P3 h3 => ?_) (fun xn d e' H' R' X' q' => hx xn d e' H' R'.pop X' q')
  refine hn ((k, dy) :: kds) (y :: vs) e3 H3 (by simp [hl]) ?_ (P1.trans (P2.trans P3)) h3
  rw [List.zipWith_cons_cons, List.reverse_cons, List.append_assoc]
  exact R3
theorem RT_rev {K : PySem.W.Frag} {ow : Addr → Prop} {H : Hp} : ∀ {kds : List (Key × D)} {vs : List V} {T : List Tm} {fp : List Addr}, vs.length = kds.length → RT K ow H ((List.zipWith mkTm kds vs).reverse ++ T) fp →
    ∃ f1 fps f2, fp = f1 ++ f2 ∧ f1.Perm fps ∧ ROs K ow H (kds.map (·.2)) (kds.map fun _ => Sh.l .s) vs fps ∧ RT K ow H T f2
  | [], [], T, fp, _, h => ⟨[], [], fp, rfl, .nil, by simp only [List.map_nil, ROs]; exact ⟨trivial, trivial, trivial⟩, h⟩
  | [], _ :: _, _, _, hl, _ => by cases hl
  | _ :: _, [], _, _, hl, _ => by cases hl
  | kd :: kds, v :: vs, T, fp, hl, h => by
    rw [List.zipWith_cons_cons, List.reverse_cons, List.append_assoc] at h
    obtain ⟨f1, fps, f2, e1, p1, r1, ⟨g1, g2, e2, h1, h2⟩⟩ := RT_rev (Nat.succ.inj hl) h
    subst e1 e2
    refine ⟨f1 ++ g1, g1 ++ fps, g2, by simp, (List.perm_append_comm).trans (p1.append_left g1), ?_, h2⟩
    simp only [List.map_cons, ROs]
    exact ⟨.l .s, _, v, vs, g1, fps, rfl, rfl, rfl, h1, r1⟩
theorem RX.dispL {fT fV : List Addr} {T : List Tm} {σ : L2.St} {e : Env} {H : Hp} {p : Addr} {kds : List (Key × D)} {vs : List V} (h : RX c fT fV ((List.zipWith mkTm kds vs).reverse ++ ((.d fun _ => .s, .ref p, .dct [] []) :: T)) σ e H) (hl : vs.length = kds.length) :
    H p = some (.dK []) ∧ ∃ fT', RX c fT' fV ((dlsh, .ref p, .dct (kds.map (·.1)) (kds.map (·.2))) :: T) σ e (L2.upd H p (.dK ((kds.map (·.1)).zip vs))) := by
  obtain ⟨f1, fps, f2, e1, p1, r1, ⟨g1, g2, e2, h1, h2⟩⟩ := RT_rev hl h.tm
  subst e1 e2
  simp only [RO] at h1
  obtain ⟨a, us, gs, ea, ha, hus, t, rfl⟩ := h1
  cases ea
  simp only [ROs, List.map_nil] at t
  obtain ⟨-, rfl, rfl⟩ := t
  have ha : H p = some (.dK []) := ha
  refine ⟨ha, p :: fps ++ g2, ?_⟩
  have nfx : ∀ u, H p = some u → ¬ Fx u := fun u z => by rw [ha] at z; cases z; exact id
  have mem : ∀ x, x ∈ (p :: fps ++ g2) ++ fV ↔ x ∈ (f1 ++ ([p] ++ g2)) ++ fV := fun x => by
    have := p1.mem_iff (a := x)
    simp only [List.mem_append, List.mem_cons, List.mem_singleton, this]
    grind
  have how : ∀ a, owOf c (p :: fps ++ g2) fV a → owOf c (f1 ++ ([p] ++ g2)) fV a ∨ H a = none := fun a z => .inl (z.imp (fun y => (mem a).mp y) id)
  have op : owOf c (f1 ++ ([p] ++ g2)) fV p := .inl (by simp)
  have hk : ∀ b o, H b = some o → ¬ owOf c (f1 ++ ([p] ++ g2)) fV b → (L2.upd H p (.dK ((kds.map (·.1)).zip vs))) b = some o := fun b o q n => by
    rw [upd_ne (fun z => n (by rw [z]; exact op))]
    exact q
  have n := h.nd
  have pm : List.Perm ((f1 ++ ([p] ++ g2)) ++ fV) ((p :: fps ++ g2) ++ fV) := by
    refine List.Perm.append_right _ ?_
    rw [List.singleton_append]
    exact List.perm_middle.trans (List.Perm.cons _ (p1.append_right g2))
  have n2 := pm.nodup n
  have np : p ∉ fps ++ g2 ++ fV := by
    have : (p :: (fps ++ g2 ++ fV)).Nodup := by simpa using n2
    exact (List.nodup_cons.mp this).1
  have ko : ∀ b, b ≠ p → ∀ o, H b = some o → (L2.upd H p (.dK ((kds.map (·.1)).zip vs))) b = some o := fun b z o q => by rw [upd_ne z]; exact q
  refine ⟨⟨p :: fps, g2, rfl, ?_, h2.fr hk (ExtT.upd nfx) how fun b z => ko b fun y => np (by rw [← y]; simp [z])⟩, h.vr.fr hk (ExtT.upd nfx) how fun b z => ko b fun y => np (by rw [← y]; simp [z]), n2, fun a z => h.fr a ((mem a).mp z), fun b o q nio => ?_, h.tp.trans (ExtT.upd nfx), fun b q => al_upd b (h.al b q), h.ok, h.rt⟩
  · simp only [RO]
    refine ⟨p, vs, fps, rfl, upd_same, by rw [List.length_map, hl], ?_, rfl⟩
    rw [List.map_map]
    exact ROs.fr hk (ExtT.upd nfx) how _ _ _ _ r1 fun b z => ko b fun y => np (by rw [← y]; simp [z])
  · have bp : b ≠ p := fun z => by
      rcases h.fr p (by simp) with y | y
      · exact nio (z ▸ y)
      · rw [z, y] at q; cases q
    rw [upd_ne bp]
    exact h.kp b o q nio
theorem v_dispL (hp : VPsL c W m trs fp) : VE c W m (tDisp trs) dlsh (vDisp fp) := fun T σ e H Q Qv Qx hR hf hn hx => by
  intro p np
  obtain ⟨fT0, fV0, X0⟩ := hR
  have X1 : RX c ([p] ++ fT0) fV0 ((.d fun _ => .s, .ref p, .dct [] []) :: T) σ e (upd H p (.dK [])) := X0.pushO (same_new np) (by simp) (fun a z => by rw [List.mem_singleton.mp z]; exact np) (by
    simp only [RO]
    exact ⟨p, [], [], rfl, upd_same, rfl, by simp only [ROs, List.map_nil]; exact ⟨trivial, trivial, trivial⟩, rfl⟩)
  refine hp _ σ e _ _ _ Qx ⟨_, _, X1⟩ hf (fun kds vs e1 H1 hl ⟨fT, fV, X2⟩ P q => ?_) (fun xn d e' H' R' X' q' => hx xn d e' H' R'.pop X' q')
  obtain ⟨nd, h15, q⟩ := q
  have nd : (kds.map (·.1)).Nodup := of_decide_eq_true nd
  obtain ⟨ha, fT', X3⟩ := X2.dispL hl
  have hlz : ((kds.map (·.1)).zip vs).length = kds.length := by rw [List.length_zip, List.length_map, hl, Nat.min_self]
  refine ⟨ha, (kds.map (·.1)).zip vs, ?_, by rw [hlz]; exact h15, ?_⟩
  · rw [List.zip_map_left, List.map_map, List.zip_eq_zipWith, List.map_zipWith]
    rfl
  have em : mergeK [] ((kds.map (·.1)).zip vs) = (kds.map (·.1)).zip vs := by
    rw [merge_nodup _ [] (by
      rw [List.nil_append, List.map_fst_zip (by rw [List.length_map, hl]; exact Nat.le_refl _)]
      exact nd)]
    rfl
  rw [em]
  refine hn _ _ e1 _ ⟨_, fV, X3⟩ (fun z => ?_) q
  intro b o eb
  rw [upd_ne (ne_of_none eb np)]
  exact P z b o (by rw [upd_ne (ne_of_none eb np)]; exact eb)
/-! ### l.clear() -/
def vClear (i : Nat) : VT := fun e Q _ => ∃ l, e[i]? = some (some (.lst l)) ∧ Q .non (e.set i (some (.lst [])))
theorem v_clear {i : Nat} (hM : c.M[i]? = some (.l .s)) : VE c W .e (tBM0 c.K "list" rClear (tVar i)) .s (vClear i) := fun T σ e H Q Qv Qx ⟨fT, fV, hX⟩ ⟨l, hl, q⟩ hn hx => by
  obtain ⟨a, vs, hv, ha, rs, k⟩ := hX.ownL hM hl
  obtain ⟨fV2, X2⟩ := k [] [] H (fun _ _ q => q) ha fun ow' how => .nil
  exact ⟨_, hv, tyV_l ha, a, vs, rfl, rfl, ha, hn _ _ _ _ ⟨fT, fV2, X2.pushS rs_non⟩ Post.e q⟩
end
end VL
set_option Elab.async false
set_option linter.all false
set_option maxRecDepth 100000
set_option maxHeartbeats 2000000
/-! ### what hangs on a thing just made; lists of cells shown, cells emptied -/
namespace VL
open PySem PySem.Spec PyProof.Rows L2
section
variable {c : Vc} {W : XW} {rsh : Sh} {te te1 ti : TE} {fe fe0 fi : VT} {tt : TT} {ft : VTB} {tg : TG} {vg : VTG} {own vs : List Nat}
theorem q_cref (a : Addr) : VQ c (tC (.ref a)) (vC (.ref a)) := fun fT fV T σ e H Q Qv Qx hX hf hn => hn (.ref a) (.ref a) (by simp only [RS]) hf
def vLet (fe : VT) (F : Addr → VT) : VT := fun e Q Qx => fe e (fun x e1 => ∃ a, x = .ref a ∧ F a e1 Q Qx) Qx
theorem v_let {sh : Sh} (TT : TE → TE) (F : Addr → VT) (hT : ∀ te σ H Q, TT te σ H Q = te σ H fun v H1 => TT (tC v) σ H1 Q) (he : VE c W .e te .s fe) (hG : ∀ a, VE c W .e (TT (tC (.ref a))) sh (F a)) : VE c W .e (TT te) sh (vLet fe F) := fun T σ e H Q Qv Qx hR hf hn hx => by
  rw [hT]
  refine he T σ e H _ _ Qx hR hf (fun v d e1 H1 R1 _ ⟨a, ed, q⟩ => ?_) hx
  subst ed
  have z : v = .ref a := by
    obtain ⟨fT, fV, X0⟩ := R1
    simpa only [RS] using X0.topS.1
  subst z
  exact hG a T σ e1 H1 Q Qv Qx R1.pop q (fun v d e' H' r _ q => hn v d e' H' r Post.e q) hx
def vClearC (n : Nat) (fe : VT) : VT := fun e Q Qx => fe e (fun x e1 => ∃ a l, x = .ref a ∧ Cell n e1 a (.lst l) ∧ Q .non (setC n e1 a (.lst []))) Qx
theorem v_clearC (he : VQ c te fe) : VE c W .e (tBM0 c.K "list" rClear te) .s (vClearC c.M.length fe) := fun T σ e H Q Qv Qx ⟨fT, fV, hX⟩ hf hn hx =>
  he fT fV T σ e H _ _ Qx hX hf fun v d r ⟨a, l, ed, hc, q⟩ => by
    subst ed
    have z : v = .ref a := by simpa only [RS] using r
    subst z
    obtain ⟨vs, ha, rs⟩ := hX.cellL hc
    obtain ⟨fV2, X2⟩ := hX.setL hc ha (l' := []) (vs' := []) fun ow' how => .nil
    exact ⟨tyV_l ha, a, vs, rfl, rfl, ha, hn _ _ _ _ ⟨fT, fV2, X2.pushS rs_non⟩ Post.e q⟩
theorem n_clearC (n : Nat) (hn : c.M.length = n) (he : VQ c te fe) : VE c W .e (tBM0 c.K "list" rClear te) .s (vClearC n fe) := by subst hn; exact v_clearC he
/-- a list of cells, shown -/
inductive CellsAt (n : Nat) (e : Env) : List Addr → List D → Prop
  | nil : CellsAt n e [] []
  | cons {a : Addr} {l : List D} {as : List Addr} {ls : List D} : Cell n e a (.lst l) → CellsAt n e as ls → CellsAt n e (a :: as) (.lst l :: ls)
def vReprC (n : Nat) (fe : VT) : VT := fun e Q Qx => fe e (fun x e1 => ∃ as ls, x = .lst (as.map .ref) ∧ CellsAt n e1 as ls ∧ gRepr [.lst ls] fun z => Q z e1) Qx
theorem v_reprC {m : Md} (he : VB c te fe) : VE c W m (tCB (Fb.rReprD c.K) (tCons te tNil)) .s (vReprC c.M.length fe) := fun T σ e H Q Qv Qx ⟨fT, fV, hX⟩ hf hn hx =>
  he fT fV T σ e H _ _ Qx hX hf fun v d r ⟨as, ls, ed, hc, hg⟩ => by
    subst ed
    obtain ⟨l, ws, rfl, sq, rs⟩ := r.lst
    have key : ∀ (as : List Addr) (ls : List D) (ws : List V), RSs c.K (owOf c fT fV) H (as.map .ref) ws → CellsAt c.M.length e as ls → plains ls = true → DpAll c.K H ws (pys ls) := fun as => by
      induction as with
      | nil =>
        intro ls ws h1 h2 _
        cases h2
        simp only [List.map_nil, RSs] at h1
        subst h1
        simp only [pys]
        exact .nil
      | cons a as ih =>
        intro ls ws h1 h2 hp
        cases h2 with
        | cons h3 h4 =>
          rename_i l0 ls0
          simp only [List.map_cons, RSs] at h1
          obtain ⟨v, r, rfl, h5, h6⟩ := h1
          have z : v = .ref a := by simpa only [RS] using h5
          subst z
          obtain ⟨us, ha, rs⟩ := hX.cellL h3
          simp only [plains, Bool.and_eq_true] at hp
          have hpl : plains l0 = true := by simpa only [VL.plain] using hp.1
          simp only [pys, py]
          exact .cons (.lst (.inl (.inl ha)) (RSs.dp _ _ rs hpl)) (ih ls0 r h6 h4 hp.2)
    unfold gRepr at hg
    obtain ⟨h0, h1, h2, h3, h4, h5, q⟩ := hg
    have hp : plains ls = true := by simpa only [VL.plain] using h1
    have dp : Dp c.K H (.ref l) (py (.lst ls)) := by
      rw [py]
      exact .lst sq.sq (key as ls ws rs hc hp)
    exact ⟨l, _, rfl, dp, h2, h3, h4, h5, hn _ _ e H ⟨fT, fV, hX.pushS rs_str⟩ (Post.refl _ _ _) q⟩
theorem n_reprC {m : Md} (n : Nat) (hn : c.M.length = n) (he : VB c te fe) : VE c W m (tCB (Fb.rReprD c.K) (tCons te tNil)) .s (vReprC n fe) := by subst hn; exact v_reprC he
/-- a comprehension over the cell of a thing just made -/
def vLcD (n : Nat) (fi : VT) (vs : List Nat) (vg : VTG) (ft : VTB) (fe : VT) : VT := vLet fi fun a => vLcB (vDr n (vC (.ref a))) vs vg ft fe
theorem n_lcD (n : Nat) (hn0 : c.M.length = n) {sh : Sh} (hi : VE c W .e te .s fe0) (hg : VG c tg own vg) (ht : VBt c W0 .n tt ft) (he : VE c W0 .n te1 sh fe) (ho : ∀ i ∈ own, i ∈ vs) (hr : ∀ i ∈ vs, ∀ p ∈ c.rt, p.1 ≠ i) : VE c W .e (tLc (iList c.K te) tg tt te1 vs) (.l .s) (vLcD n fe0 vs vg ft fe) := by
  subst hn0
  exact v_let (fun te => tLc (iList c.K te) tg tt te1 vs) _ (fun _ _ _ _ => rfl) hi fun a => VE.ne (v_lcB (b_cell (q_cref a)) hg ht he ho hr)
end
end VL
set_option Elab.async false
set_option linter.all false
set_option maxRecDepth 100000
set_option maxHeartbeats 2000000
/-! ### a new dict as a cell, where nothing that stood is changed -/
namespace VL
open PySem PySem.Spec PyProof.Rows L2
section
variable {c : Vc} {W : XW} {rsh : Sh} {te : TE} {fe : VT} {m : Md}
theorem v_cellDm (h : VE c W m te (.d fun _ => .s) fe) : VE c W m te .s (vCell c.M.length fe) := fun T σ e H Q Qv Qx hR hf hn hx =>
  h T σ e H _ _ Qx hR hf (fun v d e1 H1 R1 p ⟨hm, q⟩ => by
    have hd : ∃ ks l, d = .dct ks l := by
      obtain ⟨fT, fV, X⟩ := R1
      obtain ⟨f1, f2, e1, h1, h2⟩ := X.tm
      have h1 : RO _ _ _ d (.d fun _ => .s) v f1 := h1
      cases d <;> first | exact ⟨_, _, rfl⟩ | (simp only [RO] at h1)
    obtain ⟨ks, l, rfl⟩ := hd
    obtain ⟨a, rfl, hno, R2⟩ := R1.cellN rfl rfl hm
    exact hn _ _ _ _ R2 p (q a hno)) hx
theorem n_cellDm (n : Nat) (hn : c.M.length = n) (h : VE c W m te (.d fun _ => .s) fe) : VE c W m te .s (vCell n fe) := by subst hn; exact v_cellDm h
end
theorem s_gDIn {y : D} {ks : List Key} {l : List D} {b : Bool} {Q : D → Prop} : gDIn b y (.dct ks l) Q = ∃ k, y = kD k ∧ ks.length = l.length ∧ Q (.bl (if b then !hasK ks k else hasK ks k)) := rfl
end VL
set_option Elab.async false
set_option linter.all false
set_option maxRecDepth 100000
set_option maxHeartbeats 2000000
/-! ### for over a cell that stays as it is -/
namespace VL
open PySem PySem.Spec PyProof.Rows L2
section
variable {c : Vc} {W : XW} {rsh : Sh} {te : TE} {fe : VT} {t : TS} {f : VTS} {tg : TG} {vg : VTG} {own : List Nat}
def vForCL (n : Nat) (a : Addr) (ds : List D) (vg : VTG) (f : VTS) (V : VEnds) : List D → Env → Prop
  | [], e => Cell n e a (.lst ds) ∧ V.nx e
  | d :: r, e => Cell n e a (.lst ds) ∧ vg d e fun e1 => f { V with nx := vForCL n a ds vg f V r, ct := vForCL n a ds vg f V r, bk := V.nx } e1
theorem vForCL.cell {n : Nat} {a : Addr} {ds : List D} {V : VEnds} {r : List D} {e : Env} (h : vForCL n a ds vg f V r e) : Cell n e a (.lst ds) := by
  cases r with
  | nil => exact h.1
  | cons d r => exact h.1
def vForC (n : Nat) (fe : VT) (vg : VTG) (f : VTS) : VTS := fun V e => fe e (fun x e1 => ∃ a ds, x = .ref a ∧ vForCL n a ds vg f V ds e1) V.ex
theorem vs_forC (he : VQ c te fe) (hg : VG c tg own vg) (hb : VS c W rsh t f) : VS c W rsh (tFor (iList c.K te) tg t) (vForC c.M.length fe vg f) := fun T σ e H D Dv ⟨fT, fV, hX⟩ hf L => by
  refine he fT fV T σ e H _ _ _ hX hf fun v d r ⟨a, ds, ed, q⟩ => ?_
  subst ed
  have z : v = .ref a := by simpa only [RS] using r
  subst z
  have key : ∀ fT fV σ e H, RX c fT fV T σ e H → Cell c.M.length e a (.lst ds) → ∃ vs, SqL c.K H a vs ∧ RSs c.K (owOf c fT fV) H ds vs := fun fT fV σ e H hX hc => by
    obtain ⟨vs, ha, rs⟩ := hX.cellL hc
    exact ⟨vs, LsR.sq (.inl (.inl ha)), rs⟩
  obtain ⟨vs0, sq0, _⟩ := key fT fV σ e H hX q.cell
  refine ⟨a, rfl, ⟨vs0, sq0⟩, ?_⟩
  refine ⟨fun i k σ' H' => k = ds.length - i ∧ i ≤ ds.length ∧ ∃ e', R c T σ' e' H' ∧ vForCL c.M.length a ds vg f Dv (ds.drop i) e', ⟨ds.length, by simp, Nat.zero_le _, e, ⟨fT, fV, hX⟩, q⟩, ?_⟩
  rintro i k σ2 H2 ⟨rfl, hle, e2, ⟨fT, fV, R2⟩, q2⟩
  obtain ⟨vs, sq, rs⟩ := key fT fV σ2 e2 H2 R2 q2.cell
  by_cases hlt : i < ds.length
  · refine .inr ⟨⟨vs, _, sq, List.getElem?_eq_getElem (by rw [rs.len]; exact hlt)⟩, fun σ' H' => ∃ e', R c T σ' e' H' ∧ vForCL c.M.length a ds vg f Dv (ds.drop (i + 1)) e', fun σ' H' z => ⟨ds.length - (i + 1), by omega, rfl, hlt, z⟩, fun x H3 hy => ?_⟩
    obtain ⟨rfl, hx⟩ := hy
    obtain ⟨vs, sq, rs⟩ := key fT fV σ2 e2 _ R2 q2.cell
    obtain ⟨d, hd, rd⟩ := rs.getV (hx vs sq)
    have ed : ds.drop i = d :: ds.drop (i + 1) := by
      rw [List.drop_eq_getElem_cons hlt]
      rw [List.getElem?_eq_getElem hlt] at hd
      cases hd
      rfl
    rw [ed] at q2
    refine hg T σ2 e2 _ x d _ _ ⟨fT, fV, R2.pushS rd⟩ q2.2 fun σ3 e3 R3 _ q3 => ?_
    have nxt : ∀ σ' e' H', R c T σ' e' H' → vForCL c.M.length a ds vg f Dv (ds.drop (i + 1)) e' → ∃ e', R c T σ' e' H' ∧ vForCL c.M.length a ds vg f Dv (ds.drop (i + 1)) e' := fun σ' e' H' r q => ⟨e', r, q⟩
    exact hb T σ3 e3 _ _ { Dv with nx := vForCL c.M.length a ds vg f Dv (ds.drop (i + 1)), ct := vForCL c.M.length a ds vg f Dv (ds.drop (i + 1)), bk := Dv.nx } R3 q3 ⟨nxt, L.rt, L.nx, nxt, L.ex⟩
  · have e : i = ds.length := by omega
    subst e
    rw [List.drop_length] at q2
    exact .inl ⟨⟨vs, sq, by rw [rs.len]; exact Nat.le_refl _⟩, L.nx σ2 e2 H2 ⟨fT, fV, R2⟩ q2.2⟩
theorem forC_inv {n : Nat} {a : Addr} {ds : List D} {U : VEnds} (I : List D → Env → Prop) (hc : ∀ r e, I r e → Cell n e a (.lst ds)) (h : ∀ d r e, I (d :: r) e → ∀ K : Env → Prop, (∀ e', I r e' → K e') → vg d e fun e1 => f { U with nx := K, ct := K, bk := U.nx } e1) (hd : ∀ e, I [] e → U.nx e) : ∀ (r : List D) (e : Env), I r e → vForCL n a ds vg f U r e
  | [], e, i => ⟨hc _ _ i, hd e i⟩
  | d :: r, e, i => ⟨hc _ _ i, h d r e i _ fun e' i' => forC_inv I hc h hd r e' i'⟩
theorem n_forC (n : Nat) (hn : c.M.length = n) (he : VQ c te fe) (hg : VG c tg own vg) (hb : VS c W rsh t f) : VS c W rsh (tFor (iList c.K te) tg t) (vForC n fe vg f) := by subst hn; exact vs_forC he hg hb
end
end VL
set_option Elab.async false
set_option linter.all false
set_option maxRecDepth 100000
set_option maxHeartbeats 2000000
/-! ### for over enumerate of a cell that stays as it is -/
namespace VL
open PySem PySem.Spec PyProof.Rows L2
section
variable {c : Vc} {W : XW} {rsh : Sh} {tA : TA} {fA : VTA} {t : TS} {f : VTS} {tg : TG} {vg : VTG} {own : List Nat}
def enD (ds : List D) : List D := ds.mapIdx fun i d => .tup [.int (i : Nat), d]
theorem enD_len (ds : List D) : (enD ds).length = ds.length := by simp [enD]
def vForE (n : Nat) (fA : VTA) (vg : VTG) (f : VTS) : VTS := fun V e => fA e (fun x e1 => ∃ a ds, x = [.ref a] ∧ vForCL n a ds vg f V (enD ds) e1) V.ex
theorem vs_forE (hA : VA c W .e tA fA) (hg : VG c tg own vg) (hb : VS c W rsh t f) : VS c W rsh (tFor (iEnum c.K tA) tg t) (vForE c.M.length fA vg f) := fun T σ e0 H0 D Dv hR hf L =>
  hA T σ e0 H0 _ _ Dv.ex hR hf (fun fT fV vs ds1 e H X1 rs1 _ ⟨a, ds, hl, q⟩ => by
    subst hl
    simp only [RSs] at rs1
    obtain ⟨v, r0, rfl, r, rfl⟩ := rs1
    have z : v = .ref a := by simpa only [RS] using r
    subst z
    have key : ∀ fT fV σ e H, RX c fT fV T σ e H → Cell c.M.length e a (.lst ds) → ∃ vs, SqL c.K H a vs ∧ RSs c.K (owOf c fT fV) H ds vs := fun fT fV σ e H hX hc => by
      obtain ⟨vs, ha, rs⟩ := hX.cellL hc
      exact ⟨vs, LsR.sq (.inl (.inl ha)), rs⟩
    obtain ⟨vs0, sq0, _⟩ := key fT fV σ e H X1 q.cell
    have el := enD_len ds
    refine ⟨a, vs0, rfl, sq0, ?_⟩
    refine ⟨fun i k σ' H' => k = ds.length - i ∧ i ≤ ds.length ∧ ∃ e', R c T σ' e' H' ∧ vForCL c.M.length a ds vg f Dv ((enD ds).drop i) e', ⟨ds.length, by simp, Nat.zero_le _, e, ⟨fT, fV, X1⟩, q⟩, ?_⟩
    rintro i k σ2 H2 ⟨rfl, hle, e2, ⟨fT, fV, R2⟩, q2⟩
    obtain ⟨vs, sq, rs⟩ := key fT fV σ2 e2 H2 R2 q2.cell
    by_cases hlt : i < ds.length
    · refine .inr ⟨⟨vs, _, sq, List.getElem?_eq_getElem (by rw [rs.len]; exact hlt)⟩, fun σ' H' => ∃ e', R c T σ' e' H' ∧ vForCL c.M.length a ds vg f Dv ((enD ds).drop (i + 1)) e', fun σ' H' z => ⟨ds.length - (i + 1), by omega, rfl, hlt, z⟩, fun x H3 hy => ?_⟩
      obtain ⟨T', y, rfl, hT, rfl, hx⟩ := hy
      obtain ⟨d, hd, rd⟩ := rs.getV (hx vs sq)
      have hd2 : (enD ds)[i]? = some (.tup [.int (i : Nat), d]) := by unfold enD; rw [List.getElem?_mapIdx, hd]; rfl
      have ed : (enD ds).drop i = .tup [.int (i : Nat), d] :: (enD ds).drop (i + 1) := by
        rw [List.drop_eq_getElem_cons (by omega)]
        rw [List.getElem?_eq_getElem (by omega)] at hd2
        rw [Option.some.inj hd2]
      rw [ed] at q2
      refine hg T σ2 e2 _ _ (.tup [.int (i : Nat), d]) _ _ ⟨fT, fV, (R2.same (same_new hT)).pushS ?_⟩ q2.2 fun σ3 e3 R3 _ q3 => ?_
      · simp only [RS]
        exact ⟨T', _, rfl, SqT.of upd_same, .cons rs_int (.cons (RS.fr (Fr.same (same_new hT)) (fun _ z => .inl z) _ _ rd) .nil)⟩
      have nxt : ∀ σ' e' H', R c T σ' e' H' → vForCL c.M.length a ds vg f Dv ((enD ds).drop (i + 1)) e' → ∃ e', R c T σ' e' H' ∧ vForCL c.M.length a ds vg f Dv ((enD ds).drop (i + 1)) e' := fun σ' e' H' r q => ⟨e', r, q⟩
      exact hb T σ3 e3 _ _ { Dv with nx := vForCL c.M.length a ds vg f Dv ((enD ds).drop (i + 1)), ct := vForCL c.M.length a ds vg f Dv ((enD ds).drop (i + 1)), bk := Dv.nx } R3 q3 ⟨nxt, L.rt, L.nx, nxt, L.ex⟩
    · have e : i = ds.length := by omega
      rw [List.drop_of_length_le (by omega)] at q2
      exact .inl ⟨⟨vs, sq, by rw [rs.len]; omega⟩, L.nx σ2 e2 H2 ⟨fT, fV, R2⟩ q2.2⟩) fun x d e' H' r y q => L.ex x d σ e' H' r y q
theorem n_forE (n : Nat) (hn : c.M.length = n) (hA : VA c W .e tA fA) (hg : VG c tg own vg) (hb : VS c W rsh t f) : VS c W rsh (tFor (iEnum c.K tA) tg t) (vForE n fA vg f) := by subst hn; exact vs_forE hA hg hb
end
end VL
set_option Elab.async false
set_option linter.all false
set_option maxRecDepth 100000
set_option maxHeartbeats 2000000
/-! ### isinstance, where lists may come, too; != of None -/
namespace VL
open PySem PySem.Spec PyProof.Rows L2
section
variable {c : Vc} {W : XW} {m : Md} {te : TE} {fe : VT}
def tyL : D → Option String
  | .lst _ => some "list"
  | d => tyN d
theorem tyX_ofL {K : PySem.W.Frag} {ow : Addr → Prop} {H : Hp} {d : D} {v : V} {t : String} (r : RB K ow H d v) (h : tyL d = some t) : TyX K H v (.type t) := by
  cases d with
  | lst l =>
    cases h
    obtain ⟨a, vs, rfl, s, _⟩ := r.lst
    rcases s with (s | ⟨o, s⟩) | ⟨its, n, s, _, _⟩
    · exact .base (.lst s)
    · exact .base (.frz s)
    · exact .kList s rfl
  | _ => exact tyX_of r h
def isiDL (d : D) (T : String) (Q : Bool → Prop) : Prop := ∃ t b, tyL d = some t ∧ kitB t T = some b ∧ Q b
def vIsiL (T : String) (fe : VT) : VT := fun e Q Qx => fe e (fun d e1 => isiDL d T fun b => Q (.bl b) e1) Qx
theorem q_isiL {T : String} (h : VB c te fe) : VQ c (tCB (rIsi c.K) (tCons te (tCons (tC (.ty T)) tNil))) (vIsiL T fe) := fun fT fV T' σ e H Q Qv Qx hR hf hn =>
  h fT fV T' σ e H _ _ Qx hR hf fun v d r ⟨t, b, h1, h2, q⟩ => ⟨v, .ty T, .type t, .type T, b, rfl, .ty T, tyX_ofL r h1, kit_ty h2, hn _ _ rs_bl q⟩
def isiTL (d : D) (T1 T2 : String) (Q : Bool → Prop) : Prop := ∃ t b1 b2, tyL d = some t ∧ kitB t T1 = some b1 ∧ kitB t T2 = some b2 ∧ Q (b1 || b2)
def vIsiTL (T1 T2 : String) (fe : VT) : VT := fun e Q Qx => fe e (fun d e1 => isiTL d T1 T2 fun b => Q (.bl b) e1) Qx
theorem v_isiTL {T1 T2 : String} (h : VE c W m te .s fe) : VE c W m (tCB (rIsiT c.K) (tCons te (tCons (tTup (tCons (tC (.ty T1)) (tCons (tC (.ty T2)) tNil))) tNil))) .s (vIsiTL T1 T2 fe) := fun T' σ e H Q Qv Qx hR hf hn hx =>
  h T' σ e H _ _ Qx hR hf (fun v d e1 H1 ⟨fT, fV, hX⟩ p ⟨t, b1, b2, h1, h2, h3, q⟩ => by
    obtain ⟨r, hX⟩ := hX.topS
    refine ⟨by show 2 ≤ sizeLine; decide, fun a ha => ?_⟩
    have s : Same H1 (L2.upd H1 a (.tup [.ty T1, .ty T2])) := same_new ha
    refine ⟨v, a, [.ty T1, .ty T2], .type t, [.type T1, .type T2], (b1 || b2), rfl, upd_same, .cons (.ty T1) (.cons (.ty T2) .nil), tyX_ofL (RS.fr (Fr.same s) (fun _ z => .inl z) _ _ r).b h1, ?_, hn _ _ e1 _ ⟨fT, fV, (hX.same s).pushS rs_bl⟩ (p.trans (Post.same s)) q⟩
    refine kitAny_cons (kit_ty h2) (fun e => ?_) (fun e => by rw [e]; rfl)
    rw [e]
    exact kitAny_cons (kit_ty h3) (fun e => by rw [e]; rfl) (fun e => by rw [e]; rfl)) hx
/-! ### one's own list lent to a def that gives back a scalar -/
def vLend (i j : Nat) (sp : VSp) : VT := fun e Q _ => ∃ l d, e[i]? = some (some (.lst l)) ∧ e[j]? = some (some d) ∧ sp [.lst l, d] (fun r _ => isSc r = true ∧ Q r e) (fun _ _ => False)
theorem v_lend {i j : Nat} {sp : VSp} {E : XK} (hM : c.M[i]? = some (.l .s)) (hj : c.M[j]? = some .s) : VE c W .e (tCall (spOf c.K [.s, .s] .s sp) [] E (tCons (tVar i) (tCons (tVar j) tNil))) .s (vLend i j sp) := fun T σ e H Q Qv Qx ⟨fT, fV, X⟩ ⟨l, d, hl, hd, q⟩ hn hx => by
  obtain ⟨v, fp, hv, r, _⟩ := X.upd hM hl
  obtain ⟨vj, hvj, rj⟩ := X.var hj hd
  obtain ⟨a, vs, rfl, s, rs⟩ := r.bl.1.lst
  refine ⟨_, hv, _, hvj, ?_⟩
  have sub : ∀ b, ((b ∈ fT ++ fV ∨ c.av b) ∧ b ≠ a) → owOf c fT fV b := fun b z => z.1
  have r1 : RS c.K (fun b => b ∈ ([] : List Addr) ++ [] ∨ ((b ∈ fT ++ fV ∨ c.av b) ∧ b ≠ a)) H (.lst l) (.ref a) := by
    simp only [RS]
    refine ⟨a, vs, rfl, ?_, RSs.fr (Fr.same (fun _ _ q => q)) (fun b z => .inl (z.elim (fun y => by cases y) fun y => y.1)) _ _ rs⟩
    rcases s with s | s
    · exact .inl ⟨s, fun z => z.elim (fun y => by cases y) fun y => y.2 rfl⟩
    · exact .inr s
  have r2 : RS c.K (fun b => b ∈ ([] : List Addr) ++ [] ∨ ((b ∈ fT ++ fV ∨ c.av b) ∧ b ≠ a)) H d vj := RS.fr (Fr.same (fun _ _ q => q)) (fun b z => .inl (z.elim (fun y => by cases y) fun y => y.1)) _ _ rj
  refine ⟨⟨c.K, H, fun _ => False, fun b => (b ∈ fT ++ fV ∨ c.av b) ∧ b ≠ a, [.s, .s], roots [.s, .s] 0 [.ref a, vj]⟩, [.lst l, d], fun r _ => isSc r = true ∧ Qv r e, fun _ _ => False, rfl, rfl, rfl, rfl, ⟨rfl, [], [], rfl, .of ?_, List.nodup_nil, fun a z => (by cases z), fun b o q _ => q, ExtT.refl H, fun b q => q, fun b z => ⟨?_, fun y => y⟩, fun p hp => ?_⟩, q, ?_, fun x d ps H' _ _ _ z => z.elim⟩
  · exact ⟨_, _, _, _, [], [], rfl, rfl, rfl, ⟨_, rfl, RO_s.mpr ⟨rfl, r1⟩⟩, _, _, _, _, [], [], rfl, rfl, rfl, ⟨_, rfl, RO_s.mpr ⟨rfl, r2⟩⟩, rfl, rfl, rfl⟩
  · rcases z.1 with z | z
    · obtain ⟨o, w, _⟩ := X.at b z
      show H b ≠ none
      rw [w]
      simp
    · exact X.avn z
  · obtain ⟨j, a, b⟩ := roots_at _ _ _ p hp
    rw [Nat.zero_add] at a
    rw [a, List.getElem?_map, List.append_nil, b]
    rfl
  · rintro v r ps H' lps ⟨kT, kV, Y⟩ ⟨sc, q⟩
    have sm : Same H H' := fun b o z => Y.kp b o z (fun y => y)
    obtain ⟨f1, f2, e2, r1, r2⟩ := Y.tm
    have ev : v = scV r := (RO_s.mp r1).2.b.sc sc
    subst ev
    exact hn _ r e H' ⟨fT, fV, (X.same sm).pushS (rs_sc sc)⟩ (Post.same sm) q
end
/-! ### is True, is not True: both sides true or false -/
section
variable {X : Cx}
theorem op_isB : OpR X (compareOp .Is) (fun x y H Q => ∃ a b, x = .bl a ∧ y = .bl b ∧ Q (.bl (decide (a = b))) H) := by
  intro pins s σ H x y v u Q I rx ry h
  obtain ⟨a, b, rfl, rfl, q⟩ := h
  cases rx
  cases ry
  exact wpAny_pure (fin_bl I q (by cases a <;> cases b <;> rfl))
theorem op_notB : OpR X (compareOp .IsNot) (fun x y H Q => ∃ a b, x = .bl a ∧ y = .bl b ∧ Q (.bl (!decide (a = b))) H) := by
  intro pins s σ H x y v u Q I rx ry h
  obtain ⟨a, b, rfl, rfl, q⟩ := h
  cases rx
  cases ry
  exact wpAny_pure (fin_bl I q (by cases a <;> cases b <;> rfl))
def gIsB : G2
  | .bl a, .bl b, Q => Q (.bl (decide (a = b)))
  | _, _, _ => False
def gNotB : G2
  | .bl a, .bl b, Q => Q (.bl (!decide (a = b)))
  | _, _, _ => False
theorem od_isB {K : PySem.W.Frag} : OpD K (fun x y H Q => ∃ a b, x = .bl a ∧ y = .bl b ∧ Q (.bl (decide (a = b))) H) gIsB := fun ow H x y dx dy Q Qd rx ry hg hn => by
  cases dx <;> first | exact hg.elim | skip
  cases dy <;> first | exact hg.elim | skip
  exact ⟨_, _, rx.bl, ry.bl, hn _ _ rs_bl hg⟩
theorem od_notB {K : PySem.W.Frag} : OpD K (fun x y H Q => ∃ a b, x = .bl a ∧ y = .bl b ∧ Q (.bl (!decide (a = b))) H) gNotB := fun ow H x y dx dy Q Qd rx ry hg hn => by
  cases dx <;> first | exact hg.elim | skip
  cases dy <;> first | exact hg.elim | skip
  exact ⟨_, _, rx.bl, ry.bl, hn _ _ rs_bl hg⟩
end
theorem s_gIsB {a b : Bool} {Q : D → Prop} : gIsB (.bl a) (.bl b) Q = Q (.bl (decide (a = b))) := rfl
theorem s_gNotB {a b : Bool} {Q : D → Prop} : gNotB (.bl a) (.bl b) Q = Q (.bl (!decide (a = b))) := rfl
theorem s_gNeN {Q : D → Prop} : gNe .non .non Q = Q (.bl false) := by
  unfold gNe
  simp only [show scalD .non .non = true by decide, true_and]
  rfl
end VL
set_option Elab.async false
set_option linter.all false
set_option maxRecDepth 100000
set_option maxHeartbeats 4000000
/-! sets of texts, sets of ints: set(list), sorted(set) -/
namespace Fb
open PySem PySem.Spec PyProof.Rows L2
/-- how a key lies as a value -/
structure Lies {P : Program} {w : World} {κ : Type} [DecidableEq κ] (kd : PySem.KeyKind P w κ) (mk : κ → Tok → Value) (kf : Value → κ) : Prop where
  own : ∀ k t, kd.is k (mk k t) = true
  scn : ∀ k t, (mk k t).scannable = true
  back : ∀ k t, kf (mk k t) = k
section
variable {P : Program} {w : World} {κ : Type} [DecidableEq κ] {kd : PySem.KeyKind P w κ} {mk : κ → Tok → Value} {kf : Value → κ}
theorem Lies.iff (z : Lies kd mk kf) (k k0 : κ) (t : Tok) : kd.is k (mk k0 t) = true ↔ k = k0 := by
  rw [KeyKind.is_eq_decide (z.own k0 t), decide_eq_true_eq]
def StrV : Value → Str
  | .str x _ => x
  | _ => Str.empty
def IntV : Value → Int
  | .int x _ => x
  | _ => 0
theorem lies_str (P : Program) (w : World) : Lies (PySem.strKind P w) Value.str StrV := ⟨fun k t => strKind_is _ _ _ _, fun _ _ => rfl, fun _ _ => rfl⟩
theorem lies_int (P : Program) (w : World) : Lies (PySem.intKind P w) Value.int IntV := ⟨fun k t => intKind_is _ _ _ _, fun _ _ => rfl, fun _ _ => rfl⟩
/-- the rows of a set whose members are ks -/
inductive RowsAre (kd : PySem.KeyKind P w κ) (mk : κ → Tok → Value) : List (Int × Value) → List κ → Prop
  | nil : RowsAre kd mk [] []
  | cons {a : Int × Value} {b : κ} {l : List (Int × Value)} {m : List κ} : (a.1 = kd.hash b ∧ ∃ t, a.2 = mk b t) → RowsAre kd mk l m → RowsAre kd mk (a :: l) (b :: m)
theorem RowsAre.length_eq : ∀ {l : List (Int × Value)} {m : List κ}, RowsAre kd mk l m → l.length = m.length
  | _, _, .nil => rfl
  | _, _, .cons _ r => by rw [List.length_cons, List.length_cons, r.length_eq]
/-- a set at a: its members, each once, in some order -/
def Holds (kd : PySem.KeyKind P w κ) (mk : κ → Tok → Value) (h : Heap) (a : Addr) (ks : List κ) : Prop :=
  ks.Nodup ∧ ∃ o rows ep tb L, h.get? a = some o ∧ o.ExactSet ∧ o.data = .set rows ep tb ∧ rows.toList.Perm L ∧ RowsAre kd mk L ks ∧ ks.length < scanBound ∧ tb.fits rows.size = true ∧ Ris tb.place.toList ∧ (w.params.followText "set-order" = true ∨ tb.led = true)
theorem Holds.up {h h' : Heap} {a : Addr} {ks : List κ} (R : Holds kd mk h a ks) (k : ∀ o, h.get? a = some o → h'.get? a = some o) : Holds kd mk h' a ks := by
  obtain ⟨nd, o, rows, ep, tb, L, ho, rest⟩ := R
  exact ⟨nd, o, rows, ep, tb, L, k o ho, rest⟩
theorem RowsAre.elems (z : Lies kd mk kf) : ∀ {rows : List (Int × Value)} {ks : List κ}, RowsAre kd mk rows ks → ElemsOf kd rows
  | _, _, .nil => fun e he => by cases he
  | _, _, .cons ⟨e1, t, e2⟩ r => fun e he => by
    rcases List.mem_cons.mp he with rfl | he
    · exact ⟨⟨_, by rw [e2]; exact z.own _ _, e1⟩, by rw [e2]; exact z.scn _ _⟩
    · exact RowsAre.elems z r e he
theorem RowsAre.keys (z : Lies kd mk kf) : ∀ {rows : List (Int × Value)} {ks : List κ}, RowsAre kd mk rows ks → ∀ k, (∃ e ∈ rows, kd.is k e.2 = true) ↔ k ∈ ks
  | _, _, .nil, k => by simp
  | _, _, .cons (a := e0) (b := k0) ⟨_, t, e2⟩ r, k => by
    have ih := RowsAre.keys z r k
    rw [List.mem_cons, ← ih, ← z.iff k k0 t, ← e2]
    constructor
    · rintro ⟨e, he, q⟩
      rcases List.mem_cons.mp he with rfl | he
      · exact .inl q
      · exact .inr ⟨e, he, q⟩
    · rintro (q | ⟨e, he, q⟩)
      · exact ⟨_, List.mem_cons_self, q⟩
      · exact ⟨e, List.mem_cons_of_mem _ he, q⟩
theorem RowsAre.vals (z : Lies kd mk kf) : ∀ {rows : List (Int × Value)} {ks : List κ}, RowsAre kd mk rows ks → rows.map (fun r => kf r.2) = ks ∧ ∀ e ∈ rows, ∃ k t, e.2 = mk k t
  | _, _, .nil => ⟨rfl, fun e he => by cases he⟩
  | _, _, .cons (b := k0) ⟨_, t, e2⟩ r => by
    obtain ⟨a, b⟩ := RowsAre.vals z r
    refine ⟨by rw [List.map_cons, a, e2, z.back], fun e he => ?_⟩
    rcases List.mem_cons.mp he with rfl | he
    · exact ⟨_, t, e2⟩
    · exact b e he
theorem elems_perm {l m : List (Int × Value)} (h : ElemsOf kd l) (p : m.Perm l) : ElemsOf kd m := fun e he => h e (p.mem_iff.mp he)
variable {A : Around} {E : Value → Shared → Prop} {s : Shared} {a : Addr} {ks : List κ}
/-- the rows stored, and laid anew where the table is too full -/
theorem stored {gv : Bool → Sem Unit} (hgv : ∀ (b : Bool) (s1 : Shared) (R : Unit → Shared → Prop), R () s1 → wpAny (model P w) A (gv b) R E s1)
    {o : Obj} {rows : Array (Int × Value)} {ep : Nat} {tb : SetTable} (ho : s.heap.get? a = some o) (hex : o.ExactSet) (hd : o.data = .set rows ep tb) {new : Array (Int × Value)} {tn : SetTable} {L : List (Int × Value)} (pm : new.toList.Perm L) (ra : RowsAre kd mk L ks) (nd : ks.Nodup)
    (few : ks.length < scanBound) (fit : tn.fits new.size = true) (ris : Ris tn.place.toList) (led : w.params.followText "set-order" = true ∨ tn.led = true) {dum : Bool} {R : Option Bool → Shared → Prop} (hR : ∀ h', Heap.SameBut a s.heap h' → Holds kd mk h' a ks → R (some true) { s with heap := h' }) :
    wpAny (model P w) A (do
        storeSet a new tn
        if (!dum && tn.tooFull) = true then do
            gv (relayAll tn new (SetTable.grown new.size)).2.2
            storeSet a (relayAll tn new (SetTable.grown new.size)).1 (relayAll tn new (SetTable.grown new.size)).2.1
            pure (some true)
          else pure (some true)) R E s := by
  have len : new.size = ks.length := by rw [← Array.length_toList, pm.length_eq]; exact ra.length_eq
  have few1 : new.size < scanBound := by rw [len]; exact few
  refine wpAny_bind (wpAny_storeSet_of ho hd ?_ (fits_of_scanBound few1))
  have at1 := store_at (es' := new) (t' := tn) ho hd
  have same1 := Heap.SameBut.update s.heap a (Obj.putSet new tn)
  by_cases full : (!dum && tn.tooFull) = true
  · rw [if_pos full]
    obtain ⟨⟨rows2, tb2, gave⟩, eZ⟩ : ∃ Z, relayAll tn new (SetTable.grown new.size) = Z := ⟨_, rfl⟩
    have p2 := relayAll_perm tn new (SetTable.grown new.size)
    have f2 := relayAll_fits tn new (SetTable.grown new.size)
    have r2 := relayAll_ris tn new (SetTable.grown new.size)
    have l2 := relayAll_led tn new (SetTable.grown new.size)
    rw [eZ] at p2 f2 r2 l2 ⊢
    simp only at p2 f2 r2 l2 ⊢
    have len2 : rows2.size = ks.length := by rw [← Array.length_toList, p2.length_eq, Array.length_toList, len]
    refine wpAny_bind (hgv _ _ _ (wpAny_bind (wpAny_storeSet_of at1 rfl ?_ (fits_of_scanBound (by rw [len2]; exact few)))))
    refine wpAny_pure (hR _ (same1.trans (Heap.SameBut.update _ a _)) ⟨nd, _, rows2, _, tb2, L, store_at (es' := rows2) (t' := tb2) at1 rfl, hex, rfl, p2.trans pm, ra, few, f2, r2, ?_⟩)
    rw [l2]
    exact led
  · rw [if_neg full]
    exact wpAny_pure (hR _ same1 ⟨nd, _, new, _, tn, L, at1, hex, rfl, pm, ra, few, fit, ris, led⟩)
/-- one more key -/
theorem add1 (z : Lies kd mk kf) {k : κ} {t : Tok} {Q : Bool → Shared → Prop} (R : Holds kd mk s.heap a ks) (few : ks.length + 1 < scanBound) (q1 : k ∈ ks → Q false s) (q2 : k ∉ ks → ∀ h', Heap.SameBut a s.heap h' → Holds kd mk h' a (k :: ks) → Q true { s with heap := h' }) :
    wpAny (model P w) A (setAddHashed a (mk k t) (kd.hash k)) Q E s := by
  obtain ⟨nd, o, rows, ep, tb, L, ho, hex, hd, pm, ra, few0, fit, ris, led⟩ := R
  have elm : ElemsOf kd rows.toList := elems_perm (ra.elems z) pm
  have len : rows.size = ks.length := by rw [← Array.length_toList, pm.length_eq]; exact ra.length_eq
  have few1 : rows.size < scanBound := by rw [len]; exact few0
  have gv : ∀ (b : Bool) (s1 : Shared) (R : Unit → Shared → Prop), R () s1 → wpAny (model P w) A (match b with | true => rule "set.scan.the-table-gave-way" | false => pure ()) R E s1 := fun b s1 R q => by
    cases b
    · exact wpAny_pure q
    · exact wpAny_rule q
  unfold setAddHashed setAddHashedIn
  refine wpAny_holding (wpAny_bind (wpAny_setState_of ho hd fit ?_))
  dsimp only
  rw [byScan_of (z.scn k t) few1 elm, if_pos rfl]
  unfold setAddByScan
  refine wpAny_bind (wpAny_bind (wpAny_rule (wpAny_bind (wpAny_setScan_of (z.own k t) ho hd fit elm ?_))))
  cases fi : rows.toList.findIdx? (fun e => kd.is k e.2) with
  | some j =>
    dsimp only
    obtain ⟨hj, pj, _⟩ := List.findIdx?_eq_some_iff_getElem.mp fi
    exact wpAny_pure (wpAny_pure (q1 ((ra.keys z k).mp ⟨rows.toList[j], pm.mem_iff.mp (List.getElem_mem hj), pj⟩)))
  | none =>
    dsimp only
    have out : k ∉ ks := fun hk => by
      obtain ⟨e, he, q⟩ := (ra.keys z k).mpr hk
      have := List.findIdx?_eq_none_iff.mp fi e (pm.mem_iff.mpr he)
      rw [q] at this
      cases this
    obtain ⟨⟨rows1, tb1, dum, gave⟩, eZ⟩ : ∃ Z, layNew tb rows (kd.hash k) (mk k t) = Z := ⟨_, rfl⟩
    have p1 := layNew_perm tb rows (kd.hash k) (mk k t)
    have f1 := layNew_fits tb rows (kd.hash k) (mk k t)
    have r1 := layNew_ris tb rows (kd.hash k) (mk k t) ris
    have l1 := layNew_led tb rows (kd.hash k) (mk k t)
    rw [eZ] at p1 f1 r1 l1 ⊢
    simp only at p1 f1 r1 l1 ⊢
    rw [Array.toList_push] at p1
    have pL : rows1.toList.Perm ((kd.hash k, mk k t) :: L) := (p1.trans (List.perm_append_singleton _ _)).trans (pm.cons _)
    have raL : RowsAre kd mk ((kd.hash k, mk k t) :: L) (k :: ks) := .cons ⟨rfl, t, rfl⟩ ra
    have led1 : w.params.followText "set-order" = true ∨ tb1.led = true := by rw [l1]; exact led
    refine wpAny_bind (gv _ _ _ ?_)
    have fin : ∀ h', Heap.SameBut a s.heap h' → Holds kd mk h' a (k :: ks) → wpAny (model P w) A (match some true with | some x => pure x | none => setAddHashedIn a (mk k t) (kd.hash k) 99999) Q E { s with heap := h' } := fun h' sb H => wpAny_pure (q2 out h' sb H)
    by_cases pl : tb1.plain = true
    · rw [if_pos pl, hashByValue_scannable 8 (z.scn k t)]
      refine wpAny_bind (wpAny_pure ?_)
      refine stored gv ho hex hd pL raL (List.nodup_cons.mpr ⟨out, nd⟩) few ?_ ?_ ?_ fin
      · by_cases pk : plainKind (mk k t) = true
        · rw [if_pos pk]; exact f1
        · rw [if_neg pk]; exact SetTable.fits_plain_off f1
      · by_cases pk : plainKind (mk k t) = true
        · rw [if_pos pk]; exact r1
        · rw [if_neg pk]; exact r1
      · by_cases pk : plainKind (mk k t) = true
        · rw [if_pos pk]; exact led1
        · rw [if_neg pk]; exact led1
    · rw [if_neg pl]
      refine wpAny_bind (wpAny_pure ?_)
      rw [if_pos rfl]
      exact stored gv ho hex hd pL raL (List.nodup_cons.mpr ⟨out, nd⟩) few f1 r1 led1 fin
theorem nodup_le : ∀ {ks dom : List κ}, ks.Nodup → (∀ k ∈ ks, k ∈ dom) → ks.length ≤ dom.length
  | [], dom, _, _ => Nat.zero_le _
  | k :: ks, dom, nd, h => by
    obtain ⟨n1, n2⟩ := List.nodup_cons.mp nd
    have hk := h k List.mem_cons_self
    have := nodup_le (ks := ks) (dom := dom.erase k) n2 fun x hx => (List.mem_erase_of_ne (fun e => n1 (by rw [← e]; exact hx))).mpr (h x (List.mem_cons_of_mem _ hx))
    have e := List.length_erase_of_mem hk
    have := List.length_pos_of_mem hk
    rw [List.length_cons]
    omega
/-- the walk that fills a set -/
theorem fill (z : Lies kd mk kf) {I : Addr} {fp wr : List Addr} {G : Array GenState → Array GenState → Prop} {n : Nat} {Pv : Nat → Value → Prop} {St : Nat → Shared → Prop} {R : Result → Shared → Prop} (W : WalksS P w A.in1 I fp wr G n Pv St) {S : Addr} (off : S ∉ fp) (xs dom : List κ) (hn : n = xs.length) (sub : ∀ k ∈ xs, k ∈ dom) (few : dom.length + 1 < scanBound)
    (item : ∀ i v, Pv i v → ∃ k t, xs[i]? = some k ∧ v = mk k t) (hR : ∀ s' ks, Holds kd mk s'.heap S ks → (∀ k, k ∈ ks ↔ k ∈ xs) → ∀ s0, Moved (S :: wr) G s0 s' → s0 = s → R (.ok (.ret .none)) s') :
    ∀ (left i : Nat) (s1 : Shared), n - i = left → i ≤ n → St i s1 → (i = 0 → s1 = s) → (0 < i → Moved (S :: wr) G s s1) → (∃ ks, Holds kd mk s1.heap S ks ∧ (∀ k, k ∈ ks ↔ k ∈ xs.take i)) → codeAny (model P w) A (.builtin "set.update.loop" ⟨[.ref S, .ref I], []⟩) R s1 := by
  have offw : S ∉ wr := fun h => off (W.sub _ h)
  have more : ∀ b ∈ wr, b ∈ S :: wr := fun b hb => List.mem_cons_of_mem _ hb
  have gone : ∀ {i : Nat} {s1 s2 : Shared}, (i = 0 → s1 = s) → (0 < i → Moved (S :: wr) G s s1) → Moved (S :: wr) G s1 s2 → Moved (S :: wr) G s s2 := fun {i s1 s2} h0 h1 m => by
    rcases Nat.eq_zero_or_pos i with e | e
    · rw [← h0 e]; exact m
    · exact Moved.trans W.gtrans (h1 e) m
  intro left
  induction left with
  | zero =>
    rintro i s1 hl hi st h0 h1 ⟨ks, H, hk⟩
    obtain rfl : i = n := by omega
    refine codeAny_builtin F.entry_set_update_loop ?_
    rw [Around.under_plainId F.plain_set_update_loop _]
    show wpAny _ A.in1 (pyNext (.ref I) >>= _) _ _ s1
    refine wpAny_bind (W.done s1 _ _ st fun s2 m => ?_)
    refine wpAny_pure (hR s2 ks (H.up fun o e => m.heap S o offw e) (fun k => ?_) s (gone h0 h1 (m.mono more)) rfl)
    rw [hk, List.take_of_length_le (by omega)]
  | succ left ih =>
    rintro i s1 hl hi st h0 h1 ⟨ks, H, hk⟩
    have hc : ks.length ≤ dom.length := nodup_le H.1 fun k h => sub k (List.mem_of_mem_take ((hk k).mp h))
    have lt : i < n := by omega
    refine codeAny_builtin F.entry_set_update_loop ?_
    rw [Around.under_plainId F.plain_set_update_loop _]
    show wpAny _ A.in1 (pyNext (.ref I) >>= _) _ _ s1
    refine wpAny_bind (W.item i s1 _ _ lt st fun v s2 pv st2 m => ?_)
    obtain ⟨k, t, hx, rfl⟩ := item i v pv
    have H2 : Holds kd mk s2.heap S ks := H.up fun o e => m.heap S o offw e
    have tk : xs.take (i + 1) = xs.take i ++ [k] := by rw [List.take_add_one, hx]; rfl
    show wpAny _ A.in1 (holding [mk k t] (setAdd S (mk k t)) >>= _) _ _ s2
    refine wpAny_bind (wpAny_holding ?_)
    unfold setAdd
    refine wpAny_holding (wpAny_bind (kd.pyHash (k := k) (z.own k t) ?_))
    refine add1 (s := { s2 with toks := s2.toks + 1 }) z H2 (by omega) (fun hin => ?_) (fun hout h' sb H3 => ?_)
    · have m2 : Moved (S :: wr) G s1 { s2 with toks := s2.toks + 1 } := (m.mono more).then_heap (h' := s2.heap) (Nat.le_succ _) fun b o hb e => e
      refine wpAny_pure ⟨plainId_quiet F.plain_set_update_loop _, ih (i + 1) _ (by omega) lt (W.frame _ s2 _ _ st2 (Nat.le_succ _) fun b hb o e => e) (by omega) (fun _ => gone h0 h1 m2) ⟨ks, H2, fun j => ?_⟩⟩
      rw [tk, List.mem_append, List.mem_singleton, hk j]
      exact ⟨.inl, fun q => q.elim id fun e => by rw [e]; exact (hk k).mp hin⟩
    · have m2 : Moved (S :: wr) G s1 { s2 with heap := h', toks := s2.toks + 1 } := (m.mono more).then_heap (Nat.le_succ _) fun b o hb e => by
        rw [sb.2 b (fun h => hb (by rw [h]; exact List.mem_cons_self))]; exact e
      refine wpAny_pure ⟨plainId_quiet F.plain_set_update_loop _, ih (i + 1) _ (by omega) lt (W.frame _ s2 _ _ st2 (Nat.le_succ _) fun b hb o e => ?_) (by omega) (fun _ => gone h0 h1 m2) ⟨k :: ks, H3, fun j => ?_⟩⟩
      · rw [sb.2 b (fun h : b = S => off (by rw [← h]; exact hb))]; exact e
      · rw [tk, List.mem_append, List.mem_singleton, List.mem_cons, hk j]
        exact Or.comm
/-- a new set -/
def emptySet (w : World) : Obj := { cls := .type "set", dict := none, data := .set #[] 0 (.fresh 0 0 (!w.params.followText "set-order")) }
theorem holds_empty {h : Heap} {b : Addr} (ho : h.get? b = some (emptySet w)) : Holds kd mk h b [] :=
  ⟨List.nodup_nil, _, #[], 0, _, [], ho, ⟨rfl, rfl, rfl⟩, rfl, List.Perm.refl _, .nil, Nat.lt_of_lt_of_le (Nat.succ_pos 0) (by decide : 1 ≤ scanBound), by rfl, List.Pairwise.nil, by
    show _ ∨ (!w.params.followText "set-order") = true
    cases w.params.followText "set-order" <;> simp⟩
/-- set(list) -/
theorem of_list (z : Lies kd mk kf) {l : Addr} {items : Array Value} (xs dom : List κ) {Q : Value → Shared → Prop} (hh : A.handled = none) (hl : s.heap.IsList l items) (hlen : items.size = xs.length) (hit : ∀ (i : Nat) (v : Value), items[i]? = some v → ∃ k t, xs[i]? = some k ∧ v = mk k t) (sub : ∀ k ∈ xs, k ∈ dom) (few : dom.length + 1 < scanBound)
    (hQ : ∀ (h' : Heap) (tk : Nat) (ks : List κ), Holds kd mk h' s.heap.objs.size ks → (∀ k, k ∈ ks ↔ k ∈ xs) → (∀ b o, s.heap.get? b = some o → h'.get? b = some o) → Q (.ref s.heap.objs.size) { s with heap := h', toks := tk }) :
    wpAny (model P w) A (call (.type "set") [.ref l]) Q E s := by
  obtain ⟨c, tl, mro⟩ := F.called_set.mro
  have f1 := F.called_set.made
  have f2 := F.called_set.sub
  have f3 := F.called_set.notType
  have f4 := F.called_set.canCreate
  have f5 := F.typeCall_set_1 (.ref l)
  refine wpAny_call (codeAny_of_tree ?_)
  show wpAny _ _ (callAny (.type "set") _) _ _ _
  refine wpAny_pure (And.intro (Code.quiet_builtin _ (by decide +kernel)) (codeAny_builtin F.entry_type_call ?_))
  rw [Around.under_plain (weight_type_call_type "set" [.ref l] []) rfl]
  repeat (any_goals (first | assumption | wp_step))
  refine codeAny_mono (code_set_led1 (.ref l) (E := E) (Q₁ := fun u s1 => u = .ref s.heap.objs.size ∧ s1 = { s with heap := s.heap.push (emptySet w) }) ⟨rfl, rfl⟩) fun r s1 hr => ?_
  rcases r with e | fl
  · exact hr
  cases fl with
  | ret u =>
    obtain ⟨rfl, rfl⟩ := hr
    have at0 : (s.heap.push (emptySet w)).get? s.heap.objs.size = some (emptySet w) := Heap.get?_push_size _ rfl
    have ty0 : Shared.TypeIs { s with heap := s.heap.push (emptySet w) } (.ref s.heap.objs.size) "set" := ⟨_, at0, rfl⟩
    have f6 := F.called_set.init.lookup
    have f7 := F.called_set.init.bind (.ref s.heap.objs.size)
    repeat (any_goals (first | assumption | wp_step))
    refine codeAny_mono (codeAny_call_builtin (R := wants (fun r s2 => r = .none ∧ ∃ h' tk ks, s2 = { s with heap := h', toks := tk } ∧ Holds kd mk h' s.heap.objs.size ks ∧ (∀ k, k ∈ ks ↔ k ∈ xs) ∧ ∀ b o, s.heap.get? b = some o → h'.get? b = some o) E) F.called_set.init.plain F.entry_set_init (check_set_init_1 ty0 ?_)) fun r2 s2 hr2 => ?_
    · obtain ⟨⟨oc, od, oda, os⟩, hol, hc, ne, hd⟩ := hl
      simp only at hc hd
      subst hc hd
      have lt : l < s.heap.objs.size := Heap.lt_size hol
      have at1 : (s.heap.push (emptySet w)).get? l = some { cls := .type "list", dict := od, data := .seq items ne, slots := os } := Heap.get?_push_of_some _ hol
      have il : (s.heap.push (emptySet w)).IsList l items := ⟨_, at1, rfl, ne, rfl⟩
      have g1 := F.sub_list_set
      have g2 := F.sub_list_frozenset
      have g3 : (Value.type "list" == Value.type "dict") = false := by decide
      unfold Builtin.«set.__init__» noKeywords Builtin.Frozenset.updateFrom
      generalize e0 : pyIter = it0
      wp_walk
      subst e0
      refine wpAny_pyIter_list il (wpAny_bind (wpAny_runValue ?_))
      have hn : A.in1.in1.in1.handled = none := by simp [hh]
      have sz : (s.heap.push (emptySet w)).objs.size = s.heap.objs.size + 1 := Heap.size_push ..
      have ne1 : l ≠ (s.heap.push (emptySet w)).objs.size := by rw [sz]; exact Nat.ne_of_lt (Nat.lt_succ_of_lt lt)
      have off : s.heap.objs.size ∉ [(s.heap.push (emptySet w)).objs.size, l] := by
        rw [sz]
        simp only [List.mem_cons, List.mem_singleton, List.not_mem_nil, or_false, not_or]
        exact ⟨Nat.ne_of_lt (Nat.lt_succ_self _), Nat.ne_of_gt lt⟩
      have at2 : ((s.heap.push (emptySet w)).push { cls := .type "list_iterator", data := .fields #[.ref l, .int 0 0] }).get? s.heap.objs.size = some (emptySet w) := Heap.get?_push_of_some _ at0
      refine fill z ((Walks.list hn _ l ne1 items).toS) off xs dom hlen sub few hit ?_ items.size 0 _ (by omega) (Nat.zero_le _) ⟨⟨_, Heap.get?_push_size _ rfl, rfl, rfl⟩, il.push _⟩ (fun _ => rfl) (fun h => absurd h (Nat.lt_irrefl 0)) ⟨[], holds_empty at2, fun k => by simp⟩
      intro s3 ks H hk s0 m e
      subst e
      obtain ⟨h3, gn, dr, tk, os3⟩ := s3
      have e1 : gn = s.gens := m.gens
      have e2 : dr = s.drawn := m.drawn
      have e3 : os3 = s.os := m.os
      subst e1 e2 e3
      show wpAny _ _ _ _ _ _
      refine wpAny_pure ?_
      show wpAny _ _ (ret Value.none) _ _ _
      refine wpAny_pure ⟨rfl, h3, tk, ks, rfl, H, hk, fun b o q => m.heap b o ?_ (Heap.get?_push_of_some _ (Heap.get?_push_of_some _ q))⟩
      have := Heap.lt_size q
      simp only [List.mem_cons, List.mem_singleton, List.not_mem_nil, or_false, not_or]
      exact ⟨Nat.ne_of_lt this, by rw [sz]; exact Nat.ne_of_lt (Nat.lt_succ_of_lt this)⟩
    · rcases r2 with e | fl
      · exact hr2
      cases fl with
      | ret u =>
        obtain ⟨rfl, h', tk, ks, rfl, H, hk, keep⟩ := hr2
        repeat (any_goals (first | assumption | wp_step))
        exact hQ _ _ _ H hk keep
      | _ => exact hr2.elim
  | _ => exact hr.elim
end
end Fb
set_option Elab.async false
set_option linter.all false
set_option maxRecDepth 100000
set_option maxHeartbeats 4000000
/-! sorted(set) of texts and of ints, in the hand layer -/
namespace Fb
open PySem PySem.Spec PyProof.Rows L2
section
variable {P : Program} {w : World} {κ : Type} [DecidableEq κ] {kd : PySem.KeyKind P w κ} {mk : κ → Tok → Value} {kf : Value → κ} {A : Around} {E : Value → Shared → Prop} {s : Shared} {a : Addr} {ks : List κ}
/-- what list.sort does with such values -/
def Sorts (P : Program) (w : World) (mk : κ → Tok → Value) (kf : Value → κ) (VI : List Value → List κ → Prop) (up : List κ → Prop) : Prop :=
  ∀ (A : Around) (E : Value → Shared → Prop) (s : Shared) (b : Addr) (vs : List Value) (R : Fin → Shared → Prop), s.heap.get? b = some (seqObj "list" vs.toArray 0) → (∀ v ∈ vs, ∃ k t, v = mk k t) → vs.length ≤ sizeLine →
    (∀ (out : Array Value) (ys : List κ), VI out.toList ys → ys.Perm (vs.map kf) → up ys → R (.done (.ret .none)) { s with heap := sortedHeap s.heap b vs out }) → wpAny (model P w) A (Builtin.«list.sort» ⟨[.ref b], []⟩) R E s
theorem strs_are : ∀ (vs : List Value), (∀ v ∈ vs, ∃ k t, v = Value.str k t) → StrsAre vs (vs.map StrV)
  | [], _ => .nil
  | v :: vs, h => by
    obtain ⟨k, t, rfl⟩ := h v List.mem_cons_self
    exact .cons k t (strs_are vs fun u hu => h u (List.mem_cons_of_mem _ hu))
theorem ints_are : ∀ (vs : List Value), (∀ v ∈ vs, ∃ k t, v = Value.int k t) → IntsAre vs (vs.map IntV)
  | [], _ => .nil
  | v :: vs, h => by
    obtain ⟨k, t, rfl⟩ := h v List.mem_cons_self
    exact .cons k t (ints_are vs fun u hu => h u (List.mem_cons_of_mem _ hu))
theorem sorts_str (P : Program) (w : World) : Sorts P w Value.str StrV StrsAre (fun ys => sortedS ys = true) := fun A E s b vs R ho hv hl h => by
  have hS := strs_are vs hv
  refine list_sort_treeKAny strKind_oneLt ho hS.keysOf (fun v1 v2 r e => keyKind_strs (by rw [← e]; exact hS)) hl fun st hp hs => ?_
  obtain ⟨ys, h1, h2, h3⟩ := sorted_out_str hS hp hs
  exact h _ ys h1 h2 h3
theorem sorts_int (P : Program) (w : World) : Sorts P w Value.int IntV IntsAre (fun ys => ys.Pairwise (· ≤ ·)) := fun A E s b vs R ho hv hl h =>
  list_sort_treeAny ho (ints_are vs hv) hl h
/-- sorted(set) -/
theorem sorted_of {VI : List Value → List κ → Prop} {up : List κ → Prop} (z : Lies kd mk kf) (S : Sorts P w mk kf VI up) {Q : Value → Shared → Prop} (H : Holds kd mk s.heap a ks) (hh : A.handled = none)
    (hQ : ∀ s2 p (out : Array Value) (c : Nat) (ys : List κ), (∀ b o, s.heap.get? b = some o → s2.heap.get? b = some o) → s2.gens = s.gens → s2.os = s.os → s.heap.objs.size ≤ p → s2.heap.get? p = some (seqObj "list" out c) → VI out.toList ys → ys.Perm ks → up ys → Q (.ref p) s2) :
    wpAny (model P w) A (call (.builtin "sorted") [.ref a]) Q E s := by
  obtain ⟨nd, o, rows, ep, tb, L, ho, hex, hd, pm, ra, few, fit, ris, led⟩ := H
  obtain ⟨v1, v2⟩ := ra.vals z
  have len : rows.size = ks.length := by rw [← Array.length_toList, pm.length_eq]; exact ra.length_eq
  refine Calls.call_function_entry kind_sorted plain_sorted entry_sorted (args_sorted1 _) ?_
  unfold Builtin.«sorted»
  refine wpAny_bind (m := checkCount "sorted" 1 1 _) (wpAny_pure (wpAny_bind (collect_set (A := A.in1) hh ⟨o, ho, hex.1, hd⟩ fit (by rw [len]; exact few) ris led fun s1 vs k1 hz g1 o1 pv => ?_)))
  have pv2 : vs.Perm (L.map (·.2)) := pv.trans (pm.map _)
  have vl : vs.length ≤ sizeLine := by rw [pv2.length_eq, List.length_map, ra.length_eq]; exact fits_of_scanBound few
  refine wpAny_bind (wpAny_newList ?_ vl)
  have at1 : (s1.heap.push (seqObj "list" vs.toArray 0)).get? s1.heap.objs.size = some (seqObj "list" vs.toArray 0) := Heap.get?_push_size _ rfl
  have kv : ∀ v ∈ vs, ∃ k t, v = mk k t := fun v hv => by
    obtain ⟨e, he, q⟩ := List.mem_map.mp (pv2.mem_iff.mp hv)
    obtain ⟨k, t, e2⟩ := v2 e he
    exact ⟨k, t, by rw [← q]; exact e2⟩
  have kp : (vs.map kf).Perm ks := by
    have q := pv2.map kf
    rw [List.map_map] at q
    rw [← v1]
    exact q
  refine wpAny_bind (wpAny_holding (wpAny_call_entry slot_list_sort ⟨_, at1, rfl⟩ entry_list_sort (S _ _ { s1 with heap := s1.heap.push (seqObj "list" vs.toArray 0) } _ vs _ at1 kv vl fun out ys i1 i2 i3 => ⟨_, rfl, ?_⟩) (args_list_sort _)))
  obtain ⟨c, hc⟩ := sortedHeap_at (vs := vs) (out := out) at1
  refine wpAny_pure ⟨_, rfl, hQ _ s1.heap.objs.size out c ys (fun b u e => ?_) g1 o1 hz hc i1 (i2.trans kp) i3⟩
  have q := k1 b u e
  have lt := Heap.lt_size q
  show (sortedHeap (s1.heap.push (seqObj "list" vs.toArray 0)) s1.heap.objs.size vs out).get? b = some u
  rw [sortedHeap_old (Nat.ne_of_lt lt) (by rw [size_push']; exact Nat.lt_succ_of_lt lt)]
  exact Heap.get?_push_of_some _ q
/-! ### in the hand layer -/
def SetH (kd : PySem.KeyKind P w κ) (mk : κ → Tok → Value) (a : Addr) (ks : List κ) : HO := .ext fun h => Holds kd mk h a ks
theorem setH_new {H : Hp} {h : Heap} {a : Addr} (R : Holds kd mk h a ks) : ObjOk P w H h a (SetH kd mk a ks) := by
  have ⟨_, o, _, _, _, _, ho, _⟩ := R
  exact ⟨R, ⟨o, ho⟩, fun h1 h2 p k => p.up k⟩
end
def rSetS (K : PySem.W.Frag) (P : Program) (w : World) : List V → Hp → VK → Prop := fun xs H Q => ∃ (l : Addr) (ns : List Str), xs = [V.ref l] ∧ SqL K H l (ns.map V.str) ∧ (∃ dom : List Str, dom.length + 1 < scanBound ∧ ∀ k ∈ ns, k ∈ dom) ∧ ∀ p ks, H p = none → (∀ k, k ∈ ks ↔ k ∈ ns) → ks.Nodup → Q (.ref p) (upd H p (SetH (PySem.strKind P w) Value.str p ks))
def rSetI (K : PySem.W.Frag) (P : Program) (w : World) : List V → Hp → VK → Prop := fun xs H Q => ∃ (l : Addr) (ns : List Int), xs = [V.ref l] ∧ SqL K H l (ns.map V.int) ∧ (∃ dom : List Int, dom.length + 1 < scanBound ∧ ∀ k ∈ ns, k ∈ dom) ∧ ∀ p ks, H p = none → (∀ k, k ∈ ks ↔ k ∈ ns) → ks.Nodup → Q (.ref p) (upd H p (SetH (PySem.intKind P w) Value.int p ks))
def rSortH (P : Program) (w : World) : List V → Hp → VK → Prop := fun xs H Q => ∃ (a : Addr) (ks : List Str), xs = [V.ref a] ∧ H a = some (SetH (PySem.strKind P w) Value.str a ks) ∧ ∀ (ys : List Str) p, ys.Perm ks → sortedS ys = true → H p = none → Q (.ref p) (upd H p (.lst (ys.map V.str)))
def rSortHI (P : Program) (w : World) : List V → Hp → VK → Prop := fun xs H Q => ∃ (a : Addr) (ks : List Int), xs = [V.ref a] ∧ H a = some (SetH (PySem.intKind P w) Value.int a ks) ∧ ∀ (ys : List Int) p, ys.Perm ks → ys.Pairwise (· ≤ ·) → H p = none → Q (.ref p) (upd H p (.lst (ys.map V.int)))
section
variable {X : Cx}
theorem laidD {pins : List (Addr × Obj)} {σ : L2.St} {H : Hp} {s s2 : Shared} {p : Addr} {o : HO} (I : Inv X pins σ H s) (kp : ∀ b u, s.heap.get? b = some u → s2.heap.get? b = some u) (g : s2.gens = s.gens) (e : s2.os = s.os) (hp : s.heap.objs.size ≤ p) (new : ObjOk X.prog X.w (upd H p o) s2.heap p o) : Inv X pins σ (upd H p o) s2 := by
  have J : Inv X pins σ (upd H p o) { s with heap := s2.heap, gens := s2.gens, drawn := s2.drawn, toks := s2.toks } := I.call (ch := []) (Un.laid kp hp (I.hok.fresh hp)) (I.hok.laid kp hp new) (by rw [g]; exact I.bare) (fun _ z => nomatch z)
  have q : s2 = { s with heap := s2.heap, gens := s2.gens, drawn := s2.drawn, toks := s2.toks } := by
    cases s2
    simp only at e
    subst e
    rfl
  rw [q]
  exact J
theorem cr_setS (hc : X.calm = true) : CallR X (.type "set") (rSetS X.K X.prog X.w) := by
  intro pins s σ H vs us Q I r h
  obtain ⟨l, ns, rfl, hl, ⟨dom, few, sub⟩, q⟩ := h
  rw [Vals.ref1 r]
  obtain ⟨its, rv, pl, hz⟩ := I.list hl
  have sa := rv.strs
  refine of_list (lies_str X.prog X.w) ns dom (I.ok.hd hc) pl.isList (by have := sa.length; simpa using this) (fun i v hv => ?_) sub few fun h' tk ks H1 hk kp => ?_
  · obtain ⟨y, t, e1, e2⟩ := sa.item i v (by simpa using hv)
    exact ⟨y, t, e2, e1⟩
  · exact ⟨.ref s.heap.objs.size, upd H s.heap.objs.size (SetH (PySem.strKind X.prog X.w) Value.str s.heap.objs.size ks), I.laid (t' := tk) kp (Nat.le_refl _) (setH_new H1), rfl, q _ ks (I.hok.fresh (Nat.le_refl _)) hk H1.1⟩
theorem cr_setI (hc : X.calm = true) : CallR X (.type "set") (rSetI X.K X.prog X.w) := by
  intro pins s σ H vs us Q I r h
  obtain ⟨l, ns, rfl, hl, ⟨dom, few, sub⟩, q⟩ := h
  rw [Vals.ref1 r]
  obtain ⟨its, rv, pl, hz⟩ := I.list hl
  have sa := rv.ints
  have sl : its.length = ns.length := sa.length
  refine of_list (lies_int X.prog X.w) ns dom (I.ok.hd hc) pl.isList (by simpa using sl) (fun i v hv => ?_) sub few fun h' tk ks H1 hk kp => ?_
  · have hi : i < ns.length := by rw [← sl]; simpa using (Array.getElem?_eq_some_iff.mp hv).1
    obtain ⟨t, e⟩ := IntsAre.int_at sa i v (by simpa using hv)
    refine ⟨ns[i], t, List.getElem?_eq_getElem hi, ?_⟩
    rw [e, List.getD_eq_getElem?_getD, List.getElem?_eq_getElem hi]
    rfl
  · exact ⟨.ref s.heap.objs.size, upd H s.heap.objs.size (SetH (PySem.intKind X.prog X.w) Value.int s.heap.objs.size ks), I.laid (t' := tk) kp (Nat.le_refl _) (setH_new H1), rfl, q _ ks (I.hok.fresh (Nat.le_refl _)) hk H1.1⟩
theorem cr_sortH (hc : X.calm = true) : CallR X (.builtin "sorted") (rSortH X.prog X.w) := by
  intro pins s σ H vs us Q I r h
  obtain ⟨a, ks, rfl, ha, q⟩ := h
  rw [Vals.ref1 r]
  have H0 : Holds (PySem.strKind X.prog X.w) Value.str s.heap a ks := (I.hok a _ ha).1
  refine sorted_of (lies_str X.prog X.w) (sorts_str X.prog X.w) H0 (I.ok.hd hc) fun s2 p out c ys kp g o hp at' i1 i2 i3 => ?_
  have few : ks.length ≤ sizeLine := by
    obtain ⟨_, _, _, _, _, _, _, _, _, _, _, f, _⟩ := H0
    exact fits_of_scanBound f
  have hlen : (ys.map V.str).length ≤ sizeLine := by rw [List.length_map, i2.length_eq]; exact few
  exact ⟨.ref p, upd H p (.lst (ys.map V.str)), laidD I kp g o hp ⟨hlen, out.toList, c, vals_of_strs i1, at'⟩, rfl, q ys p i2 i3 (I.hok.fresh hp)⟩
theorem cr_sortHI (hc : X.calm = true) : CallR X (.builtin "sorted") (rSortHI X.prog X.w) := by
  intro pins s σ H vs us Q I r h
  obtain ⟨a, ks, rfl, ha, q⟩ := h
  rw [Vals.ref1 r]
  have H0 : Holds (PySem.intKind X.prog X.w) Value.int s.heap a ks := (I.hok a _ ha).1
  refine sorted_of (lies_int X.prog X.w) (sorts_int X.prog X.w) H0 (I.ok.hd hc) fun s2 p out c ys kp g o hp at' i1 i2 i3 => ?_
  have few : ks.length ≤ sizeLine := by
    obtain ⟨_, _, _, _, _, _, _, _, _, _, _, f, _⟩ := H0
    exact fits_of_scanBound f
  have hlen : (ys.map V.int).length ≤ sizeLine := by rw [List.length_map, i2.length_eq]; exact few
  exact ⟨.ref p, upd H p (.lst (ys.map V.int)), laidD I kp g o hp ⟨hlen, out.toList, c, vals_of_ints i1, at'⟩, rfl, q ys p i2 i3 (I.hok.fresh hp)⟩
end
end Fb
set_option Elab.async false
set_option linter.all false
set_option maxRecDepth 100000
set_option maxHeartbeats 2000000
/-! ### sorted(set(list)): texts, ints -/
namespace VL
open PySem PySem.Spec PyProof.Rows L2
theorem setSK {X : Cx} (K0 : PySem.W.Frag) (P0 : Program) (w0 : World) (h1 : X.K = K0) (h2 : X.prog = P0) (h3 : X.w = w0) (hc : X.calm = true) : CallR X (.type "set") (Fb.rSetS K0 P0 w0) := by subst h1 h2 h3; exact Fb.cr_setS hc
theorem setIK {X : Cx} (K0 : PySem.W.Frag) (P0 : Program) (w0 : World) (h1 : X.K = K0) (h2 : X.prog = P0) (h3 : X.w = w0) (hc : X.calm = true) : CallR X (.type "set") (Fb.rSetI K0 P0 w0) := by subst h1 h2 h3; exact Fb.cr_setI hc
theorem sortHK {X : Cx} (P0 : Program) (w0 : World) (h2 : X.prog = P0) (h3 : X.w = w0) (hc : X.calm = true) : CallR X (.builtin "sorted") (Fb.rSortH P0 w0) := by subst h2 h3; exact Fb.cr_sortH hc
theorem sortHIK {X : Cx} (P0 : Program) (w0 : World) (h2 : X.prog = P0) (h3 : X.w = w0) (hc : X.calm = true) : CallR X (.builtin "sorted") (Fb.rSortHI P0 w0) := by subst h2 h3; exact Fb.cr_sortHI hc
section
variable {P : Program} {w : World} {c : Vc} {W : XW} {m : Md} {tA : TA} {fA : VTA}
def vSortSet (fA : VTA) : VT := fun e Q Qx => fA e (fun ds e1 => ∃ ns : List Str, ds = [.lst (ns.map D.str)] ∧ (∃ dom : List Str, dom.length ≤ 4000 ∧ ∀ k ∈ ns, k ∈ dom) ∧ ∀ ys : List Str, (∀ k, k ∈ ys ↔ k ∈ ns) → ys.Nodup → Q (.lst (ys.map D.str)) e1) Qx
theorem v_sortSet (ha : VA c W m tA fA) : VE c W m (tCB (Fb.rSortH P w) (tCons (tCB (Fb.rSetS c.K P w) tA) tNil)) (.l .s) (vSortSet fA) := fun T σ e H Q Qv Qx hR hf hn hx =>
  ha T σ e H _ _ Qx hR hf (fun fT fV vs ds e1 H1 R1 rs p ⟨ns, ed, ⟨dom, few, sub⟩, q⟩ => by
    subst ed
    obtain ⟨v, rfl, rb⟩ := pr1 rs.pb
    obtain ⟨a, us, rfl, sq, r⟩ := rb.lst
    have e := r.strs
    subst e
    refine ⟨a, ns, rfl, sq.sq, ⟨dom, by unfold scanBound; omega, sub⟩, fun b ks nb hk nd => ⟨b, ks, rfl, upd_same, fun ys d pm up nd2 => ?_⟩⟩
    have s1 := same_new (o := Fb.SetH (PySem.strKind P w) Value.str b ks) nb
    exact hn _ _ e1 _ ((R1.same s1).newL nd2 (rs_strs ys)) (p.trans ((Post.same (e := e1) (e' := e1) s1).trans (Post.same (e := e1) (e' := e1) (same_new nd2)))) (q ys (fun k => pm.mem_iff.trans (hk k)) (pm.nodup_iff.mpr nd))) hx
def vSortSetI (fA : VTA) : VT := fun e Q Qx => fA e (fun ds e1 => ∃ ns : List Int, ds = [.lst (ns.map D.int)] ∧ (∃ dom : List Int, dom.length ≤ 4000 ∧ ∀ k ∈ ns, k ∈ dom) ∧ ∀ ys : List Int, (∀ k, k ∈ ys ↔ k ∈ ns) → ys.Nodup → ys.Pairwise (· < ·) → Q (.lst (ys.map D.int)) e1) Qx
theorem v_sortSetI (ha : VA c W m tA fA) : VE c W m (tCB (Fb.rSortHI P w) (tCons (tCB (Fb.rSetI c.K P w) tA) tNil)) (.l .s) (vSortSetI fA) := fun T σ e H Q Qv Qx hR hf hn hx =>
  ha T σ e H _ _ Qx hR hf (fun fT fV vs ds e1 H1 R1 rs p ⟨ns, ed, ⟨dom, few, sub⟩, q⟩ => by
    subst ed
    obtain ⟨v, rfl, rb⟩ := pr1 rs.pb
    obtain ⟨a, us, rfl, sq, r⟩ := rb.lst
    have e := r.ints
    subst e
    refine ⟨a, ns, rfl, sq.sq, ⟨dom, by unfold scanBound; omega, sub⟩, fun b ks nb hk nd => ⟨b, ks, rfl, upd_same, fun ys d pm up nd2 => ?_⟩⟩
    have s1 := same_new (o := Fb.SetH (PySem.intKind P w) Value.int b ks) nb
    have ndy := pm.nodup_iff.mpr nd
    refine hn _ _ e1 _ ((R1.same s1).newL nd2 (rs_ints ys)) (p.trans ((Post.same (e := e1) (e' := e1) s1).trans (Post.same (e := e1) (e' := e1) (same_new nd2)))) (q ys (fun k => pm.mem_iff.trans (hk k)) ndy ?_)
    exact (up.and ndy).imp fun h => Int.lt_iff_le_and_ne.mpr h) hx
end
end VL
set_option Elab.async false
set_option linter.all false
set_option maxRecDepth 100000
set_option maxHeartbeats 2000000
/-! ### a new list handed over as one's own: f(x, [k], ..) -/
namespace VL
open PySem PySem.Spec PyProof.Rows L2
section
variable {c : Vc} {fT fV : List Addr} {T B : List Tm} {t : Tm} {σ : L2.St} {e : Env} {H : Hp}
theorem RX.mid (h : RX c fT fV (t :: (B ++ T)) σ e H) : ∃ fT', RX c fT' fV (t :: T) σ e H := by
  obtain ⟨f1, f2, e1, h1, h2⟩ := h.tm
  obtain ⟨g1, g2, e2, k1, k2⟩ := RT.unapp h2
  subst e1 e2
  have n := h.nd
  have sub : ∀ a, a ∈ (f1 ++ g2) ++ fV → a ∈ (f1 ++ (g1 ++ g2)) ++ fV := fun a z => by
    simp only [List.mem_append] at z ⊢
    rcases z with (z | z) | z <;> simp [z]
  have how : ∀ a, owOf c (f1 ++ g2) fV a → owOf c (f1 ++ (g1 ++ g2)) fV a ∨ H a = none := fun a z => .inl (by
    rcases z with z | z
    · exact .inl (sub a z)
    · exact .inr z)
  refine ⟨f1 ++ g2, ⟨f1, g2, rfl, RO.fr (fun _ _ q _ => q) (ExtT.refl H) how _ _ _ _ h1 (fun _ _ _ q => q), k2.fr (fun _ _ q _ => q) (ExtT.refl H) how (fun _ _ _ q => q)⟩, h.vr.fr (fun _ _ q _ => q) (ExtT.refl H) how (fun _ _ _ q => q), ?_, fun a z => h.fr a (sub a z), h.kp, h.tp, h.al, h.ok, h.rt⟩
  have s : List.Sublist ((f1 ++ g2) ++ fV) ((f1 ++ (g1 ++ g2)) ++ fV) := List.Sublist.append (List.Sublist.append (List.Sublist.refl _) (List.sublist_append_right _ _)) (List.Sublist.refl _)
  exact s.nodup n
theorem R.mid (h : R c (t :: (B ++ T)) σ e H) : R c (t :: T) σ e H := by
  obtain ⟨fT, fV, h⟩ := h
  obtain ⟨fT', h⟩ := h.mid
  exact ⟨fT', fV, h⟩
/-- a call, its own arguments on top -/
theorem call_core {L : List Tm} {gT gV : List Addr} {pM : List Sh} {rsh : Sh} {vs : List V} {full : List D} {sp : VSp} {Qv : D → Env → Prop} {Q : VK} {E : XK} (X2 : RX c gT gV (L ++ T) σ e H) (ar : ArgR c.K (owOf c gT gV) H pM vs full L) (q : sp full Qv fun _ _ => False)
    (hn : ∀ v r ps H', R c ((rsh, v, r) :: (backL pM vs ps ++ T)) σ e H' → Qv r ps → Q v H') : spOf c.K pM rsh sp vs H Q E := by
  obtain ⟨fL, fT0, ef, tL, tT⟩ := X2.tm.unapp
  subst ef
  have nd := X2.nd
  rw [List.append_assoc] at nd
  obtain ⟨ndL, ndR, ndX⟩ := List.nodup_append.mp nd
  have noav : ∀ a ∈ fL, ¬ c.av a := fun a z y => by
    rcases X2.fr a (by simp [z]) with w | w
    · exact (X2.ok a y).2 w
    · exact (X2.ok a y).1 w
  have ow1 : ∀ a, (a ∈ ([] : List Addr) ++ fL ∨ (a ∈ fT0 ++ gV ∨ c.av a)) → owOf c (fL ++ fT0) gV a := fun a z => by
    rcases z with z | z | z
    · exact .inl (by simp at z; simp [z])
    · exact .inl (by rw [List.append_assoc]; exact List.mem_append_right _ z)
    · exact .inr z
  have lfull := (ArgR.rv ar tL).len.2
  rw [List.length_map] at lfull
  have rv := (ArgR.rv ar tL).fr (H' := H) (ow' := fun a => a ∈ ([] : List Addr) ++ fL ∨ (a ∈ fT0 ++ gV ∨ c.av a)) (fun _ _ q _ => q) (ExtT.refl H) (fun a z => .inl (ow1 a z)) (fun _ _ _ q => q)
  refine ⟨⟨c.K, H, fun a => a ∈ fL, fun a => a ∈ fT0 ++ gV ∨ c.av a, pM, roots pM 0 vs⟩, full, Qv, fun _ _ => False, rfl, rfl, rfl, rfl, ⟨lfull, [], fL, rfl, .of rv, ndL, fun a z => .inl z, fun b o q _ => q, ExtT.refl H, fun b q => q, fun a z => ?_, fun p hp => ?_⟩, q, ?_, fun x d ps H' _ _ _ z => z.elim⟩
  · rcases z with z | z
    · refine ⟨?_, fun y => ndX a y a z rfl⟩
      obtain ⟨o, w, _⟩ := X2.at a (by rw [List.append_assoc]; exact List.mem_append_right _ z)
      show H a ≠ none
      rw [w]
      simp
    · exact ⟨X2.avn z, fun y => noav a y z⟩
  · obtain ⟨j, a, b⟩ := roots_at _ _ _ p hp
    rw [Nat.zero_add] at a
    rw [a, List.getElem?_map, b]
    rfl
  rintro v r ps H' lps ⟨kT, kV, Y⟩ q
  have tb := RV.back (Y.vr.strict lps)
  obtain ⟨f1, f2, e2, r1, r2⟩ := Y.tm
  have r2 : f2 = [] := r2
  subst r2
  rw [List.append_nil] at e2
  subst e2
  have ow2 : ∀ a, owOf c (kT ++ (kV ++ fT0)) gV a → (a ∈ kT ++ kV ∨ (a ∈ fT0 ++ gV ∨ c.av a)) := fun a z => by
    rcases z with z | z
    · simp only [List.mem_append] at z ⊢
      rcases z with (z | z | z) | z <;> simp [z]
    · exact .inr (.inr z)
  have ow3 : ∀ a, owOf c (kT ++ (kV ++ fT0)) gV a → owOf c (fL ++ fT0) gV a ∨ H a = none := fun a z => by
    rcases ow2 a z with z | z | z
    · rcases Y.fr a z with y | y
      · exact .inl (.inl (by simp [show a ∈ fL from y]))
      · exact .inr y
    · exact .inl (.inl (by rw [List.append_assoc]; exact List.mem_append_right _ z))
    · exact .inl (.inr z)
  have kp1 : ∀ b o, H b = some o → ¬ owOf c (fL ++ fT0) gV b → H' b = some o := fun b o z n => Y.kp b o z fun y => n (.inl (by simp [show b ∈ fL from y]))
  have kp2 : ∀ b ∈ fT0 ++ gV, ∀ o, H b = some o → H' b = some o := fun b z o w => Y.kp b o w fun y => ndX b y b z rfl
  refine hn v r ps H' ?_ q
  refine ⟨kT ++ (kV ++ fT0), gV, ⟨kT, kV ++ fT0, rfl, RO.fr (fun _ _ q _ => q) (ExtT.refl H') (fun a z => .inl (ow2 a z)) _ _ _ _ r1 (fun _ _ _ q => q), RT.app (tT.fr kp1 Y.tp ow3 (fun b z => kp2 b (List.mem_append_left _ z))) (tb.fr (fun _ _ q _ => q) (ExtT.refl H') (fun a z => .inl (ow2 a z)) (fun _ _ _ q => q))⟩, X2.vr.fr kp1 Y.tp ow3 (fun b z => kp2 b (List.mem_append_right _ z)), ?_, fun a z => ?_, fun b o q n => ?_, X2.tp.trans Y.tp, fun b q => Y.al b (X2.al b q), X2.ok, X2.rt⟩
  · have nn : ((kT ++ kV) ++ (fT0 ++ gV)).Nodup := List.nodup_append.mpr ⟨Y.nd, ndR, fun a z b y q => by
      subst q
      rcases Y.fr a z with w | w
      · exact ndX a w a y rfl
      · obtain ⟨o, u, _⟩ := X2.at a (by rw [List.append_assoc]; exact List.mem_append_right _ y)
        have w : H a = none := w
        rw [w] at u
        cases u⟩
    simpa using nn
  · have z' : a ∈ kT ++ kV ∨ a ∈ fT0 ++ gV := by
      simp only [List.mem_append] at z ⊢
      rcases z with (z | z | z) | z <;> simp [z]
    rcases z' with z | z
    · rcases Y.fr a z with w | w
      · exact X2.fr a (by simp [show a ∈ fL from w])
      · exact .inr (X2.new w).2
    · exact X2.fr a (by rw [List.append_assoc]; exact List.mem_append_right _ z)
  · refine Y.kp b o (X2.kp b o q n) fun z => ?_
    rcases X2.fr b (by simp [show b ∈ fL from z]) with y | y
    · exact n y
    · rw [y] at q
      cases q
theorem argS {K : PySem.W.Frag} {ow : Addr → Prop} {H : Hp} : ∀ {M : List Sh} {vs : List V} {ds : List D}, (∀ sh ∈ M, sh = .s) → ds.length = M.length → RSs K ow H ds vs → ArgR K ow H M vs ds []
  | [], vs, [], _, _, h => by
    simp only [RSs] at h
    exact ⟨h, rfl, rfl⟩
  | [], _, _ :: _, _, hl, _ => by cases hl
  | _ :: _, _, [], _, hl, _ => by cases hl
  | sh :: M, vs, d :: ds, hs, hl, h => by
    obtain rfl := hs sh List.mem_cons_self
    simp only [RSs] at h
    obtain ⟨v, r, rfl, h1, h2⟩ := h
    exact ⟨v, r, d, ds, rfl, rfl, h1, argS (fun x hx => hs x (List.mem_cons_of_mem _ hx)) (Nat.succ.inj hl) h2⟩
def vCallN (i : Nat) (k : Int) (n : Nat) (sp : VSp) (fA : VTA) : VT := fun e Q Qx => (∃ d, e[i]? = some (some d)) ∧ fA e (fun ds e1 => ∃ d, e1[i]? = some (some d) ∧ ds.length = n ∧ sp (d :: .lst [.int k] :: ds) (fun r _ => Q r e1) (fun _ _ => False)) Qx
variable {W : XW} {m : Md} {tA : TA} {fA : VTA}
theorem v_callN {i : Nat} {k : Int} {rs : List Sh} {rsh : Sh} {sp : VSp} {E : XK} (hM : c.M[i]? = some .s) (hA : VA c W .e tA fA) (hs : ∀ sh ∈ rs, sh = .s) : VE c W .e (tCall (spOf c.K (.s :: .l .s :: rs) rsh sp) [] E (tCons (tVar i) (tCons (tLst (tCons (tC (.int k)) tNil)) tA))) rsh (vCallN i k rs.length sp fA) := fun T σ e H Q Qv Qx ⟨fT, fV, X⟩ ⟨⟨d0, hd0⟩, hf⟩ hn hx => by
  obtain ⟨v0, hv0, _⟩ := X.var hM hd0
  refine ⟨v0, hv0, by show 1 ≤ sizeLine; decide, fun a ha => ?_⟩
  have R1 := X.newL (zs := [.int k]) (vs := [V.int k]) ha (rs_ints [k])
  refine hA _ σ e _ _ _ Qx R1 hf (fun gT gV vs ds e1 H1 X1 rs1 p ⟨d, hd, hl, q⟩ => ?_) (fun x d e' H' R' X' q' => hx x d e' H' R'.pop X' q')
  obtain ⟨v1, hv1, r1⟩ := X1.var hM hd
  rw [hv0] at hv1
  cases hv1
  rw [List.append_nil]
  refine call_core (L := [(.l .s, .ref a, .lst [.int k])]) (T := T) X1 ⟨v0, _, d, _, rfl, rfl, r1, .ref a, vs, .lst [.int k], ds, [], rfl, rfl, rfl, argS hs hl rs1⟩ q fun v r ps H' Y qq => ?_
  exact hn v r e1 H' Y.mid Post.e qq
end
end VL
set_option Elab.async false
set_option linter.all false
set_option maxRecDepth 100000
set_option maxHeartbeats 2000000
/-! ### parts of one's own things: d[k], d[k][j], whatever the shapes of the other parts -/
namespace VL
open PySem PySem.Spec PyProof.Rows L2
section
variable {K : PySem.W.Frag} {ow ow' : Addr → Prop} {H H' : Hp}
theorem ROs_key : ∀ {ks : List Key} {l : List D} {vs : List V} {fps : List Addr} {k : Key} {d : D} {f : Key → Sh}, ks.length = vs.length → ROs K ow H l (ks.map f) vs fps → getK ks l k = some d →
    ∃ v g f1 f2, valV (ks.zip vs) k = some v ∧ RO K ow H d (f k) v g ∧ fps = f1 ++ (g ++ f2) ∧
      ∀ {H' : Hp} {ow' : Addr → Prop} {d' : D} {g' : List Addr}, (∀ x o, H x = some o → ¬ ow x → H' x = some o) → ExtT H H' → (∀ a, ow' a → ow a ∨ H a = none) → (∀ x ∈ f1 ++ f2, ∀ o, H x = some o → H' x = some o) → RO K ow' H' d' (f k) v g' → ROs K ow' H' (setK ks l k d') (ks.map f) vs (f1 ++ (g' ++ f2))
  | [], [], _, _, _, _, _, _, _, h => by cases h
  | [], _ :: _, _, _, _, _, _, _, _, h => by cases h
  | _ :: _, [], _, _, _, _, _, _, _, h => by cases h
  | k0 :: ks, d0 :: l, vs, fps, k, d, f, hn, h, hk => by
    simp only [List.map_cons, ROs] at h
    obtain ⟨sh, shs', v, vs', f1, f2, e1, rfl, rfl, h1, h2⟩ := h
    cases e1
    by_cases e : k0 = k
    · simp only [getK, if_pos e, Option.some.injEq] at hk
      subst hk e
      refine ⟨v, f1, [], f2, valV_pos rfl, h1, rfl, fun {H' ow' d' g'} kk hT how ko r' => ?_⟩
      simp only [setK, if_pos rfl, List.map_cons, ROs]
      exact ⟨_, _, v, vs', g', f2, rfl, rfl, rfl, r', ROs.fr kk hT how _ _ _ _ h2 fun x z => ko x (by simpa using z)⟩
    · simp only [getK, if_neg e] at hk
      obtain ⟨v1, g, g1, g2, e2, r1, rfl, X⟩ := ROs_key (Nat.succ.inj hn) h2 hk
      refine ⟨v1, g, f1 ++ g1, g2, (valV_neg e).trans e2, r1, by simp, fun {H' ow' d' g'} kk hT how ko r' => ?_⟩
      simp only [setK, if_neg e, List.map_cons, ROs]
      exact ⟨_, _, v, vs', f1, g1 ++ (g' ++ g2), rfl, rfl, by simp, RO.fr kk hT how _ _ _ _ h1 fun x z => ko x (by simp [z]), X kk hT how (fun x z => ko x (by
        rcases List.mem_append.mp z with z | z <;> simp [z])) r'⟩
theorem ROs_ix : ∀ {l : List D} {vs : List V} {fps : List Addr} {j : Nat} {d : D} {e : Sh}, ROs K ow H l (l.map fun _ => e) vs fps → l[j]? = some d →
    ∃ v g f1 f2, vs[j]? = some v ∧ RO K ow H d e v g ∧ fps = f1 ++ (g ++ f2) ∧
      ∀ {H' : Hp} {ow' : Addr → Prop} {d' : D} {g' : List Addr}, (∀ x o, H x = some o → ¬ ow x → H' x = some o) → ExtT H H' → (∀ a, ow' a → ow a ∨ H a = none) → (∀ x ∈ f1 ++ f2, ∀ o, H x = some o → H' x = some o) → RO K ow' H' d' e v g' → ROs K ow' H' (l.set j d') ((l.set j d').map fun _ => e) vs (f1 ++ (g' ++ f2))
  | [], _, _, _, _, _, _, h => by simp at h
  | d0 :: l, vs, fps, 0, d, e, h, hk => by
    simp only [List.map_cons, ROs] at h
    obtain ⟨sh, shs', v, vs', f1, f2, e1, rfl, rfl, h1, h2⟩ := h
    cases e1
    simp only [List.getElem?_cons_zero, Option.some.injEq] at hk
    subst hk
    refine ⟨v, f1, [], f2, rfl, h1, rfl, fun {H' ow' d' g'} kk hT how ko r' => ?_⟩
    simp only [List.set_cons_zero, List.map_cons, ROs]
    exact ⟨_, _, v, vs', g', f2, rfl, rfl, rfl, r', ROs.fr kk hT how _ _ _ _ h2 fun x z => ko x (by simpa using z)⟩
  | d0 :: l, vs, fps, j + 1, d, e, h, hk => by
    simp only [List.map_cons, ROs] at h
    obtain ⟨sh, shs', v, vs', f1, f2, e1, rfl, rfl, h1, h2⟩ := h
    cases e1
    rw [List.getElem?_cons_succ] at hk
    obtain ⟨v1, g, g1, g2, e2, r1, rfl, X⟩ := ROs_ix h2 hk
    refine ⟨v1, g, f1 ++ g1, g2, by rw [List.getElem?_cons_succ]; exact e2, r1, by simp, fun {H' ow' d' g'} kk hT how ko r' => ?_⟩
    simp only [List.set_cons_succ, List.map_cons, ROs]
    exact ⟨_, _, v, vs', f1, g1 ++ (g' ++ g2), rfl, rfl, by simp, RO.fr kk hT how _ _ _ _ h1 fun x z => ko x (by simp [z]), X kk hT how (fun x z => ko x (by
      rcases List.mem_append.mp z with z | z <;> simp [z])) r'⟩
theorem ROs_snoc : ∀ {l : List D} {vs : List V} {fps : List Addr} {e : Sh} {d : D} {v : V} {g : List Addr}, ROs K ow H l (l.map fun _ => e) vs fps → RO K ow H d e v g → ROs K ow H (l ++ [d]) ((l ++ [d]).map fun _ => e) (vs ++ [v]) (fps ++ g)
  | [], vs, fps, e, d, v, g, h, r => by
    simp only [List.map_nil, ROs] at h
    obtain ⟨_, rfl, rfl⟩ := h
    simp only [List.nil_append, List.map_cons, List.map_nil, ROs]
    exact ⟨e, [], v, [], g, [], rfl, rfl, by simp, r, rfl, rfl, rfl⟩
  | d0 :: l, vs, fps, e, d, v, g, h, r => by
    simp only [List.map_cons, ROs] at h
    obtain ⟨sh, shs', v0, vs', f1, f2, e1, rfl, rfl, h1, h2⟩ := h
    cases e1
    have z := ROs_snoc h2 r
    simp only [List.cons_append, List.map_cons, ROs]
    exact ⟨e, _, v0, vs' ++ [v], f1, f2 ++ g, rfl, rfl, by simp, h1, z⟩
theorem ROs_len : ∀ {l : List D} {shs : List Sh} {vs : List V} {fps : List Addr}, ROs K ow H l shs vs fps → vs.length = l.length
  | [], _, _, _, h => by simp only [ROs] at h; rw [h.2.1]; rfl
  | _ :: _, _, _, _, h => by
    simp only [ROs] at h
    obtain ⟨_, _, _, _, _, _, _, rfl, _, _, h2⟩ := h
    rw [List.length_cons, List.length_cons, ROs_len h2]
end
section
variable {c : Vc} {fT fV : List Addr} {T : List Tm} {σ : L2.St} {e : Env} {H H' : Hp}
/-- a name's own thing is changed; what was on top may go into it -/
theorem RX.updM {i : Nat} {sh sh0 : Sh} {d d0 : D} {w : V} (h : RX c fT fV ((sh0, w, d0) :: T) σ e H) (hM : c.M[i]? = some sh) (hd : e[i]? = some (some d)) :
    ∃ v fp g, σ[i]? = some (some v) ∧ RO c.K (owOf c fT fV) H d sh v fp ∧ RO c.K (owOf c fT fV) H d0 sh0 w g ∧ (∀ a ∈ fp ++ g, a ∈ fT ++ fV) ∧ (fp ++ g).Nodup ∧
      ∀ (H' : Hp) (d' : D) (fp' : List Addr), (∀ b o, H b = some o → b ∉ fp ++ g → H' b = some o) → ExtT H H' → (∀ b, H b ≠ none → H' b ≠ none) → fp'.Nodup → (∀ a ∈ fp', a ∈ fp ++ g ∨ H a = none) →
        (∀ ow', (∀ a, ow' a → owOf c fT fV a ∨ H a = none) → RO c.K ow' H' d' sh v fp') → R c T σ (e.set i (some d')) H' := by
  obtain ⟨f1, fp, f2, x, y, a1, a2, a3, a4, a5⟩ := h.vr.split hM
  subst a3
  rw [hd] at a2
  cases a2
  obtain ⟨v, rfl, ro⟩ := a4
  obtain ⟨g, fR, eT, rg, tm⟩ := h.tm
  subst eT
  have n := h.nd
  have hsub : ∀ a ∈ fp ++ g, a ∈ (g ++ fR) ++ (f1 ++ (fp ++ f2)) := fun a z => by
    rcases List.mem_append.mp z with z | z <;> simp [z]
  have nd1 : ((fp ++ g) ++ (fR ++ (f1 ++ f2))).Nodup := by
    have p1 : List.Perm ((g ++ fR) ++ (f1 ++ (fp ++ f2))) ((fp ++ g) ++ (fR ++ (f1 ++ f2))) := by
      rw [List.perm_iff_count]
      intro a
      simp only [List.count_append]
      omega
    exact p1.nodup n
  obtain ⟨nf, nr, nx⟩ := List.nodup_append.mp nd1
  refine ⟨v, fp, g, a1, ro, rg, hsub, nf, fun H' d' fp' hk hT hal nd' hf' hro => ⟨fR, f1 ++ (fp' ++ f2), ?_⟩⟩
  have how : ∀ a, owOf c fR (f1 ++ (fp' ++ f2)) a → owOf c (g ++ fR) (f1 ++ (fp ++ f2)) a ∨ H a = none := fun a z => by
    rcases z with z | z
    · simp only [List.mem_append] at z
      rcases z with z | z | z | z
      · exact .inl (.inl (by simp [z]))
      · exact .inl (.inl (by simp [z]))
      · rcases hf' a z with q | q
        · exact .inl (.inl (hsub a q))
        · exact .inr q
      · exact .inl (.inl (by simp [z]))
    · exact .inl (.inr z)
  have kow : ∀ b o, H b = some o → ¬ owOf c (g ++ fR) (f1 ++ (fp ++ f2)) b → H' b = some o := fun b o q n => hk b o q fun z => n (.inl (hsub b z))
  have koth : ∀ b ∈ fR ++ (f1 ++ f2), ∀ o, H b = some o → H' b = some o := fun b z o q => hk b o q fun y => nx b y b z rfl
  have hs : σ.set i (some v) = σ := by
    apply List.ext_getElem?
    intro j
    by_cases e : i = j
    · subst e
      rw [a1]
      have : i < σ.length := (List.getElem?_eq_some_iff.mp a1).1
      simp [this]
    · rw [List.getElem?_set_ne e]
  have vr' := a5 (H' := H') (ow' := owOf c fR (f1 ++ (fp' ++ f2))) (x' := some v) (y' := some d') (fp' := fp') kow hT how (fun b z => koth b (List.mem_append_right _ z)) ⟨v, rfl, hro _ how⟩
  rw [hs] at vr'
  refine ⟨tm.fr kow hT how (fun b z => koth b (List.mem_append_left _ z)), vr', ?_, fun a z => ?_, fun b o q n => ?_, h.tp.trans hT, fun b q => hal b (h.al b q), h.ok, h.rt⟩
  · have nn : (fp' ++ (fR ++ (f1 ++ f2))).Nodup := List.nodup_append.mpr ⟨nd', nr, fun a z b y q => by
      subst q
      rcases hf' a z with q | q
      · exact nx a q a y rfl
      · obtain ⟨o, w, _⟩ := h.at a (by
          simp only [List.mem_append] at y ⊢
          rcases y with y | y | y <;> simp [y])
        rw [q] at w
        cases w⟩
    have p1 : List.Perm (fp' ++ (fR ++ (f1 ++ f2))) (fR ++ (f1 ++ (fp' ++ f2))) := by
      rw [List.perm_iff_count]
      intro a
      simp only [List.count_append]
      omega
    exact p1.nodup nn
  · simp only [List.mem_append] at z
    rcases z with z | z | z | z
    · exact h.fr a (by simp [z])
    · exact h.fr a (by simp [z])
    · rcases hf' a z with q | q
      · exact h.fr a (hsub a q)
      · exact .inr (h.new q).2
    · exact h.fr a (by simp [z])
  · refine hk b o (h.kp b o q n) fun z => ?_
    rcases h.fr b (hsub b z) with y | y
    · exact n y
    · rw [y] at q
      cases q
/-- the part at a key of a name's own dict -/
theorem RX.ownK {i : Nat} {f : Key → Sh} {ks : List Key} {l : List D} {k : Key} {d : D} {sh0 : Sh} {d0 : D} {w : V} (h : RX c fT fV ((sh0, w, d0) :: T) σ e H) (hM : c.M[i]? = some (.d f)) (hd : e[i]? = some (some (.dct ks l))) (hk : getK ks l k = some d) :
    ∃ a vs v g g0, σ[i]? = some (some (.ref a)) ∧ H a = some (.dK (ks.zip vs)) ∧ ks.length = vs.length ∧ valV (ks.zip vs) k = some v ∧ RO c.K (owOf c fT fV) H d (f k) v g ∧ RO c.K (owOf c fT fV) H d0 sh0 w g0 ∧ (∀ x ∈ g ++ g0, owOf c fT fV x) ∧ (g ++ g0).Nodup ∧
      ∀ (H' : Hp) (d' : D) (g' : List Addr), (∀ b o, H b = some o → b ∉ g ++ g0 → H' b = some o) → ExtT H H' → (∀ b, H b ≠ none → H' b ≠ none) → g'.Nodup → (∀ x ∈ g', x ∈ g ++ g0 ∨ H x = none) →
        (∀ ow', (∀ a, ow' a → owOf c fT fV a ∨ H a = none) → RO c.K ow' H' d' (f k) v g') → R c T σ (e.set i (some (.dct ks (setK ks l k d')))) H' := by
  obtain ⟨v0, fp, g0, hv, ro, r0, sub, nf, kk⟩ := h.updM hM hd
  simp only [RO] at ro
  obtain ⟨a, vs, fps, rfl, ha, hl, t, rfl⟩ := ro
  obtain ⟨v, g, f1, f2, hval, rg, rfl, X⟩ := ROs_key hl t hk
  have sub2 : ∀ x ∈ g ++ g0, x ∈ (a :: (f1 ++ (g ++ f2))) ++ g0 := fun x z => by
    rcases List.mem_append.mp z with z | z <;> simp [z]
  have nd1 : ((g ++ g0) ++ (a :: (f1 ++ f2))).Nodup := by
    have p1 : List.Perm ((a :: (f1 ++ (g ++ f2))) ++ g0) ((g ++ g0) ++ (a :: (f1 ++ f2))) := by
      rw [List.perm_iff_count]
      intro x
      simp only [List.count_append, List.count_cons]
      omega
    exact p1.nodup nf
  obtain ⟨n1, n2, n3⟩ := List.nodup_append.mp nd1
  refine ⟨a, vs, v, g, g0, hv, ha, hl, hval, rg, r0, fun x z => .inl (sub x (sub2 x z)), n1, fun H' d' g' hk' hT hal nd' hf' hro => ?_⟩
  have ha' : H' a = some (.dK (ks.zip vs)) := hk' a _ ha fun z => n3 a z a List.mem_cons_self rfl
  refine kk H' _ (a :: (f1 ++ (g' ++ f2))) (fun b o q n => hk' b o q fun z => n (sub2 b z)) hT hal ?_ (fun x z => ?_) fun ow' how => ?_
  · have nn : (g' ++ (a :: (f1 ++ f2))).Nodup := List.nodup_append.mpr ⟨nd', n2, fun x z y q w => by
      subst w
      rcases hf' x z with u | u
      · exact n3 x u x q rfl
      · have : x ∈ fT ++ fV := sub x (by
          rcases List.mem_cons.mp q with q | q
          · simp [q]
          · rcases List.mem_append.mp q with q | q <;> simp [q])
        obtain ⟨o, w, _⟩ := h.at x this
        rw [u] at w
        cases w⟩
    have p1 : List.Perm (g' ++ (a :: (f1 ++ f2))) (a :: (f1 ++ (g' ++ f2))) := by
      rw [List.perm_iff_count]
      intro x
      simp only [List.count_append, List.count_cons]
      omega
    exact p1.nodup nn
  · rcases List.mem_cons.mp z with z | z
    · exact .inl (by simp [z])
    · simp only [List.mem_append] at z
      rcases z with z | z | z
      · exact .inl (by simp [z])
      · exact (hf' x z).imp (sub2 x) id
      · exact .inl (by simp [z])
  · simp only [RO]
    refine ⟨a, vs, _, rfl, ha', hl, X (fun x o q n => hk' x o q fun z => n (.inl (sub x (sub2 x z)))) hT how (fun x z o q => hk' x o q fun y => ?_) (hro ow' how), rfl⟩
    exact n3 x y x (List.mem_cons_of_mem _ z) rfl
end
end VL
set_option Elab.async false
set_option linter.all false
set_option maxRecDepth 100000
set_option maxHeartbeats 2000000
/-! ### rules for d[k].append(v), d[k].append([..]), d[k][j].append(v), d[k][key] = v, {k: [], ..}, d.update({k: [..]}) -/
namespace VL
open PySem PySem.Spec PyProof.Rows L2
section
variable {K : PySem.W.Frag} {ow ow' : Addr → Prop} {H H' : Hp}
theorem RO_ll {d : D} {e : Sh} {v : V} {fp : List Addr} : RO K ow H d (.l e) v fp ↔ ∃ l a vs fps, d = .lst l ∧ v = .ref a ∧ H a = some (.lst vs) ∧ ROs K ow H l (l.map fun _ => e) vs fps ∧ fp = a :: fps := by
  constructor
  · intro h
    cases d <;> first | (simp only [RO] at h; done) | skip
    simp only [RO] at h
    obtain ⟨a, vs, fps, h1, h2, h3, h4⟩ := h
    exact ⟨_, a, vs, fps, rfl, h1, h2, h3, h4⟩
  · rintro ⟨l, a, vs, fps, rfl, h1, h2, h3, h4⟩
    simp only [RO]
    exact ⟨a, vs, fps, h1, h2, h3, h4⟩
theorem RO_n {d : D} {v : V} {fp : List Addr} : RO K ow H d .n v fp → ∃ P w t ks l a vs, d = .nd P w t ks l ∧ v = .ref a ∧ NDa K H P w t a ks vs ∧ ks.length = vs.length ∧ RSs K ow H l vs ∧ fp = [a] := fun h => by
  cases d <;> first | (simp only [RO] at h; done) | skip
  rename_i P w t ks l
  have h0 := h
  simp only [RO] at h
  obtain ⟨a, vs, fps, rfl, h1, h2, h3, rfl⟩ := h
  have e : fps = [] := by
    clear h0 h1 h2
    induction l generalizing vs fps with
    | nil => simp only [List.map_nil, ROs] at h3; exact h3.2.2
    | cons x l ih =>
      simp only [List.map_cons, ROs] at h3
      obtain ⟨sh, shs', v, vs', f1, f2, e1, rfl, rfl, g1, g2⟩ := h3
      cases e1
      rw [(RO_s.mp g1).1, ih _ _ g2]
      rfl
  subst e
  rcases RO.cell (d := .nd P w t ks l) (a := a) h0 with ⟨_, _, q, _⟩ | ⟨_, _, _, q, _⟩ | ⟨_, _, _, _, _, q, _⟩ | ⟨_, _, _, _, _, us, q, z, n, r⟩
  · cases q
  · cases q
  · cases q
  · cases q
    exact ⟨_, _, _, _, _, a, us, rfl, rfl, z, n, r, rfl⟩
end
section
variable {c : Vc} {W : XW} {rsh : Sh} {m : Md} {ta tb te tj tv ti : TE} {fa fb fe fj fv fi : VT}
theorem own_dct {fT fV : List Addr} {T : List Tm} {σ : L2.St} {e : Env} {H : Hp} {i : Nat} {f : Key → Sh} {d : D} (h : RX c fT fV T σ e H) (hM : c.M[i]? = some (.d f)) (hd : e[i]? = some (some d)) : ∃ ks l a vs, d = .dct ks l ∧ σ[i]? = some (some (.ref a)) ∧ H a = some (.dK (ks.zip vs)) ∧ ks.length = vs.length := by
  obtain ⟨v, fp, hv, ro, _⟩ := h.upd hM hd
  cases d <;> first | (simp only [RO] at ro; done) | skip
  simp only [RO] at ro
  obtain ⟨a, vs, fps, rfl, ha, hl, _⟩ := ro
  exact ⟨_, _, a, vs, rfl, hv, ha, hl⟩
/-- d[k] read -/
def vGetK (i : Nat) (k0 : Key) (fa : VT) : VT := fun e Q Qx => ∃ ks l, e[i]? = some (some (.dct ks l)) ∧ fa e (fun y e0 => y = kD k0 ∧ ∃ d, getK ks l k0 = some d ∧ Q d e0) Qx
theorem b_getK {i : Nat} {f : Key → Sh} (k0 : Key) (hM : c.M[i]? = some (.d f)) (hs : f k0 = .l .s) (ha : VB c ta fa) : VB c (tDGet (tVar i) ta) (vGetK i k0 fa) := fun fT fV T σ e H Q Qv Qx X ⟨ks, l, hd, hf⟩ hn => by
  obtain ⟨ks1, l1, a0, vs0, e0, hv0, ha0, hl0⟩ := own_dct X hM hd
  refine ⟨_, hv0, ha fT fV T σ e H _ _ Qx X hf fun y dy ry ⟨ey, d, hk, q⟩ => ?_⟩
  subst ey
  obtain ⟨a, vs, v, g, g0, hv, hha, hl, hval, ro, _⟩ := RX.ownK (X.pushS rs_non) hM hd hk
  rw [hv0] at hv
  cases hv
  rw [hs] at ro
  exact ⟨_, _, rfl, .inl ⟨_, k0, .inl hha, ry.key, hval.symm⟩, hn _ d ro.bl.1 q⟩
/-- d[k][j], a row of one's own, read -/
def vGetK2 (i : Nat) (k0 : Key) (fa fj : VT) : VT := fun e Q Qx => ∃ ks l rows, e[i]? = some (some (.dct ks l)) ∧ fa e (fun y e0 => y = kD k0 ∧ getK ks l k0 = some (.lst rows) ∧ fj e0 (fun z e1 => ∃ (j : Nat) (d : D), z = .int (j : Nat) ∧ rows[j]? = some d ∧ Q d e1) Qx) Qx
theorem b_getK2 {i : Nat} {f : Key → Sh} (k0 : Key) (hM : c.M[i]? = some (.d f)) (hs : f k0 = .l (.l .s)) (ha : VB c ta fa) (hj : VB c tj fj) : VB c (tOp (rIxL c.K) (tDGet (tVar i) ta) tj) (vGetK2 i k0 fa fj) := fun fT fV T σ e H Q Qv Qx X ⟨ks, l, rows, hd, hf⟩ hn => by
  obtain ⟨ks1, l1, a0, vs0, e0, hv0, ha0, hl0⟩ := own_dct X hM hd
  refine ⟨_, hv0, ha fT fV T σ e H _ _ Qx X hf fun y dy ry ⟨ey, hk, q⟩ => ?_⟩
  subst ey
  obtain ⟨a, vs, v, g, g0, hv, hha, hl, hval, ro, _⟩ := RX.ownK (X.pushS rs_non) hM hd hk
  rw [hv0] at hv
  cases hv
  rw [hs] at ro
  obtain ⟨l2, b, us, fps, e2, rfl, hb, rs, _⟩ := RO_ll.mp ro
  cases e2
  refine ⟨_, _, rfl, .inl ⟨_, k0, .inl hha, ry.key, hval.symm⟩, ?_⟩
  refine hj fT fV T σ e H _ _ Qx X q fun z dz rz ⟨j, d, ez, hj2, q⟩ => ?_
  subst ez
  obtain ⟨v2, g2, f1, f2, hv2, ro2, _⟩ := ROs_ix rs hj2
  exact ⟨b, us, _, v2, rfl, rz.int, .inl (.inl hb), by rw [atI_nat]; exact hv2, hn v2 d ro2.bl.1 q⟩
/-- d[k].append(v) -/
def vAppK (i : Nat) (k0 : Key) (fa fe : VT) : VT := fun e Q Qx => ∃ ks0 l0 xs0, e[i]? = some (some (.dct ks0 l0)) ∧ fa e (fun y e0 => y = kD k0 ∧ getK ks0 l0 k0 = some (.lst xs0) ∧ fe e0 (fun d e1 => ∃ ks l xs, e1[i]? = some (some (.dct ks l)) ∧ getK ks l k0 = some (.lst xs) ∧ xs.length < sizeLine ∧ Q .non (e1.set i (some (.dct ks (setK ks l k0 (.lst (xs ++ [d]))))))) Qx) Qx
theorem v_appKg {i : Nat} {f : Key → Sh} {es : Sh} (k0 : Key) (hM : c.M[i]? = some (.d f)) (hs : f k0 = .l es) (ha : VB c ta fa) (he : VE c W .n te es fe) : VE c W .e (tBM c.K "list" rAppend (tDGet (tVar i) ta) (tCons te tNil)) .s (vAppK i k0 fa fe) := fun T σ e H Q Qv Qx ⟨fT, fV, X⟩ ⟨ks0, l0, xs0, hd, hf⟩ hn hx => by
  obtain ⟨ks1, l1, a0, vs0, e0, hv0, ha0, hl0⟩ := own_dct X hM hd
  cases e0
  refine ⟨_, hv0, ha fT fV T σ e H _ _ Qx X hf fun y dy ry ⟨ey, hk, q⟩ => ?_⟩
  subst ey
  obtain ⟨a, vs, v, g, g0, hv, hha, hl, hval, ro, _⟩ := RX.ownK (X.pushS rs_non) hM hd hk
  rw [hv0] at hv
  cases hv
  rw [hs] at ro
  obtain ⟨l2, b, us, fps, e2, rfl, hb, rs, _⟩ := RO_ll.mp ro
  refine ⟨_, _, rfl, .inl ⟨_, k0, .inl hha, ry.key, hval.symm⟩, tyV_l hb, ?_⟩
  refine he T σ e H _ _ Qx ⟨fT, fV, X⟩ q (fun z dz e1 H1 R1 p1 ⟨ks, l, xs, hd2, hk2, hz, q2⟩ => ?_) hx
  have sm : Same H H1 := p1 rfl
  obtain ⟨fT1, fV1, X1⟩ := R1
  obtain ⟨a2, vs2, v2, g2, g3, hv2, hha2, hl2, hval2, ro2, r0, ow2, nd2, kk⟩ := RX.ownK X1 hM hd2 hk2
  rw [hv0] at hv2
  cases hv2
  have ev : v2 = .ref b := by
    have z1 := sm _ _ hha
    rw [hha2] at z1
    have z2 : ks.zip vs2 = ks0.zip vs := by injection z1 with z1; injection z1
    rw [z2, hval] at hval2
    injection hval2 with z3
    exact z3.symm
  subst ev
  rw [hs] at ro2
  obtain ⟨l3, b3, ws, fps2, e3, eb, hb2, rs2, eg⟩ := RO_ll.mp ro2
  cases e3
  cases eb
  subst eg
  have nfx : ∀ u, H1 b = some u → ¬ Fx u := fun u q => by rw [hb2] at q; cases q; exact id
  have ob : owOf c fT1 fV1 b := ow2 b (by simp)
  have nb : b ∉ fps2 ++ g3 := by
    have : (b :: (fps2 ++ g3)).Nodup := by simpa using nd2
    exact (List.nodup_cons.mp this).1
  have R2 := kk (L2.upd H1 b (.lst (ws ++ [z]))) (.lst (xs ++ [dz])) (b :: (fps2 ++ g3)) (fun x o q n => by rw [upd_ne (fun y => n (by rw [y]; simp))]; exact q) (ExtT.upd nfx) al_upd (by simpa using nd2) (fun x y => .inl (by simpa using y)) fun ow' how => by
    rw [hs]
    have h1 : ∀ x o, H1 x = some o → ¬ owOf c fT1 fV1 x → (L2.upd H1 b (.lst (ws ++ [z]))) x = some o := fun x o q n => by rw [upd_ne (fun y => n (by rw [y]; exact ob))]; exact q
    have h2 : ∀ x ∈ fps2 ++ g3, ∀ o, H1 x = some o → (L2.upd H1 b (.lst (ws ++ [z]))) x = some o := fun x y o q => by rw [upd_ne (fun u => nb (by rw [← u]; exact y))]; exact q
    exact RO_ll.mpr ⟨xs ++ [dz], b, ws ++ [z], fps2 ++ g3, rfl, rfl, upd_same, ROs_snoc (ROs.fr h1 (ExtT.upd nfx) how _ _ _ _ rs2 fun x y => h2 x (List.mem_append_left _ y)) (RO.fr h1 (ExtT.upd nfx) how _ _ _ _ r0 fun x y => h2 x (List.mem_append_right _ y)), rfl⟩
  obtain ⟨fT3, fV3, X3⟩ := R2
  exact ⟨b, ws, z, rfl, rfl, hb2, by rw [ROs_len rs2]; exact hz, hn _ _ _ _ ⟨fT3, fV3, X3.pushS rs_non⟩ Post.e q2⟩
/-- d[k][j].append(v) -/
def vAppK2 (i : Nat) (k0 : Key) (fa fj fe : VT) : VT := fun e Q Qx => ∃ ks0 l0 rows0, e[i]? = some (some (.dct ks0 l0)) ∧ fa e (fun y e0 => y = kD k0 ∧ getK ks0 l0 k0 = some (.lst rows0) ∧ fj e0 (fun z e1 => ∃ (j : Nat) (xs0 : List D), z = .int (j : Nat) ∧ rows0[j]? = some (.lst xs0) ∧ fe e1 (fun d e2 => ∃ ks l rows xs, e2[i]? = some (some (.dct ks l)) ∧ getK ks l k0 = some (.lst rows) ∧ rows[j]? = some (.lst xs) ∧ xs.length < sizeLine ∧ Q .non (e2.set i (some (.dct ks (setK ks l k0 (.lst (rows.set j (.lst (xs ++ [d]))))))))) Qx) Qx) Qx
theorem v_appK2 {i : Nat} {f : Key → Sh} (k0 : Key) (hM : c.M[i]? = some (.d f)) (hs : f k0 = .l (.l .s)) (ha : VB c ta fa) (hj : VB c tj fj) (he : VE c W .n te .s fe) : VE c W .e (tBM c.K "list" rAppend (tOp (rIxL c.K) (tDGet (tVar i) ta) tj) (tCons te tNil)) .s (vAppK2 i k0 fa fj fe) := fun T σ e H Q Qv Qx ⟨fT, fV, X⟩ ⟨ks0, l0, rows0, hd, hf⟩ hn hx => by
  obtain ⟨ks1, l1, a0, vs0, e0, hv0, ha0, hl0⟩ := own_dct X hM hd
  cases e0
  refine ⟨_, hv0, ha fT fV T σ e H _ _ Qx X hf fun y dy ry ⟨ey, hk, q⟩ => ?_⟩
  subst ey
  obtain ⟨a, vs, v, g, g0, hv, hha, hl, hval, ro, _⟩ := RX.ownK (X.pushS rs_non) hM hd hk
  rw [hv0] at hv
  cases hv
  rw [hs] at ro
  obtain ⟨l2, b, us, fps, e2, rfl, hb, rs, _⟩ := RO_ll.mp ro
  cases e2
  refine ⟨_, _, rfl, .inl ⟨_, k0, .inl hha, ry.key, hval.symm⟩, ?_⟩
  refine hj fT fV T σ e H _ _ Qx X q fun y dy ry ⟨j, xs0, ej, hj0, q⟩ => ?_
  subst ej
  obtain ⟨vj, gj, j1, j2, hvj, roj, _⟩ := ROs_ix rs hj0
  obtain ⟨l5, bj, uj, ej, rfl, hbj, _, _⟩ := RO_l.mp roj
  refine ⟨b, us, _, .ref bj, rfl, ry.int, .inl (.inl hb), by rw [atI_nat]; exact hvj, tyV_l hbj, ?_⟩
  refine he T σ e H _ _ Qx ⟨fT, fV, X⟩ q (fun z dz e1 H1 R1 p1 ⟨ks, l, rows, xs, hd2, hk2, hr2, hz, q2⟩ => ?_) hx
  have sm : Same H H1 := p1 rfl
  obtain ⟨fT1, fV1, X1⟩ := R1
  obtain ⟨a2, vs2, v2, g2, g3, hv2, hha2, hl2, hval2, ro2, r0, ow2, nd2, kk⟩ := RX.ownK X1 hM hd2 hk2
  rw [hv0] at hv2
  cases hv2
  have ev : v2 = .ref b := by
    have z1 := sm _ _ hha
    rw [hha2] at z1
    have z2 : ks.zip vs2 = ks0.zip vs := by injection z1 with z1; injection z1
    rw [z2, hval] at hval2
    injection hval2 with z3
    exact z3.symm
  subst ev
  rw [hs] at ro2
  obtain ⟨l3, b3, ws, fps2, e3, eb, hb2, rs2, eg⟩ := RO_ll.mp ro2
  cases e3
  cases eb
  subst eg
  have ew : ws = us := by
    have := sm _ _ hb
    rw [hb2] at this
    injection this with this
    injection this
  subst ew
  obtain ⟨wj, gj2, f1, f2, hwj, rj, efp, kj⟩ := ROs_ix rs2 hr2
  rw [hvj] at hwj
  cases hwj
  obtain ⟨l6, b6, xj, e6, e7, hbj2, rsj, eg2⟩ := RO_l.mp rj
  cases e6
  cases e7
  subst eg2 efp
  have z0 := RO_s.mp r0
  obtain ⟨rfl, rz⟩ := z0
  have nfx : ∀ u, H1 bj = some u → ¬ Fx u := fun u q => by rw [hbj2] at q; cases q; exact id
  have ob : owOf c fT1 fV1 bj := ow2 bj (by simp)
  have nd3 : (bj :: (b :: (f1 ++ f2))).Nodup := by
    have p1 : List.Perm ((b :: (f1 ++ ([bj] ++ f2))) ++ []) (bj :: (b :: (f1 ++ f2))) := by
      rw [List.perm_iff_count]
      intro x
      simp only [List.count_append, List.count_cons, List.count_nil]
      omega
    exact p1.nodup nd2
  have nb := (List.nodup_cons.mp nd3).1
  have R2 := kk (L2.upd H1 bj (.lst (xj ++ [z]))) (.lst (rows.set j (.lst (xs ++ [dz])))) (b :: (f1 ++ ([bj] ++ f2))) (fun x o q n => by rw [upd_ne (fun y => n (by rw [y]; simp))]; exact q) (ExtT.upd nfx) al_upd (by simpa using nd2) (fun x y => .inl (by simpa using y)) fun ow' how => by
    rw [hs]
    have F : Fr (owOf c fT1 fV1) H1 (L2.upd H1 bj (.lst (xj ++ [z]))) := ⟨fun x o q n => by rw [upd_ne (fun y => n (by rw [y]; exact ob))]; exact q, ExtT.upd nfx⟩
    have h2 : ∀ x ∈ b :: (f1 ++ f2), ∀ o, H1 x = some o → (L2.upd H1 bj (.lst (xj ++ [z]))) x = some o := fun x y o q => by rw [upd_ne (fun u => nb (by rw [← u]; exact y))]; exact q
    refine RO_ll.mpr ⟨_, b, ws, _, rfl, rfl, h2 b List.mem_cons_self _ hb2, kj F.1 F.2 how (fun x y => h2 x (List.mem_cons_of_mem _ y)) (RO_l.mpr ⟨xs ++ [dz], bj, xj ++ [z], rfl, rfl, upd_same, RSs.app (.cons (RS.fr F how _ _ rz) .nil) (RSs.fr F how _ _ rsj), rfl⟩), rfl⟩
  obtain ⟨fT3, fV3, X3⟩ := R2
  exact ⟨bj, xj, z, rfl, rfl, hbj2, by rw [rsj.len]; exact hz, hn _ _ _ _ ⟨fT3, fV3, X3.pushS rs_non⟩ Post.e q2⟩
/-- d[k][key] = v -/
def vNPutK (P : Program) (w : World) (i : Nat) (k0 : Key) (fa fi fv : VT) : VTS := fun D e => fv e (fun y e1 => ∃ ks0 l0 d0, e1[i]? = some (some (.dct ks0 l0)) ∧ fa e1 (fun yk e2 => yk = kD k0 ∧ getK ks0 l0 k0 = some d0 ∧ fi e2 (fun dk e3 => ∃ ks l t nk nl k, e3[i]? = some (some (.dct ks l)) ∧ getK ks l k0 = some (.nd P w t nk nl) ∧ keyD t dk = some k ∧ nk.length < sizeLine ∧ D.nx (e3.set i (some (.dct ks (setK ks l k0 (.nd P w t (pG nk k) (pGV nk nl k y))))))) D.ex) D.ex) D.ex
theorem vs_nputK {P : Program} {w : World} {i : Nat} {f : Key → Sh} (k0 : Key) (hM : c.M[i]? = some (.d f)) (hs : f k0 = .n) (ha : VB c ta fa) (hv : VE c W .e tv .s fv) (hi : VE c W .n ti .s fi) : VS c W rsh (Fb.sNPut c.K P w (tDGet (tVar i) ta) ti tv) (vNPutK P w i k0 fa fi fv) := fun T σ e H D Dv hR hf L =>
  hv T σ e H _ _ Dv.ex hR hf (fun y dy e1 H1 R1 _ q => by
    obtain ⟨ks0, l0, d0, hd, q⟩ := q
    obtain ⟨fT, fV, X1⟩ := R1
    obtain ⟨ks1, l1, a0, vs0, e0, hv0, ha0, hl0⟩ := own_dct X1 hM hd
    cases e0
    refine ⟨_, hv0, ha fT fV _ σ e1 H1 _ _ Dv.ex X1 q fun yk dk rk ⟨ek, hk, q3⟩ => ?_⟩
    subst ek
    obtain ⟨a, vs, v, g, g0, hv1, hha, hl, hval, ro, _⟩ := RX.ownK (X1.pushS rs_non) hM hd hk
    rw [hv0] at hv1
    cases hv1
    rw [hs] at ro
    obtain ⟨P1, w1, t1, nk1, nl1, b, us, rfl, rfl, _, _, _, _⟩ := RO_n ro
    refine ⟨_, _, rfl, .inl ⟨_, k0, .inl hha, rk.key, hval.symm⟩, ?_⟩
    refine hi _ σ e1 H1 _ _ Dv.ex ⟨fT, fV, X1⟩ q3 (fun kv dk2 e2 H2 R2 p2 ⟨ks, l, t, nk, nl, k, hd2, hk2, ek2, hz, q4⟩ => ?_) (fun x d e' H' r y q => L.ex x d σ e' H' r.pop y q)
    have sm : Same H1 H2 := p2 rfl
    obtain ⟨gT, gV, X2⟩ := R2
    obtain ⟨rkk, X2⟩ := X2.topS
    obtain ⟨a2, vs2, v2, g2, g3, hv2, hha2, hl2, hval2, ro2, r0, ow2, nd2, kk⟩ := RX.ownK X2 hM hd2 hk2
    rw [hv0] at hv2
    cases hv2
    have ev : v2 = .ref b := by
      have z1 := sm _ _ hha
      rw [hha2] at z1
      have z2 : ks.zip vs2 = ks0.zip vs := by injection z1 with z1; injection z1
      rw [z2, hval] at hval2
      injection hval2 with z3
      exact z3.symm
    subst ev
    rw [hs] at ro2
    obtain ⟨P2, w2, t2, nk2, nl2, b2, ws, e5, eb, nd, hn2, rs, eg⟩ := RO_n ro2
    cases e5
    cases eb
    subst eg
    obtain ⟨rfl, ry⟩ := RO_s.mp r0
    obtain ⟨o, hput, nd3, u, hu, nf⟩ := nda_put (v := y) nd hn2 (key_v rkk ek2) hz
    have nfx : ∀ u', H2 b = some u' → ¬ Fx u' := fun u' q => by rw [hu] at q; cases q; exact nf
    have ob : owOf c gT gV b := ow2 b (by simp)
    have R3 := kk (L2.upd H2 b o) (.nd P w t (pG nk k) (pGV nk nl k dy)) [b] (fun x o q n => by rw [upd_ne (fun y => n (by rw [y]; simp))]; exact q) (ExtT.upd nfx) al_upd (by simp) (fun x y => .inl (by simpa using y)) fun ow' how => by
      rw [hs]
      have F : Fr (owOf c gT gV) H2 (L2.upd H2 b o) := ⟨fun x o q n => by rw [upd_ne (fun y => n (by rw [y]; exact ob))]; exact q, ExtT.upd nfx⟩
      exact RO.ncell nd3 (pG_len hn2) (RSs.pGV (RS.fr F how _ _ ry) (RSs.fr F how _ _ rs))
    exact ⟨b, _, rfl, hput, L.nx σ _ _ R3 q4⟩) (fun x d e' H' r y q => L.ex x d σ e' H' r y q)
end
end VL
namespace VL
open PySem PySem.Spec PyProof.Rows L2
section
variable {K : PySem.W.Frag} {ow ow' : Addr → Prop} {H H' : Hp}
theorem ROs_app : ∀ {l l2 : List D} {s s2 : List Sh} {vs ws : List V} {fp gp : List Addr}, ROs K ow H l s vs fp → ROs K ow H l2 s2 ws gp → ROs K ow H (l ++ l2) (s ++ s2) (vs ++ ws) (fp ++ gp)
  | [], l2, s, s2, vs, ws, fp, gp, h, k => by
    simp only [ROs] at h
    obtain ⟨rfl, rfl, rfl⟩ := h
    exact k
  | d :: l, l2, s, s2, vs, ws, fp, gp, h, k => by
    simp only [ROs] at h
    obtain ⟨sh, shs', v, vs', f1, f2, rfl, rfl, rfl, h1, h2⟩ := h
    have z := ROs_app h2 k
    simp only [List.cons_append, ROs]
    exact ⟨sh, _, v, _, f1, f2 ++ gp, rfl, rfl, by simp, h1, z⟩
end
section
variable {c : Vc} {W : XW} {rsh : Sh} {m : Md} {ta tb te tj tv ti : TE} {fa fb fe fj fv fi : VT} {trs : List (TE × TE)} {fp : VTP} {f : Key → Sh}
abbrev mkTmF (f : Key → Sh) (kd : Key × D) (v : V) : Tm := (f kd.1, v, kd.2)
def VPsF (c : Vc) (W : XW) (m : Md) (f : Key → Sh) (trs : List (TE × TE)) (fp : VTP) : Prop := ∀ (T : List Tm) (σ : L2.St) (e : Env) (H : Hp) (Q : List (V × V) → Hp → Prop) (Qv : List (Key × D) → Env → Prop) (Qx : QX), R c T σ e H → fp e Qv Qx →
  (∀ (kds : List (Key × D)) (vs : List V) e' H', vs.length = kds.length → R c ((List.zipWith (mkTmF f) kds vs).reverse ++ T) σ e' H' → Post m H H' e e' → Qv kds e' → Q (List.zipWith (fun kd v => (kV kd.1, v)) kds vs) H') → (∀ x d e' H', R c T σ e' H' → XAt H' x d → Qx x e' → W (.ref x.C) d σ H') → tPairs trs σ H Q
def vpConsK (k0 : Key) (fa fb : VT) (r : VTP) : VTP := fun e Q Qx => fa e (fun kd e1 => kd = kD k0 ∧ fb e1 (fun d e2 => r e2 (fun ps e3 => Q ((k0, d) :: ps) e3) Qx) Qx) Qx
theorem vpf_nil : VPsF c W m f [] vpNil := fun T σ e H Q Qv Qx hR hf hn hx => hn [] [] e H rfl hR (Post.refl _ _ _) hf
theorem vpf_cons (k : Key) {sh : Sh} (hs : f k = sh) (ha : VE c W m ta .s fa) (hb : VE c W m tb sh fb) (hr : VPsF c W m f trs fp) : VPsF c W m f ((ta, tb) :: trs) (vpConsK k fa fb fp) := fun T σ e H Q Qv Qx hR hf hn hx => by
  subst hs
  refine ha T σ e H _ _ Qx hR hf (fun x dx e1 H1 R1 P1 ⟨ek, h1⟩ => ?_) hx
  subst ek
  have ex : x = kV k := by
    obtain ⟨fT, fV, X1⟩ := R1
    exact X1.topS.1.b.key
  subst ex
  refine hb T σ e1 H1 _ _ Qx R1.pop h1 (fun y dy e2 H2 R2 P2 h2 => ?_) hx
  refine hr _ σ e2 H2 _ _ Qx R2 h2 (fun kds vs e3 H3 hl R3 P3 h3 => ?_) (fun xn d e' H' R' X' q' => hx xn d e' H' R'.pop X' q')
  refine hn ((k, dy) :: kds) (y :: vs) e3 H3 (by simp [hl]) ?_ (P1.trans (P2.trans P3)) h3
  rw [List.zipWith_cons_cons, List.reverse_cons, List.append_assoc]
  exact R3
theorem RT_revF {K : PySem.W.Frag} {ow : Addr → Prop} {H : Hp} : ∀ {kds : List (Key × D)} {vs : List V} {T : List Tm} {fp : List Addr}, vs.length = kds.length → RT K ow H ((List.zipWith (mkTmF f) kds vs).reverse ++ T) fp →
    ∃ f1 fps f2, fp = f1 ++ f2 ∧ f1.Perm fps ∧ ROs K ow H (kds.map (·.2)) (kds.map fun kd => f kd.1) vs fps ∧ RT K ow H T f2
  | [], [], T, fp, _, h => ⟨[], [], fp, rfl, .nil, by simp only [List.map_nil, ROs]; exact ⟨trivial, trivial, trivial⟩, h⟩
  | [], _ :: _, _, _, hl, _ => by cases hl
  | _ :: _, [], _, _, hl, _ => by cases hl
  | kd :: kds, v :: vs, T, fp, hl, h => by
    rw [List.zipWith_cons_cons, List.reverse_cons, List.append_assoc] at h
    obtain ⟨f1, fps, f2, e1, p1, r1, ⟨g1, g2, e2, h1, h2⟩⟩ := RT_revF (Nat.succ.inj hl) h
    subst e1 e2
    refine ⟨f1 ++ g1, g1 ++ fps, g2, by simp, (List.perm_append_comm).trans (p1.append_left g1), ?_, h2⟩
    simp only [List.map_cons, ROs]
    exact ⟨_, _, v, vs, g1, fps, rfl, rfl, rfl, h1, r1⟩
theorem RX.dispF {fT fV : List Addr} {T : List Tm} {σ : L2.St} {e : Env} {H : Hp} {p : Addr} {kds : List (Key × D)} {vs : List V} (h : RX c fT fV ((List.zipWith (mkTmF f) kds vs).reverse ++ ((.d fun _ => .s, .ref p, .dct [] []) :: T)) σ e H) (hl : vs.length = kds.length) :
    H p = some (.dK []) ∧ ∃ fT', RX c fT' fV ((.d f, .ref p, .dct (kds.map (·.1)) (kds.map (·.2))) :: T) σ e (L2.upd H p (.dK ((kds.map (·.1)).zip vs))) := by
  obtain ⟨f1, fps, f2, e1, p1, r1, ⟨g1, g2, e2, h1, h2⟩⟩ := RT_revF hl h.tm
  subst e1 e2
  simp only [RO] at h1
  obtain ⟨a, us, gs, ea, ha, hus, t, rfl⟩ := h1
  cases ea
  simp only [ROs, List.map_nil] at t
  obtain ⟨-, rfl, rfl⟩ := t
  have ha : H p = some (.dK []) := ha
  refine ⟨ha, p :: fps ++ g2, ?_⟩
  have nfx : ∀ u, H p = some u → ¬ Fx u := fun u z => by rw [ha] at z; cases z; exact id
  have mem : ∀ x, x ∈ (p :: fps ++ g2) ++ fV ↔ x ∈ (f1 ++ ([p] ++ g2)) ++ fV := fun x => by
    have := p1.mem_iff (a := x)
    simp only [List.mem_append, List.mem_cons, List.mem_singleton, this]
    grind
  have how : ∀ a, owOf c (p :: fps ++ g2) fV a → owOf c (f1 ++ ([p] ++ g2)) fV a ∨ H a = none := fun a z => .inl (z.imp (fun y => (mem a).mp y) id)
  have op : owOf c (f1 ++ ([p] ++ g2)) fV p := .inl (by simp)
  have hk : ∀ b o, H b = some o → ¬ owOf c (f1 ++ ([p] ++ g2)) fV b → (L2.upd H p (.dK ((kds.map (·.1)).zip vs))) b = some o := fun b o q n => by
    rw [upd_ne (fun z => n (by rw [z]; exact op))]
    exact q
  have n := h.nd
  have pm : List.Perm ((f1 ++ ([p] ++ g2)) ++ fV) ((p :: fps ++ g2) ++ fV) := by
    refine List.Perm.append_right _ ?_
    rw [List.singleton_append]
    exact List.perm_middle.trans (List.Perm.cons _ (p1.append_right g2))
  have n2 := pm.nodup n
  have np : p ∉ fps ++ g2 ++ fV := by
    have : (p :: (fps ++ g2 ++ fV)).Nodup := by simpa using n2
    exact (List.nodup_cons.mp this).1
  have ko : ∀ b, b ≠ p → ∀ o, H b = some o → (L2.upd H p (.dK ((kds.map (·.1)).zip vs))) b = some o := fun b z o q => by rw [upd_ne z]; exact q
  refine ⟨⟨p :: fps, g2, rfl, ?_, h2.fr hk (ExtT.upd nfx) how fun b z => ko b fun y => np (by rw [← y]; simp [z])⟩, h.vr.fr hk (ExtT.upd nfx) how fun b z => ko b fun y => np (by rw [← y]; simp [z]), n2, fun a z => h.fr a ((mem a).mp z), fun b o q nio => ?_, h.tp.trans (ExtT.upd nfx), fun b q => al_upd b (h.al b q), h.ok, h.rt⟩
  · simp only [RO]
    refine ⟨p, vs, fps, rfl, upd_same, by rw [List.length_map, hl], ?_, rfl⟩
    rw [List.map_map]
    exact ROs.fr hk (ExtT.upd nfx) how _ _ _ _ r1 fun b z => ko b fun y => np (by rw [← y]; simp [z])
  · have bp : b ≠ p := fun z => by
      rcases h.fr p (by simp) with y | y
      · exact nio (z ▸ y)
      · rw [z, y] at q; cases q
    rw [upd_ne bp]
    exact h.kp b o q nio
theorem v_dispF (hp : VPsF c W m f trs fp) : VE c W m (tDisp trs) (.d f) (vDisp fp) := fun T σ e H Q Qv Qx hR hf hn hx => by
  intro p np
  obtain ⟨fT0, fV0, X0⟩ := hR
  have X1 : RX c ([p] ++ fT0) fV0 ((.d fun _ => .s, .ref p, .dct [] []) :: T) σ e (upd H p (.dK [])) := X0.pushO (same_new np) (by simp) (fun a z => by rw [List.mem_singleton.mp z]; exact np) (by
    simp only [RO]
    exact ⟨p, [], [], rfl, upd_same, rfl, by simp only [ROs, List.map_nil]; exact ⟨trivial, trivial, trivial⟩, rfl⟩)
  refine hp _ σ e _ _ _ Qx ⟨_, _, X1⟩ hf (fun kds vs e1 H1 hl ⟨fT, fV, X2⟩ P q => ?_) (fun xn d e' H' R' X' q' => hx xn d e' H' R'.pop X' q')
  obtain ⟨nd, h15, q⟩ := q
  have nd : (kds.map (·.1)).Nodup := of_decide_eq_true nd
  obtain ⟨ha, fT', X3⟩ := X2.dispF hl
  have hlz : ((kds.map (·.1)).zip vs).length = kds.length := by rw [List.length_zip, List.length_map, hl, Nat.min_self]
  refine ⟨ha, (kds.map (·.1)).zip vs, ?_, by rw [hlz]; exact h15, ?_⟩
  · rw [List.zip_map_left, List.map_map, List.zip_eq_zipWith, List.map_zipWith]
    rfl
  have em : mergeK [] ((kds.map (·.1)).zip vs) = (kds.map (·.1)).zip vs := by
    rw [merge_nodup _ [] (by
      rw [List.nil_append, List.map_fst_zip (by rw [List.length_map, hl]; exact Nat.le_refl _)]
      exact nd)]
    rfl
  rw [em]
  refine hn _ _ e1 _ ⟨_, fV, X3⟩ (fun z => ?_) q
  intro b o eb
  rw [upd_ne (ne_of_none eb np)]
  exact P z b o (by rw [upd_ne (ne_of_none eb np)]; exact eb)
/-- d.update(e), all keys new -/
def vUpdF (i : Nat) (fe : VT) : VT := fun e Q Qx => (∃ ks l, e[i]? = some (some (.dct ks l))) ∧ fe e (fun y e1 => ∃ ks l ks2 l2, y = .dct ks2 l2 ∧ e1[i]? = some (some (.dct ks l)) ∧ decide ((ks ++ ks2).Nodup) = true ∧ ks.length + ks2.length ≤ sizeLine ∧ Q .non (e1.set i (some (.dct (ks ++ ks2) (l ++ l2))))) Qx
theorem v_updF {i : Nat} (hM : c.M[i]? = some (.d f)) (he : VE c W .e te (.d f) fe) : VE c W .e (tBM c.K "dict" Fb.rUpdD (tVar i) (tCons te tNil)) .s (vUpdF i fe) := fun T σ e H Q Qv Qx ⟨fT, fV, X⟩ ⟨⟨ks0, l0, hl0⟩, hf⟩ hn hx => by
  obtain ⟨ks1, l1, a0, vs0, e0, hv, ha0, _⟩ := own_dct X hM hl0
  refine ⟨_, hv, tyV_d ha0, ?_⟩
  refine he T σ e H _ _ Qx ⟨fT, fV, X⟩ hf (fun y dy e1 H1 ⟨fT1, fV1, X1⟩ _ ⟨ks, l, ks2, l2, ey, hl, nk, hz, q⟩ => ?_) hx
  subst ey
  have nk : (ks ++ ks2).Nodup := of_decide_eq_true nk
  obtain ⟨v, fp, g, hv1, ro, r0, sub, nd, kk⟩ := X1.updM hM hl
  rw [hv] at hv1
  cases hv1
  simp only [RO] at ro r0
  obtain ⟨a, vs, fps, ea, ha, hlen, t, rfl⟩ := ro
  cases ea
  obtain ⟨b, ws, gps, rfl, hb, hlen2, t2, rfl⟩ := r0
  have nd2 : (a0 :: (b :: (fps ++ gps))).Nodup := by
    have p1 : List.Perm ((a0 :: fps) ++ (b :: gps)) (a0 :: (b :: (fps ++ gps))) := by
      rw [List.perm_iff_count]
      intro x
      simp only [List.count_append, List.count_cons]
      omega
    exact p1.nodup nd
  obtain ⟨n1, n2⟩ := List.nodup_cons.mp nd2
  have hab : a0 ≠ b := fun z => n1 (by rw [z]; simp)
  have nfx : ∀ u, H1 a0 = some u → ¬ Fx u := fun u q => by rw [ha] at q; cases q; exact id
  have oa : owOf c fT1 fV1 a0 := .inl (sub a0 (by simp))
  have em : mergeK (ks.zip vs) (ks2.zip ws) = (ks ++ ks2).zip (vs ++ ws) := by
    rw [merge_nodup _ _ (by
      rw [List.map_append, List.map_fst_zip (Nat.le_of_eq hlen), List.map_fst_zip (Nat.le_of_eq hlen2)]
      exact nk), List.zip_append hlen]
  have R2 := kk (L2.upd H1 a0 (.dK ((ks ++ ks2).zip (vs ++ ws)))) (.dct (ks ++ ks2) (l ++ l2)) (a0 :: (fps ++ gps)) (fun x o q n => by rw [upd_ne (fun y => n (by rw [y]; simp))]; exact q) (ExtT.upd nfx) al_upd (by
    rw [List.nodup_cons] at n2 ⊢
    exact ⟨fun z => n1 (List.mem_cons_of_mem _ z), n2.2⟩) (fun x z => .inl (by
      rcases List.mem_cons.mp z with z | z
      · simp [z]
      · rcases List.mem_append.mp z with z | z <;> simp [z])) fun ow' how => by
    have h1 : ∀ x o, H1 x = some o → ¬ owOf c fT1 fV1 x → (L2.upd H1 a0 (.dK ((ks ++ ks2).zip (vs ++ ws)))) x = some o := fun x o q n => by rw [upd_ne (fun y => n (by rw [y]; exact oa))]; exact q
    have h2 : ∀ x ∈ fps ++ gps, ∀ o, H1 x = some o → (L2.upd H1 a0 (.dK ((ks ++ ks2).zip (vs ++ ws)))) x = some o := fun x y o q => by rw [upd_ne (fun u => n1 (by rw [← u]; exact List.mem_cons_of_mem _ y))]; exact q
    simp only [RO]
    refine ⟨a0, vs ++ ws, fps ++ gps, rfl, upd_same, by simp [hlen, hlen2], ?_, rfl⟩
    rw [List.map_append]
    exact ROs_app (ROs.fr h1 (ExtT.upd nfx) how _ _ _ _ t fun x y => h2 x (List.mem_append_left _ y)) (ROs.fr h1 (ExtT.upd nfx) how _ _ _ _ t2 fun x y => h2 x (List.mem_append_right _ y))
  obtain ⟨fT3, fV3, X3⟩ := R2
  refine ⟨a0, b, ks.zip vs, ks2.zip ws, rfl, rfl, hab, ha, .inl hb, by rw [List.length_zip, List.length_zip, ← hlen, ← hlen2, Nat.min_self, Nat.min_self]; exact hz, ?_⟩
  rw [em]
  exact hn _ _ _ _ ⟨fT3, fV3, X3.pushS rs_non⟩ Post.e q
end
end VL
/-! ### the law's book: lists, a list of lists, a dict with tuples for keys; dict(d) -/
namespace VL
open PySem PySem.Spec PyProof.Rows L2
def bkF : Key → Sh := fun k => if k = .inr (Str.ofString "made") then .l (.l .s) else if k = .inr (Str.ofString "inner") then .n else .l .s
abbrev bkSh : Sh := .d bkF
theorem bk_made : bkF (.inr (Str.ofString "made")) = .l (.l .s) := if_pos rfl
theorem bk_inner : bkF (.inr (Str.ofString "inner")) = .n := by
  unfold bkF
  rw [if_neg (by decide +kernel), if_pos rfl]
theorem bk_o {x : Str} (h1 : x ≠ Str.ofString "made") (h2 : x ≠ Str.ofString "inner") : bkF (.inr x) = .l .s := by
  unfold bkF
  rw [if_neg (by intro z; injection z with z; exact h1 z), if_neg (by intro z; injection z with z; exact h2 z)]
def rDictC : List V → Hp → VK → Prop := fun xs H Q => ∃ (a : Addr) (kvs : List (Key × V)), xs = [.ref a] ∧ Rd H a (.dK kvs) ∧ ∀ p, H p = none → Q (.ref p) (upd H p (.dK kvs))
theorem dictCK {X : Cx} : CallR X (.type "dict") rDictC := call_dictD
section
variable {c : Vc} {W : XW} {rsh : Sh} {m : Md} {tA : TA} {fA : VTA}
def vEmp : VT := fun e Q _ => Q (.lst []) e
theorem v_emp {sh : Sh} : VE c W m (tLst tNil) (.l sh) vEmp := fun T σ e H Q Qv Qx ⟨fT, fV, X⟩ hf hn hx => ⟨by show 0 ≤ sizeLine; decide, fun p np => hn _ _ e _ ⟨[p] ++ fT, fV, X.pushO (same_new np) (by simp) (fun a z => by rw [List.mem_singleton.mp z]; exact np) (RO_ll.mpr ⟨[], p, [], [], rfl, rfl, upd_same, by simp only [List.map_nil, ROs]; exact ⟨trivial, trivial, trivial⟩, rfl⟩)⟩ (Post.same (same_new np)) hf⟩
def vDictC (fA : VTA) : VT := fun e Q Qx => fA e (fun ds e1 => ∃ ks l, ds = [.dct ks l] ∧ Q (.dct ks l) e1) Qx
theorem v_dictC (hA : VBA c tA fA) : VE c W m (tCB rDictC tA) dsh (vDictC fA) := fun T σ e H Q Qv Qx ⟨fT, fV, hR⟩ hf hn hx =>
  hA fT fV T σ e H _ _ Qx hR hf fun vs ds rs ⟨ks, l, ed, q⟩ => by
    subst ed
    obtain ⟨v, rfl, rb⟩ := pr1 rs
    obtain ⟨a, us, rfl, rd, hl, r⟩ := rb.dct
    refine ⟨a, _, rfl, rd, fun p np => ?_⟩
    refine hn _ _ e _ ⟨[p] ++ fT, fV, hR.pushO (same_new np) (by simp) (fun a z => by rw [List.mem_singleton.mp z]; exact np) (RO_dd.mpr ⟨_, _, p, _, rfl, rfl, upd_same, hl, ?_, rfl⟩)⟩ (Post.same (same_new np)) q
    exact RSs.fr (Fr.same (same_new np)) (ow_grow (fp := [p]) (fun a z => by rw [List.mem_singleton.mp z]; exact np)) _ _ r
end
end VL
set_option Elab.async false
set_option linter.all false
set_option maxRecDepth 100000
set_option maxHeartbeats 2000000
/-! ### for .. in zip(a, b), both lists or both tuples -/
namespace VL
open PySem PySem.Spec PyProof.Rows L2 RZ
theorem pi_zipAK {X : Cx} {e e2 : Expr} {ta : TA} {p pos tpos : Pos} {elts : List Expr} {kk : Nat} (K : PySem.W.Frag) (hK : X.K = K) (hg : Gl X "zip") (hm : X.mg "zip" = none) (ha : PA X [e, e2] ta)
    (h1 : starEach [e, e2] X.env = (false, eval e X.env) :: starEach [e2] X.env := by rfl) (h2 : (backTo pos (starEach [e2] X.env)).any (·.1) = false := by rfl) : PI X (.Tuple elts kk tpos) (.Call (.Name "zip" p) [e, e2] [] pos) (iZipA K ta) := by
  subst hK
  exact pi_zipA hg hm ha h1 h2
section
variable {c : Vc} {W : XW} {m : Md} {tA : TA} {fA : VTA}
def vZipA (fA : VTA) : VTI := fun e Q Qx => fA e (fun ds e1 => ∃ l r : List D, (ds = [.lst l, .lst r] ∨ ds = [.tup l, .tup r]) ∧ Q (zipD l r) e1) Qx
theorem vi_zipA (hA : VA c W m tA fA) : VI c W m (iZipA c.K tA) (vZipA fA) := fun T σ e H Rk Qv Qx hR hf hn hx =>
  hA T σ e H _ _ Qx hR hf (fun fT0 fV0 vs ds e1 H1 X1 rs p ⟨l, r, hl, q⟩ => by
    have lz : (zipD l r).length = min l.length r.length := by simp [zipD]
    rcases hl with hl | hl
    · subst hl
      simp only [RSs] at rs
      obtain ⟨u, r0, rfl, ru, v, r1, rfl, rv, rfl⟩ := rs
      have key : ∀ (w : V) (l : List D) fT fV T σ e H, RX c fT fV T σ e H → ((.s, w, .lst l) : Tm) ∈ T → ∃ a vs, w = .ref a ∧ LsS c.K (owOf c fT fV) H a vs ∧ RSs c.K (owOf c fT fV) H l vs := fun w l fT fV T σ e H hX hm => by
        have r := hX.mem hm rfl
        simpa only [RS] using r
      have X2 := (X1.pushS ru).pushS rv
      obtain ⟨a, xs, rfl, sa, ra⟩ := key u l _ _ _ σ e1 H1 X2 (by simp)
      obtain ⟨b, ys, rfl, sb, rb⟩ := key v r _ _ _ σ e1 H1 X2 (by simp)
      refine ⟨a, b, xs, ys, rfl, .inl ⟨sa.sq, sb.sq, hn (Itz c.K a b) [(.s, .ref b, .lst r), (.s, .ref a, .lst l)] _ e1 H1 ⟨fun t z => by rcases List.mem_cons.mp z with rfl | z; rfl; rw [List.mem_singleton.mp z], ?_, ?_, ?_⟩ ⟨_, _, X2⟩ p q⟩⟩
      · intro fT fV T σ e H i hX hm hi
        obtain ⟨_, xs, ea, s1, r1⟩ := key (.ref a) l fT fV T σ e H hX (hm _ (by simp))
        obtain ⟨_, ys, eb, s2, r2⟩ := key (.ref b) r fT fV T σ e H hX (hm _ (by simp))
        cases ea
        cases eb
        have h1 : i < xs.length := by rw [r1.len]; omega
        have h2 : i < ys.length := by rw [r2.len]; omega
        exact ⟨xs, ys, _, _, s1.sq, s2.sq, List.getElem?_eq_getElem h1, List.getElem?_eq_getElem h2⟩
      · rintro fT fV T σ e H i x H' hX hm hi ⟨T', x1, y1, rfl, hT, rfl, hx1, hy1⟩
        obtain ⟨_, xs, ea, s1, r1⟩ := key (.ref a) l fT fV T σ e H hX (hm _ (by simp))
        obtain ⟨_, ys, eb, s2, r2⟩ := key (.ref b) r fT fV T σ e H hX (hm _ (by simp))
        cases ea
        cases eb
        obtain ⟨d1, e1, f1⟩ := r1.getV (hx1 xs s1.sq)
        obtain ⟨d2, e2, f2⟩ := r2.getV (hy1 ys s2.sq)
        refine ⟨same_new hT, .tup [d1, d2], by rw [zipD_get, e1, e2], ?_⟩
        simp only [RS]
        exact ⟨T', _, rfl, SqT.of upd_same, .cons (RS.fr (Fr.same (same_new hT)) (fun _ z => .inl z) _ _ f1) (.cons (RS.fr (Fr.same (same_new hT)) (fun _ z => .inl z) _ _ f2) .nil)⟩
      · intro fT fV T σ e H i hX hm hi
        obtain ⟨_, xs, ea, s1, r1⟩ := key (.ref a) l fT fV T σ e H hX (hm _ (by simp))
        obtain ⟨_, ys, eb, s2, r2⟩ := key (.ref b) r fT fV T σ e H hX (hm _ (by simp))
        cases ea
        cases eb
        exact ⟨xs, ys, s1.sq, s2.sq, by rw [r1.len, r2.len]; omega⟩
    · subst hl
      simp only [RSs] at rs
      obtain ⟨u, r0, rfl, ru, v, r1, rfl, rv, rfl⟩ := rs
      have key : ∀ (w : V) (l : List D) fT fV T σ e H, RX c fT fV T σ e H → ((.s, w, .tup l) : Tm) ∈ T → ∃ a vs, w = .ref a ∧ SqT c.K H a vs ∧ RSs c.K (owOf c fT fV) H l vs := fun w l fT fV T σ e H hX hm => by
        have r := hX.mem hm rfl
        simpa only [RS] using r
      have X2 := (X1.pushS ru).pushS rv
      obtain ⟨a, xs, rfl, sa, ra⟩ := key u l _ _ _ σ e1 H1 X2 (by simp)
      obtain ⟨b, ys, rfl, sb, rb⟩ := key v r _ _ _ σ e1 H1 X2 (by simp)
      refine ⟨a, b, xs, ys, rfl, .inr ⟨sa, sb, hn (ItzT c.K a b) [(.s, .ref b, .tup r), (.s, .ref a, .tup l)] _ e1 H1 ⟨fun t z => by rcases List.mem_cons.mp z with rfl | z; rfl; rw [List.mem_singleton.mp z], ?_, ?_, ?_⟩ ⟨_, _, X2⟩ p q⟩⟩
      · intro fT fV T σ e H i hX hm hi
        obtain ⟨_, xs, ea, s1, r1⟩ := key (.ref a) l fT fV T σ e H hX (hm _ (by simp))
        obtain ⟨_, ys, eb, s2, r2⟩ := key (.ref b) r fT fV T σ e H hX (hm _ (by simp))
        cases ea
        cases eb
        have h1 : i < xs.length := by rw [r1.len]; omega
        have h2 : i < ys.length := by rw [r2.len]; omega
        exact ⟨xs, ys, _, _, s1, s2, List.getElem?_eq_getElem h1, List.getElem?_eq_getElem h2⟩
      · rintro fT fV T σ e H i x H' hX hm hi ⟨T', x1, y1, rfl, hT, rfl, hx1, hy1⟩
        obtain ⟨_, xs, ea, s1, r1⟩ := key (.ref a) l fT fV T σ e H hX (hm _ (by simp))
        obtain ⟨_, ys, eb, s2, r2⟩ := key (.ref b) r fT fV T σ e H hX (hm _ (by simp))
        cases ea
        cases eb
        obtain ⟨d1, e1, f1⟩ := r1.getV (hx1 xs s1)
        obtain ⟨d2, e2, f2⟩ := r2.getV (hy1 ys s2)
        refine ⟨same_new hT, .tup [d1, d2], by rw [zipD_get, e1, e2], ?_⟩
        simp only [RS]
        exact ⟨T', _, rfl, SqT.of upd_same, .cons (RS.fr (Fr.same (same_new hT)) (fun _ z => .inl z) _ _ f1) (.cons (RS.fr (Fr.same (same_new hT)) (fun _ z => .inl z) _ _ f2) .nil)⟩
      · intro fT fV T σ e H i hX hm hi
        obtain ⟨_, xs, ea, s1, r1⟩ := key (.ref a) l fT fV T σ e H hX (hm _ (by simp))
        obtain ⟨_, ys, eb, s2, r2⟩ := key (.ref b) r fT fV T σ e H hX (hm _ (by simp))
        cases ea
        cases eb
        exact ⟨xs, ys, s1, s2, by rw [r1.len, r2.len]; omega⟩) hx
end
end VL
set_option Elab.async false
set_option linter.all false
set_option maxRecDepth 100000
set_option maxHeartbeats 2000000
namespace Fb
open PySem PySem.Spec PyProof.Rows L2
/-! an own `__len__`, `__repr__`, `__eq__`: what len(x), repr(x), x == y, x != y come to -/
section
variable {X : Cx} {k : Nat} {C f : Addr} {fd : FuncData} {ps : List Str} {sp : Sp}
/-- a def run at a place below the running body, nothing being shown where `g` asks so -/
theorem run_at {A : Around} {pins : List (Addr × Obj)} {σ : L2.St} {H : Hp} {s : Shared} {Q : VK} {us : List Value} {vs : List V} (F : FnOk X.prog X.w X.K X.mg X.base C8.CX0 k f fd ps sp) (hr : Room k A) (hA : A.frames = X.A.frames) (hb : Binds X.K fd ps [])
    (I : Inv X pins σ H s) (r : Vals vs us) (h : sp vs H Q C8.E0) : wpAny (model X.prog X.w) A (call (.ref f) us) (EP X pins σ Q) X.xe s := by
  have hl := F.len _ _ _ _ h
  have e0 : Env0 X.prog X.w X.K X.mg X.base A X.stack s H := by
    have e := I.env0
    exact ⟨by rw [hA]; exact e.frames, e.mod, e.bs, e.bsz, e.funs, e.frf, e.hok, e.bare⟩
  refine wpAny_call (codeAny_mono (F.run A X.stack s H ⟨us, []⟩ us vs Q C8.E0 hr e0 (by
    have := hb s us I.kIn (by rw [List.append_nil, ← r.length]; exact hl)
    rw [List.append_nil] at this
    exact this) r h) fun r' s' hq => ?_)
  cases r' with
  | error e => exact C8.pass0 (E := C8.E0) pins σ H s e s' I hq
  | ok fl =>
    cases fl with
    | ret u => exact I.after hq
    | next => exact False.elim hq
    | brk => exact False.elim hq
    | cont => exact False.elim hq
theorem run_atG {A : Around} {pins : List (Addr × Obj)} {σ : L2.St} {H : Hp} {s : Shared} {Q : VK} {us : List Value} {vs : List V} (F : FnG X.prog X.w X.K X.mg X.base k f fd ps sp) (gd : A.guards = some []) (hr : Room k A) (hA : A.frames = X.A.frames) (hb : Binds X.K fd ps [])
    (I : Inv X pins σ H s) (r : Vals vs us) (h : sp vs H Q E0) : wpAny (model X.prog X.w) A (call (.ref f) us) (EP X pins σ Q) X.xe s := by
  have hl := F.len _ _ _ _ h
  have e0 : Env0 X.prog X.w X.K X.mg X.base A X.stack s H := by
    have e := I.env0
    exact ⟨by rw [hA]; exact e.frames, e.mod, e.bs, e.bsz, e.funs, e.frf, e.hok, e.bare⟩
  refine wpAny_call (codeAny_mono (F.run A X.stack s H ⟨us, []⟩ us vs Q E0 gd hr e0 (by
    have := hb s us I.kIn (by rw [List.append_nil, ← r.length]; exact hl)
    rw [List.append_nil] at this
    exact this) r h) fun r' s' hq => ?_)
  cases r' with
  | error e => exact hq.elim
  | ok fl =>
    cases fl with
    | ret u => exact I.after hq
    | next => exact False.elim hq
    | brk => exact False.elim hq
    | cont => exact False.elim hq
/-- a method that may be called where nothing is being shown -/
structure MetG (P : Program) (w : World) (K : PySem.W.Frag) (mg : Str → Option Value) (base : Heap) (k : Nat) (C : Addr) (m : Str) (sp : Sp) : Prop where
  ex : ∃ (f : Addr) (fd : FuncData) (ps : List Str), Cls K C ∧ Meth K C m f ∧ FnG P w K mg base k f fd ps sp ∧ Binds K fd ps []
/-- len(x) -/
def rLenO (C : Addr) (sp : Sp) : List V → Hp → VK → Prop := fun xs H Q => ∃ a dx fs, xs = [.ref a] ∧ H a = some (.ins C dx fs) ∧ sp [.ref a] H (fun v H1 => ∃ n : Int, v = .int n ∧ 0 ≤ n ∧ n < 2 ^ 63 ∧ Q (.int n) H1) C8.E0
theorem call_lenO (c : C8.Met X.prog X.w X.K X.mg X.base k C "__len__" sp []) (hr : Room (k + 1) X.A) : CallR X (.builtin "len") (rLenO C sp) := by
  intro pins s σ H xs us Q I r h
  obtain ⟨f, fd, ps, ds, hc, hm, F, b, d⟩ := c.ex
  cases d
  obtain ⟨a, dx, fs, rfl, ha, q⟩ := h
  obtain ⟨u, rfl, rx⟩ := vals1 r
  obtain rfl : u = Value.ref a := rx
  obtain ⟨mA, J, _⟩ := ins_get I.hok ha
  obtain ⟨od, J, _⟩ := J.look
  obtain ⟨m, hF⟩ := I.fr
  refine PySem.W.len_K hF I.ok.mod.kin J hm.at_ hm.fn (wpAny_mono (run_at (vs := [.ref a]) (us := [.ref a]) F hr.in1 rfl b I (.cons rfl .nil) q) (fun v s' z => ?_) fun _ _ e => e)
  obtain ⟨v', H', I', rv, n, e, h0, h1, q'⟩ := z
  subst e
  obtain ⟨t, rfl⟩ := rv
  exact ⟨⟨h0, h1⟩, .int n, H', I'.tok _, ⟨_, rfl⟩, q'⟩
/-- repr(x) -/
def rReprO (C : Addr) (sp : Sp) : List V → Hp → VK → Prop := fun xs H Q => ∃ a dx fs, xs = [.ref a] ∧ H a = some (.ins C dx fs) ∧ sp [.ref a] H (fun v H1 => ∃ x : Str, v = .str x ∧ Q (.str x) H1) E0
theorem call_reprO (c : MetG X.prog X.w X.K X.mg X.base k C "__repr__" sp) (gd : X.A.guards = some []) (hr : Room (k + 1) X.A) : CallR X (.builtin "repr") (rReprO C sp) := by
  intro pins s σ H xs us Q I r h
  obtain ⟨f, fd, ps, hc, hm, F, b⟩ := c.ex
  obtain ⟨a, dx, fs, rfl, ha, q⟩ := h
  obtain ⟨u, rfl, rx⟩ := vals1 r
  obtain rfl : u = Value.ref a := rx
  obtain ⟨mA, J, _⟩ := ins_get I.hok ha
  obtain ⟨od, J, _⟩ := J.look
  obtain ⟨m, hF⟩ := I.fr
  refine PySem.W.repr_K hr.in1.units0 hF I.ok.mod.kin J hm.at_ hm.fn (wpAny_mono (run_atG (vs := [.ref a]) (us := [.ref a]) F gd hr.in1 rfl b I (.cons rfl .nil) q) (fun v s' z => ?_) fun _ _ e => e)
  obtain ⟨v', H', I', rv, n, e, q'⟩ := z
  subst e
  obtain ⟨t, rfl⟩ := rv
  exact ⟨.str n, H', I', ⟨_, rfl⟩, q'⟩
/-- x == y by an own `__eq__` -/
def rEqO (K : PySem.W.Frag) (C : Addr) (sp : Sp) : R2 := fun x y H Q => ∃ a dx fs t, x = .ref a ∧ H a = some (.ins C dx fs) ∧ TyX K H y t ∧ PySem.W.notFirst K C t = true ∧ sp [.ref a, y] H Q C8.E0
theorem cmpB {op : CmpOp} {pins : List (Addr × Obj)} {σ : L2.St} {H' : Hp} {s' : Shared} {Q : VK} {v : V} {u : Value} (I : Inv X pins σ H' s') (rv : RelV v u) (q : Q v H') : PySem.W.CmpBack (EP X pins σ Q) u s' := by
  have e : EP X pins σ Q u s' := ⟨v, H', I, rv, q⟩
  cases v with
  | non => cases (show u = Value.none from rv); exact e
  | bl y => cases (show u = Value.bool y from rv); exact e
  | int i => obtain ⟨t, rfl⟩ := (show ∃ t, u = Value.int i t from rv); exact e
  | str y => obtain ⟨t, rfl⟩ := (show ∃ t, u = Value.str y t from rv); exact e
  | byt y => obtain ⟨t, rfl⟩ := (show ∃ t, u = Value.bytes y t from rv); exact e
  | flt y => obtain ⟨t, rfl⟩ := (show ∃ t, u = Value.float y t from rv); exact e
  | ref a => cases (show u = Value.ref a from rv); exact e
  | ty n => cases (show u = Value.type n from rv); exact e
theorem op_eqO (c : C8.Met X.prog X.w X.K X.mg X.base k C "__eq__" sp []) (hr : Room k X.A) : OpR X (compareOp .Eq) (rEqO X.K C sp) := by
  intro pins s σ H x y v u Q I rx ry h
  obtain ⟨f, fd, ps, ds, hc, hm, F, b, d⟩ := c.ex
  cases d
  obtain ⟨a, dx, fs, t, rfl, ha, ty, hn, q⟩ := h
  obtain rfl : v = Value.ref a := rx
  obtain ⟨mA, J, _⟩ := ins_get I.hok ha
  obtain ⟨od, J, _⟩ := J.look
  obtain ⟨m, hF⟩ := I.fr
  obtain ⟨P, Z, p, _⟩ := kit_of I ry ty
  show wpAny (model X.prog X.w) X.A (richCompare .Eq (.ref a) u) (EP X pins σ Q) X.xe s
  refine PySem.W.cmp_K (op := .Eq) hr.units0 hF I.ok.mod.kin J (Z.ty _ _ I.kIn p) hn hm.at_ hm.fn (wpAny_mono (run_at (vs := [.ref a, y]) (us := [.ref a, u]) F hr rfl b I (.cons rfl (.cons ry .nil)) q) (fun v s' z => ?_) fun _ _ e => e)
  obtain ⟨v', H', I', rv, q'⟩ := z
  exact cmpB (op := .Eq) I' rv q'
/-- x != y by an own `__eq__` -/
def rNeO (K : PySem.W.Frag) (C : Addr) (sp : Sp) : R2 := fun x y H Q => ∃ a dx fs t, x = .ref a ∧ H a = some (.ins C dx fs) ∧ TyX K H y t ∧ PySem.W.notFirst K C t = true ∧ sp [.ref a, y] H (fun v H1 => ∃ b, v = .bl b ∧ Q (.bl (!b)) H1) C8.E0
theorem ifBound_objNe {M : Model} {K : PySem.W.Frag} {A : Around} {E : Value → Shared → Prop} {s : Shared} {x : Addr} {ox : Obj} {od : Option Obj} {args : List Value} {Q : Option Value → Shared → Prop} (X : K.In s.heap) (I : PySem.W.InstAt s.heap x ox C od) (hs : PySem.W.findIn K (.ref C) "__ne__" = some (some (.builtin "object.__ne__")))
    (h : wpAny M A (call (.builtin "object.__ne__") (.ref x :: args)) (fun v => Q (some v)) E s) : wpAny M A (callSpecialIfBound? (.ref x) "__ne__" args) Q E s := by
  simp only [callSpecialIfBound?, bindSpecialIfBound?]
  refine wpAny_holding (wpAny_bind (wpAny_bind (wpAny_bind (I.type.here ((PySem.W.looks_findIn X hs).here ?_)))))
  refine wpAny_bind (wpAny_askSetting (wpAny_ite ?_))
  have fin : wpAny M A (call (.builtin "object.__ne__") ([.ref x] ++ args) >>= fun v => pure (some v)) Q E s := wpAny_bind (wpAny_mono h (fun v s' h' => wpAny_pure h') fun _ _ h' => h')
  split
  · exact wpAny_bind (wpAny_of_eq (F.cmp_object.ne.bind _) (wpAny_pure (by exact fin)))
  · exact wpAny_tryCatch (wpAny_bind (wpAny_of_eq (F.cmp_object.ne.bind _) (wpAny_pure (by exact fin))))
theorem entry_neO {prog : Program} {w : World} {K : PySem.W.Frag} {A : Around} {E : Value → Shared → Prop} {s : Shared} {x : Addr} {y : Value} {ox : Obj} {od : Option Obj} {Q : Fin → Shared → Prop} (hu : A.units < cLine) (X : K.In s.heap) (I : PySem.W.InstAt s.heap x ox C od) (hs : PySem.W.findIn K (.ref C) "__eq__" = some (some (.ref f))) (hf : PySem.W.isFn K (.ref f) = true)
    (h : wpAny (model prog w) A (call (.ref f) [.ref x, y]) (fun v s' => ∃ b, v = .bool b ∧ Q (.done (.ret (.bool (!b)))) s') E s) : wpAny (model prog w) A (Builtin.«object.__ne__» ⟨[.ref x, y], []⟩) Q E s := by
  unfold Builtin.«object.__ne__»
  repeat (first
    | with_reducible refine wpAny_cRoomFor hu ?_
    | (refine wpAny_bind (m := callSpecialIfBound? (.ref x) (Str.ofString "__eq__") [y])
        (PySem.W.ifBound_K X I hs hf (wpAny_mono h (fun r s' hr => by
          obtain ⟨b, rfl, hq⟩ := hr
          repeat (first | exact hq | exact wpAny_pure hq | exact wpAny_truthy_bool hq | (refine wpAny_bind (m := truthy (.bool _)) (wpAny_truthy_bool ?_)) | wp_step)) fun _ _ e => e)))
    | wp_step)
theorem ne_K {prog : Program} {w : World} {K : PySem.W.Frag} {A : Around} {E : Value → Shared → Prop} {s : Shared} {x : Addr} {y tb : Value} {ox : Obj} {od : Option Obj} {Q : Value → Shared → Prop} (hu : A.in1.units < cLine) (X : K.In s.heap) (I : PySem.W.InstAt s.heap x ox C od) (hb : PySem.W.Looks (model prog w) s.heap (typeOf y) tb) (hn : PySem.W.notFirst K C tb = true)
    (hne : PySem.W.findIn K (.ref C) "__ne__" = some (some (.builtin "object.__ne__"))) (hm : PySem.W.mroIn K C (.type "object") = some true) (hs : PySem.W.findIn K (.ref C) "__eq__" = some (some (.ref f))) (hf : PySem.W.isFn K (.ref f) = true)
    (h : wpAny (model prog w) A.in1 (call (.ref f) [.ref x, y]) (fun v s' => ∃ b, v = .bool b ∧ Q (.bool (!b)) s') E s) : wpAny (model prog w) A (richCompare .NotEq (.ref x) y) Q E s := by
  have cl : wpAny (model prog w) A (call (.builtin "object.__ne__") [.ref x, y]) (fun v s' => ∃ b, v = .bool b ∧ Q (.bool b) s') E s :=
    wpAny_call (codeAny_call_builtin F.cmp_object.ne.plain F.cmpEntry_ne (PySem.W.check_slot F.cmpKind_ne F.cmpSplit_ne (I.type.andThen (PySem.W.looks_mroIn X hm)) (F.cmpArgs_ne _ _) (entry_neO (A := A.in1) hu X I hs hf (wpAny_mono h (fun v s' z => by
      obtain ⟨b, e, q⟩ := z
      exact ⟨b, e, by first | exact ⟨!b, rfl, q⟩ | exact ⟨_, rfl, q⟩⟩) fun _ _ e => e))))
  have one : wpAny (model prog w) A (tryCompare (.ref x) "__ne__" y) (fun r s' => ∃ v, r = some v ∧ Q v s') E s := by
    unfold tryCompare
    refine wpAny_bind (ifBound_objNe X I hne (wpAny_mono cl (fun v s' hv => ?_) fun _ _ e => e))
    obtain ⟨b, rfl, q⟩ := hv
    exact wpAny_pure ⟨_, rfl, q⟩
  unfold richCompare
  simp only [oneThing_ref]
  refine wpAny_holding (wpAny_bind (wpAny_cRoomFor (by have : A.in1.units = A.units + 1 := rfl; omega) ?_))
  rw [cmpInfo_NotEq]
  dsimp only
  refine wpAny_bind (I.type.here (wpAny_bind (hb.here ?_)))
  split
  · rename_i q
    have e : PySem.W.subIn K tb (.ref C) = some false := by
      rcases Bool.or_eq_true_iff.mp hn with e | e
      · rw [beq_iff_eq.mp e] at q; simp at q
      · exact beq_iff_eq.mp e
    refine wpAny_bind ((PySem.W.looks_subIn X e).here ?_)
    simp only [Bool.false_eq_true, if_false]
    refine wpAny_bind (wpAny_mono one (fun r s' z => ?_) fun _ _ e => e)
    obtain ⟨v, rfl, hq⟩ := z
    exact wpAny_pure hq
  · refine wpAny_bind (wpAny_pure ?_)
    simp only [Bool.false_eq_true, if_false]
    refine wpAny_bind (wpAny_mono one (fun r s' z => ?_) fun _ _ e => e)
    obtain ⟨v, rfl, hq⟩ := z
    exact wpAny_pure hq
theorem op_neO (c : C8.Met X.prog X.w X.K X.mg X.base k C "__eq__" sp []) (hne : PySem.W.findIn X.K (.ref C) "__ne__" = some (some (.builtin "object.__ne__"))) (hmo : PySem.W.mroIn X.K C (.type "object") = some true) (hr : Room (k + 1) X.A) : OpR X (compareOp .NotEq) (rNeO X.K C sp) := by
  intro pins s σ H x y v u Q I rx ry h
  obtain ⟨f, fd, ps, ds, hc, hm, F, b, d⟩ := c.ex
  cases d
  obtain ⟨a, dx, fs, t, rfl, ha, ty, hn, q⟩ := h
  obtain rfl : v = Value.ref a := rx
  obtain ⟨mA, J, _⟩ := ins_get I.hok ha
  obtain ⟨od, J, _⟩ := J.look
  obtain ⟨P, Z, p, _⟩ := kit_of I ry ty
  show wpAny (model X.prog X.w) X.A (richCompare .NotEq (.ref a) u) (EP X pins σ Q) X.xe s
  refine ne_K hr.in1.units0 I.kIn J (Z.ty _ _ I.kIn p) hn hne hmo hm.at_ hm.fn (wpAny_mono (run_at (vs := [.ref a, y]) (us := [.ref a, u]) F hr.in1 rfl b I (.cons rfl (.cons ry .nil)) q) (fun v s' z => ?_) fun _ _ e => e)
  obtain ⟨v', H', I', rv, bb, e, q'⟩ := z
  subst e
  cases (show v = Value.bool bb from rv)
  exact ⟨bb, rfl, .bl (!bb), H', I', rfl, q'⟩
end
end Fb
set_option Elab.async false
set_option linter.all false
set_option maxRecDepth 100000
set_option maxHeartbeats 2000000
namespace Fb
open PySem PySem.Spec PyProof.Rows L2
/-! C(k = v, ..), f(e, .., k = v, ..): params that are only told by name -/
section
variable {K : PySem.W.Frag} {x qual : Str} {st : Stmt} {f : Addr} {fd : FuncData} {kws : List (Str × V)}
abbrev FunK (K : PySem.W.Frag) (x qual : Str) (st : Stmt) (kws : List (Str × V)) (f : Addr) (fd : FuncData) : Prop := FunD K x qual (defArgs st) (defBody st) (defScope st) [] kws f fd
theorem fun_ofK (F : FunK K x qual st kws f fd) : L2.Fun K x qual st f fd := by
  obtain ⟨oc, od, dV, kV, doc, pm, an, cdv, ct, osl, e, l, c, hd, _⟩ := F.ex
  rcases hd with ⟨_, e2⟩ | ⟨e2, _⟩
  · subst e2
    exact ⟨⟨oc, od, kV, doc, pm, an, cdv, ct, osl, e, l, c⟩, F.kp⟩
  · exact absurd rfl e2
theorem funk_mk {oc : Value} {od an : Option Addr} {osl : Array (Option Value)} {D : Addr} {doc pm cdv ct : Value} (l : K.lookup f = some ⟨oc, od, .func (PySem.W.fnOf x qual (defArgs st) (defBody st) (defScope st) .none (.ref D) doc pm an cdv ct), osl⟩)
    (c : PySem.W.codeIn K cdv qual = true) (k : PySem.W.keepIn K (.ref f) = true) (h : ∀ q ∈ kws, ∃ u, PySem.W.nsIn K D q.1 = some (some u) ∧ RelV q.2 u) : FunK K x qual st kws f (PySem.W.fnOf x qual (defArgs st) (defBody st) (defScope st) .none (.ref D) doc pm an cdv ct) :=
  ⟨⟨oc, od, .none, .ref D, doc, pm, an, cdv, ct, osl, rfl, l, c, .inl ⟨rfl, rfl⟩, .inr ⟨D, rfl, h⟩⟩, k⟩
theorem kw2_of {D a1 a2 : Addr} {n1 n2 : Str} (h1 : PySem.W.nsIn K D n1 = some (some (.ref a1))) (h2 : PySem.W.nsIn K D n2 = some (some (.ref a2))) : ∀ q ∈ [(n1, V.ref a1), (n2, V.ref a2)], ∃ u, PySem.W.nsIn K D q.1 = some (some u) ∧ RelV q.2 u := fun q hq => by
  simp only [List.mem_cons, List.not_mem_nil, or_false] at hq
  rcases hq with rfl | rfl
  · exact ⟨_, h1, rfl⟩
  · exact ⟨_, h2, rfl⟩
end
/-- C(k = v, ..) as the making of C: `g` puts the values told and the defaults in the params' order -/
def tKw (n : Nat) (g : List V → List V) (t : TA) : TA := fun σ H Q => t σ H fun zs H1 => zs.length = n ∧ Q (g zs) H1
structure MakK (P : Program) (w : World) (K : PySem.W.Frag) (mg : Str → Option Value) (base : Heap) (k : Nat) (x : Str) (C : Addr) (sp : Sp) (ks : List Str) (g : List V → List V) : Prop where
  ex : ∃ (f : Addr) (fd : FuncData) (ps : List Str) (gU : List Value → List Value → List Value), Mk K C f ∧ FnOk P w K mg base C8.CX0 k f fd ps sp ∧ mg x = some (.ref C) ∧ KBn K fd ps 1 ks gU (fun us zs => us ++ g zs)
section
variable {X : Cx} {k j : Nat} {C : Addr} {x : Str} {sp : Sp} {ks : List Str} {g : List V → List V} {p pos : Pos} {kws : List Keyword} {tk : TA} {e : Expr} {te : TE}
theorem pe_mkK (c : MakK X.prog X.w X.K X.mg X.base k x C sp ks g) (hr : Room j X.A) (hk : k + 1 ≤ j) (hg : Gl X x) (hkw : PK X kws tk)
    (hall : (backToKw pos (keywordEach kws X.env)).all (·.1.isSome) = true := by rfl) (hks : (backToKw pos (keywordEach kws X.env)).filterMap (·.1) = ks := by rfl) (hdb : (x == ("__debug__" : Str)) = false := by decide)
    (hpl : ((backTo pos (starEach [] X.env)).any (·.1) || (backToKw pos (keywordEach kws X.env)).any (·.1.isNone)) = false := by rfl) :
    PE X (.Call (.Name x p) [] kws pos) (tMake C sp [] C8.E0 (tKw ks.length g tk)) := by
  obtain ⟨f, fd, ps, gU, M, F, hm, hb⟩ := c.ex
  refine ⟨fun pins s σ H Q I h => ?_⟩
  refine wpAny_Call_Name_kw (ld_glob I hg hm ?_ hdb)
  refine PySem.W.callWith_KW0 (h₀ := X.base) I.ok.mod.kin M.kp hall ?_ hpl
  refine thn (hkw.run pos pins s σ H _ I h) fun ws s2 ⟨zs, H2, I2, rz, l2, q2⟩ => ⟨I2.kIn, ?_⟩
  rw [hks]
  refine run_makeK (E := C8.E0) (us := []) (vs := []) (n := 0) M F (hr.mono hk) hb C8.pass0 I2 .nil rz rfl l2 fun y dx h1 h2 h3 => ?_
  have := q2 y dx h1 h2 h3
  rw [List.append_nil] at this
  exact this
/-- {x!r} of a list or a tuple -/
theorem pe_fmtRD (gd : X.A.guards = some []) (hu : X.A.units + 64 < cLine) (he : PE X e te) : PE X (.FormattedValue e 114 none pos) (tCB (rReprD X.K) (tCons te tNil)) := by
  refine ⟨fun pins s σ H Q I h => ?_⟩
  refine wpAny_FormattedValue_repr (thn (he.run pins s σ H _ I h) fun v s1 hv => ?_)
  obtain ⟨x, H1, I1, r1, a, d, ex, hd, h1, h2, h3, h4, q⟩ := hv
  obtain rfl : x = .ref a := (List.cons.inj ex).1
  obtain ⟨as, rd⟩ := Dp.reads I1 d _ _ hd r1
  obtain rfl : v = Value.ref a := r1
  refine pyReprObj_of_reads (h₀ := s1.heap) rd h1 (fun z => by rw [h2] at z; cases z) gd (by omega) (fun _ _ e => e) (fun h' u tk hk => ?_) h4
  exact wpAny_formatField_str ⟨.str _, H1, I1.kept (t' := tk) hk, ⟨_, rfl⟩, q⟩ ⟨.str _, H1, I1.kept (t' := _) hk, ⟨_, rfl⟩, q⟩ h4
end
/-! the bindings of a def of self and two such params -/
theorem prev : ∀ {a : List V} {b : List Value}, Vals a b → Vals a.reverse b.reverse
  | _, _, .nil => .nil
  | _, _, .cons r t => by rw [List.reverse_cons, List.reverse_cons]; exact Vals.append (prev t) (.cons r .nil)
section
variable {K : PySem.W.Frag} {qual : Str} {st : Stmt} {f : Addr} {fd : FuncData} {d1 d2 : V} {n1 n2 : Str}
abbrev fnK (qual : Str) (st : Stmt) (D : Addr) (doc pm : Value) (an : Option Addr) (cdv ct : Value) : FuncData := PySem.W.fnOf "__init__" qual (defArgs st) (defBody st) (defScope st) .none (.ref D) doc pm an cdv ct
/-- how a def of self and two params by name takes what is told -/
structure Kw2 (qual : Str) (st : Stmt) (n1 n2 : Str) : Prop where
  ab : ∀ (D : Addr) (doc pm : Value) (an : Option Addr) (cdv ct u a b : Value), bindArgs (fnK qual st D doc pm an cdv ct) ⟨[u], [(n1, a), (n2, b)]⟩ = pure [(Str.ofString "self", u), (n1, a), (n2, b)]
  ba : ∀ (D : Addr) (doc pm : Value) (an : Option Addr) (cdv ct u a b : Value), bindArgs (fnK qual st D doc pm an cdv ct) ⟨[u], [(n2, b), (n1, a)]⟩ = pure [(Str.ofString "self", u), (n1, a), (n2, b)]
  a : ∀ (D : Addr) (doc pm : Value) (an : Option Addr) (cdv ct u a b : Value), KwChain D [(n2, b)] (bindArgs (fnK qual st D doc pm an cdv ct) ⟨[u], [(n1, a)]⟩) [(Str.ofString "self", u), (n1, a), (n2, b)]
  b : ∀ (D : Addr) (doc pm : Value) (an : Option Addr) (cdv ct u a b : Value), KwChain D [(n1, a)] (bindArgs (fnK qual st D doc pm an cdv ct) ⟨[u], [(n2, b)]⟩) [(Str.ofString "self", u), (n1, a), (n2, b)]
  o : ∀ (D : Addr) (doc pm : Value) (an : Option Addr) (cdv ct u a b : Value), KwChain D [(n1, a), (n2, b)] (bindArgs (fnK qual st D doc pm an cdv ct) ⟨[u], []⟩) [(Str.ofString "self", u), (n1, a), (n2, b)]
variable (F : FunK K "__init__" qual st [(n1, d1), (n2, d2)] f fd) (h : Kw2 qual st n1 n2)
include F h
theorem kb_ab : ∃ gU, KBn K fd ["self", n1, n2] 1 [n1, n2] gU (fun us zs => us ++ id zs) := by
  obtain ⟨mv, k⟩ := FunD.kbinds0 (ps := ["self", n1, n2]) F 1 [n1, n2] [] (fun us _ ws => us ++ ws) (by simp) (by simp) (fun a _ c => a.append c) fun D doc pm an cdv ct us mv ws h1 h2 h3 => by
    match us, h1, mv, h2, ws, h3 with
    | [u], _, [], _, [a, b], _ => exact h.ab D doc pm an cdv ct u a b
  exact ⟨_, k⟩
theorem kb_ba : ∃ gU, KBn K fd ["self", n1, n2] 1 [n2, n1] gU (fun us zs => us ++ zs.reverse) := by
  obtain ⟨mv, k⟩ := FunD.kbinds0 (ps := ["self", n1, n2]) F 1 [n2, n1] [] (fun us _ ws => us ++ ws.reverse) (by simp) (by simp) (fun a _ c => a.append (prev c)) fun D doc pm an cdv ct us mv ws h1 h2 h3 => by
    match us, h1, mv, h2, ws, h3 with
    | [u], _, [], _, [b, a], _ => exact h.ba D doc pm an cdv ct u a b
  exact ⟨_, k⟩
theorem kb_a : ∃ gU, KBn K fd ["self", n1, n2] 1 [n1] gU (fun us zs => us ++ (zs ++ [d2])) := by
  obtain ⟨mv, k⟩ := FunD.kbinds0 (ps := ["self", n1, n2]) F 1 [n1] [(n2, d2)] (fun us ms ws => us ++ (ws ++ ms)) (by simp) (by simp) (fun a b c => a.append (c.append b)) fun D doc pm an cdv ct us mv ws h1 h2 h3 => by
    match us, h1, mv, h2, ws, h3 with
    | [u], _, [b], _, [a], _ => exact h.a D doc pm an cdv ct u a b
  exact ⟨_, k⟩
theorem kb_b : ∃ gU, KBn K fd ["self", n1, n2] 1 [n2] gU (fun us zs => us ++ (d1 :: zs)) := by
  obtain ⟨mv, k⟩ := FunD.kbinds0 (ps := ["self", n1, n2]) F 1 [n2] [(n1, d1)] (fun us ms ws => us ++ (ms ++ ws)) (by simp) (by simp) (fun a b c => a.append (b.append c)) fun D doc pm an cdv ct us mv ws h1 h2 h3 => by
    match us, h1, mv, h2, ws, h3 with
    | [u], _, [a], _, [b], _ => exact h.b D doc pm an cdv ct u a b
  exact ⟨_, k⟩
theorem kb_o : ∃ gU, KBn K fd ["self", n1, n2] 1 [] gU (fun us zs => us ++ (zs ++ [d1, d2])) := by
  obtain ⟨mv, k⟩ := FunD.kbinds0 (ps := ["self", n1, n2]) F 1 [] [(n1, d1), (n2, d2)] (fun us ms ws => us ++ (ws ++ ms)) (by simp) (by simp) (fun a b c => a.append (c.append b)) fun D doc pm an cdv ct us mv ws h1 h2 h3 => by
    match us, h1, mv, h2, ws, h3 with
    | [u], _, [a, b], _, [], _ => exact h.o D doc pm an cdv ct u a b
  exact ⟨_, k⟩
end
end Fb
set_option Elab.async false
set_option linter.all false
set_option maxRecDepth 100000
set_option maxHeartbeats 2000000
namespace VL
open PySem PySem.Spec PyProof.Rows L2
/-! ### len(x), repr(x), x == y, x != y of a cell whose class has its own -/
theorem topE {c : Vc} {T : List Tm} {σ : L2.St} {e : Env} {H : Hp} {v : V} {d : D} (h : R c ((.s, v, d) :: T) σ e H) : ∃ ow, RS c.K ow H d v := by
  obtain ⟨fT, fV, X⟩ := h
  exact ⟨_, X.topS.1⟩
section
variable {c : Vc} {W : XW} {m : Md} {te ta tb : TE} {fe fa fb : VT} {fA : VTA} {sp : VSp} {C : Addr}
def vLenO (n : Nat) (C : Addr) (sp : VSp) (fe : VT) : VT := fun e Q Qx => fe e (fun x e1 => ∃ a fs l al l2, x = .ref a ∧ Cell n e1 a (.obj C fs l) ∧ e1[n]? = some (some (.mem al l2)) ∧ sp [.ref a, .mem al l2] (fun r ps => ∃ i : Int, r = .int i ∧ 0 ≤ i ∧ i < 2 ^ 63 ∧ Q (.int i) (putA n 1 [none] ps e1)) fun _ _ => False) Qx
theorem v_lenO (he : VQ c te fe) : VE c W .e (tCB (Fb.rLenO C (spA c.K [.s] .s sp)) (tCons te tNil)) .s (vLenO c.M.length C sp fe) := fun T σ e H Q Qv Qx ⟨fT, fV, hX⟩ hf hn hx =>
  he fT fV T σ e H _ _ Qx hX hf fun v d r ⟨a, fs, l, al, l2, ed, hc, hm, q⟩ => by
    subst ed
    have z : v = .ref a := by simpa only [RS] using r
    subst z
    rcases (hX.cellB hc).2.2.cell with ⟨l', vs, e', _⟩ | ⟨ks, l', vs, e', _⟩ | ⟨C', fs', l', dx, vs, e', ha, n, rs⟩ | ⟨_, _, _, _, _, _, e', _⟩
    · cases e'
    · cases e'
    rotate_left
    · cases e'
    cases e'
    refine ⟨a, dx, _, rfl, ha, ?_⟩
    exact spA_use (as := [none]) (full := [.ref a]) (Qv := fun r e' => ∃ i : Int, r = .int i ∧ 0 ≤ i ∧ i < 2 ^ 63 ∧ Qv (.int i) e') (Qx := fun _ _ => False) hX ⟨.ref a, [], .ref a, [], rfl, rfl, by simp only [RS], rfl, rfl⟩ (by simp only [fill]; rfl) ⟨rfl, trivial⟩ hm q (fun v r e' H' r1 ⟨i, er, h0, h1, q1⟩ => by
      subst er
      obtain ⟨ow, rr⟩ := topE r1
      obtain rfl : v = .int i := rr.b.int
      exact ⟨i, rfl, h0, h1, hn _ _ e' H' r1 Post.e q1⟩) (fun _ _ _ _ _ _ z => z.elim)
def vReprO (n : Nat) (C : Addr) (sp : VSp) (fe : VT) : VT := fun e Q Qx => fe e (fun x e1 => ∃ a fs l al l2, x = .ref a ∧ Cell n e1 a (.obj C fs l) ∧ e1[n]? = some (some (.mem al l2)) ∧ sp [.ref a, .mem al l2] (fun r ps => ∃ y : Str, r = .str y ∧ Q (.str y) (putA n 1 [none] ps e1)) fun _ _ => False) Qx
theorem v_reprO (he : VQ c te fe) : VE c W .e (tCB (Fb.rReprO C (spA c.K [.s] .s sp)) (tCons te tNil)) .s (vReprO c.M.length C sp fe) := fun T σ e H Q Qv Qx ⟨fT, fV, hX⟩ hf hn hx =>
  he fT fV T σ e H _ _ Qx hX hf fun v d r ⟨a, fs, l, al, l2, ed, hc, hm, q⟩ => by
    subst ed
    have z : v = .ref a := by simpa only [RS] using r
    subst z
    rcases (hX.cellB hc).2.2.cell with ⟨l', vs, e', _⟩ | ⟨ks, l', vs, e', _⟩ | ⟨C', fs', l', dx, vs, e', ha, n, rs⟩ | ⟨_, _, _, _, _, _, e', _⟩
    · cases e'
    · cases e'
    rotate_left
    · cases e'
    cases e'
    refine ⟨a, dx, _, rfl, ha, ?_⟩
    exact spA_use (as := [none]) (full := [.ref a]) (Qv := fun r e' => ∃ y : Str, r = .str y ∧ Qv (.str y) e') (Qx := fun _ _ => False) hX ⟨.ref a, [], .ref a, [], rfl, rfl, by simp only [RS], rfl, rfl⟩ (by simp only [fill]; rfl) ⟨rfl, trivial⟩ hm q (fun v r e' H' r1 ⟨i, er, q1⟩ => by
      subst er
      obtain ⟨ow, rr⟩ := topE r1
      obtain rfl : v = .str i := rr.b.str
      exact ⟨i, rfl, hn _ _ e' H' r1 Post.e q1⟩) (fun _ _ _ _ _ _ z => z.elim)
/-- what stands on the right: a cell of the same class, or a value of one of the types `ts` -/
def othO (n : Nat) (e : Env) (C : Addr) (ts : List String) (y : D) : Prop := (∃ b fs l, y = .ref b ∧ Cell n e b (.obj C fs l)) ∨ ∃ t, tyL y = some t ∧ t ∈ ts
def vEqO (n : Nat) (C : Addr) (ts : List String) (sp : VSp) (fA : VTA) : VT := fun e Q Qx => fA e (fun ds e1 => ∃ a y fs l al l2, ds = [.ref a, y] ∧ Cell n e1 a (.obj C fs l) ∧ othO n e1 C ts y ∧ e1[n]? = some (some (.mem al l2)) ∧ sp [.ref a, y, .mem al l2] (fun r ps => Q r (putA n 2 [none, none] ps e1)) fun _ _ => False) Qx
def vNeO (n : Nat) (C : Addr) (ts : List String) (sp : VSp) (fA : VTA) : VT := fun e Q Qx => fA e (fun ds e1 => ∃ a y fs l al l2, ds = [.ref a, y] ∧ Cell n e1 a (.obj C fs l) ∧ othO n e1 C ts y ∧ e1[n]? = some (some (.mem al l2)) ∧ sp [.ref a, y, .mem al l2] (fun r ps => ∃ b, r = .bl b ∧ Q (.bl (!b)) (putA n 2 [none, none] ps e1)) fun _ _ => False) Qx
/-- what the text must say of the class C and of the types -/
structure EqOk (K : PySem.W.Frag) (C : Addr) (ts : List String) : Prop where
  o : OwnIs K C C true
  n : ∀ t ∈ ts, PySem.W.notFirst K C (.type t) = true
  k : ∀ t ∈ ts, PySem.W.kitOne K (.type t) (.ref C) = some false
theorem oth_ty {c : Vc} {fT fV : List Addr} {T : List Tm} {σ : L2.St} {e : Env} {H : Hp} {ts : List String} {y : D} {v : V} (hE : EqOk c.K C ts) (X : RX c fT fV T σ e H) (r : RS c.K (owOf c fT fV) H y v) (h : othO c.M.length e C ts y) : ∃ t, TyX c.K H v t ∧ PySem.W.notFirst c.K C t = true := by
  rcases h with ⟨b, fs, l, ey, hc⟩ | ⟨t, ht, hm⟩
  · subst ey
    have z : v = .ref b := by simpa only [RS] using r
    subst z
    rcases (X.cellB hc).2.2.cell with ⟨l', vs, e', _⟩ | ⟨ks, l', vs, e', _⟩ | ⟨C', fs', l', dx, vs, e', ha, n, rs⟩ | ⟨_, _, _, _, _, _, e', _⟩
    · cases e'
    · cases e'
    · cases e'
      exact ⟨.ref C, .base (.ins ha hE.o.cl hE.o.ha hE.o.hn hE.o.htk hE.o.hm), by simp [PySem.W.notFirst]⟩
    · cases e'
  · exact ⟨.type t, tyX_ofL r.b ht, hE.n t hm⟩
theorem v_eqO {ts : List String} (hE : EqOk c.K C ts) (hA : VAx c W (tCons ta (tCons tb tNil)) [none, none] fA) : VE c W .e (tOp (Fb.rEqO c.K C (spA c.K [.s, .s] .s sp)) ta tb) .s (vEqO c.M.length C ts sp fA) := fun T σ e H Q Qv Qx hR hf hn hx => by
  refine hA T σ e H (fun vs H2 => match vs with | [x, y] => Fb.rEqO c.K C (spA c.K [.s, .s] .s sp) x y H2 Q | _ => True) _ Qx hR hf (fun fT fV vs ds e1 H1 X av ⟨a, y, fs, l, al, l2, ed, hc, ho, hm, q⟩ => ?_) hx
  have av0 := av
  obtain ⟨v1, _, d1, _, rfl, rfl, r1, v2, _, d2, _, rfl, rfl, r2, rfl, rfl⟩ := av
  cases ed
  have z : v1 = .ref a := by simpa only [RS] using r1
  subst z
  obtain ⟨t, ty, nf⟩ := oth_ty hE X r2 ho
  rcases (X.cellB hc).2.2.cell with ⟨l', vs, e', _⟩ | ⟨ks, l', vs, e', _⟩ | ⟨C', fs', l', dx, vs, e', ha, n, rs⟩ | ⟨_, _, _, _, _, _, e', _⟩
  · cases e'
  · cases e'
  rotate_left
  · cases e'
  cases e'
  refine ⟨a, dx, _, t, rfl, ha, ty, nf, ?_⟩
  exact spA_use (as := [none, none]) (full := [.ref a, y]) (Qx := fun _ _ => False) X av0 (by simp only [fill]; rfl) ⟨rfl, rfl, trivial⟩ hm q (fun v r e' H' r1 q1 => hn v r e' H' r1 Post.e q1) (fun _ _ _ _ _ _ z => z.elim)
theorem v_neO {ts : List String} (hE : EqOk c.K C ts) (hA : VAx c W (tCons ta (tCons tb tNil)) [none, none] fA) : VE c W .e (tOp (Fb.rNeO c.K C (spA c.K [.s, .s] .s sp)) ta tb) .s (vNeO c.M.length C ts sp fA) := fun T σ e H Q Qv Qx hR hf hn hx => by
  refine hA T σ e H (fun vs H2 => match vs with | [x, y] => Fb.rNeO c.K C (spA c.K [.s, .s] .s sp) x y H2 Q | _ => True) _ Qx hR hf (fun fT fV vs ds e1 H1 X av ⟨a, y, fs, l, al, l2, ed, hc, ho, hm, q⟩ => ?_) hx
  have av0 := av
  obtain ⟨v1, _, d1, _, rfl, rfl, r1, v2, _, d2, _, rfl, rfl, r2, rfl, rfl⟩ := av
  cases ed
  have z : v1 = .ref a := by simpa only [RS] using r1
  subst z
  obtain ⟨t, ty, nf⟩ := oth_ty hE X r2 ho
  rcases (X.cellB hc).2.2.cell with ⟨l', vs, e', _⟩ | ⟨ks, l', vs, e', _⟩ | ⟨C', fs', l', dx, vs, e', ha, n, rs⟩ | ⟨_, _, _, _, _, _, e', _⟩
  · cases e'
  · cases e'
  rotate_left
  · cases e'
  cases e'
  refine ⟨a, dx, _, t, rfl, ha, ty, nf, ?_⟩
  exact spA_use (as := [none, none]) (full := [.ref a, y]) (Qv := fun r e' => ∃ b, r = .bl b ∧ Qv (.bl (!b)) e') (Qx := fun _ _ => False) X av0 (by simp only [fill]; rfl) ⟨rfl, rfl, trivial⟩ hm q (fun v r e' H' r1 ⟨b, er, q1⟩ => by
    subst er
    obtain ⟨ow, rr⟩ := topE r1
    obtain rfl : v = .bl b := rr.b.bl
    obtain ⟨gT, gV, Y⟩ := r1
    exact ⟨b, rfl, hn _ _ e' H' ⟨gT, gV, Y.topS.2.pushS rs_bl⟩ Post.e q1⟩) (fun _ _ _ _ _ _ z => z.elim)
/-! ### isinstance(x, C): x a cell of the class C, or a value of one of the types `ts` -/
def vIsiX (n : Nat) (C : Addr) (ts : List String) (fe : VT) : VT := fun e Q Qx => fe e (fun x e1 => ((∃ b fs l, x = .ref b ∧ Cell n e1 b (.obj C fs l)) ∧ Q (.bl true) e1) ∨ ((∃ t, tyL x = some t ∧ t ∈ ts) ∧ Q (.bl false) e1)) Qx
theorem q_isiX {ts : List String} (hE : EqOk c.K C ts) (h : VQ c te fe) : VQ c (tCB (rIsi c.K) (tCons te (tCons (tC (.ref C)) tNil))) (vIsiX c.M.length C ts fe) := fun fT fV T' σ e H Q Qv Qx hR hf hn =>
  h fT fV T' σ e H _ _ Qx hR hf fun v d r z => by
    rcases z with ⟨⟨a, fs, l, ed, hc⟩, q⟩ | ⟨⟨t, ht, hm⟩, q⟩
    · subst ed
      have z : v = .ref a := by simpa only [RS] using r
      subst z
      rcases (hR.cellB hc).2.2.cell with ⟨l', vs, e', _⟩ | ⟨ks, l', vs, e', _⟩ | ⟨C', fs', l', dx, vs, e', ha, n, rs⟩ | ⟨_, _, _, _, _, _, e', _⟩
      · cases e'
      · cases e'
      · cases e'
        exact ⟨.ref a, .ref C, .ref C, .ref C, true, rfl, .own C, .base (.ins ha hE.o.cl hE.o.ha hE.o.hn hE.o.htk hE.o.hm), hE.o.one, hn _ _ rs_bl q⟩
      · cases e'
    · exact ⟨v, .ref C, .type t, .ref C, false, rfl, .own C, tyX_ofL r.b ht, hE.k t hm, hn _ _ rs_bl q⟩
/-! ### f-strings -/
def vJs : List VT → Str → Env → (Str → Env → Prop) → QX → Prop
  | [], acc, e, Q, _ => Q acc e
  | f :: fs, acc, e, Q, Qx => f e (fun d e1 => ∃ y : Str, d = .str y ∧ (acc ++ y).length ≤ sizeLine ∧ vJs fs (acc ++ y) e1 Q Qx) Qx
inductive VJ (c : Vc) (W : XW) (m : Md) : List TE → List VT → Prop
  | nil : VJ c W m [] []
  | cons {t : TE} {f : VT} {ts : List TE} {fs : List VT} (h : VE c W m t .s f) (r : VJ c W m ts fs) : VJ c W m (t :: ts) (f :: fs)
theorem vj_run {ts : List TE} {fs : List VT} (h : VJ c W m ts fs) : ∀ (acc : Str) (T : List Tm) (σ : L2.St) (e : Env) (H : Hp) (Q : Str → Hp → Prop) (Qv : Str → Env → Prop) (Qx : QX), R c T σ e H → vJs fs acc e Qv Qx →
    (∀ out e' H', R c T σ e' H' → Post m H H' e e' → Qv out e' → Q out H') → (∀ x d e' H', R c T σ e' H' → XAt H' x d → Qx x e' → W (.ref x.C) d σ H') → tJs ts acc σ H Q := by
  induction h with
  | nil => exact fun acc T σ e H Q Qv Qx hR hf hn hx => hn acc e H hR (Post.refl _ _ _) hf
  | cons h r ih =>
    intro acc T σ e H Q Qv Qx hR hf hn hx
    refine h T σ e H _ _ Qx hR hf (fun v d e1 H1 R1 p1 ⟨y, ed, hz, q⟩ => ?_) hx
    subst ed
    obtain ⟨ow, rr⟩ := topE R1
    obtain rfl : v = .str y := rr.b.str
    exact ⟨y, rfl, hz, ih _ T σ e1 H1 Q Qv Qx R1.pop q (fun out e' H' r2 p2 q2 => hn out e' H' r2 (p1.trans p2) q2) hx⟩
def vFs (fs : List VT) : VT := fun e Q Qx => vJs fs Str.empty e (fun out e1 => Q (.str out) e1) Qx
theorem v_fs {ts : List TE} {fs : List VT} (h : VJ c W m ts fs) : VE c W m (fun σ H Q => tJs ts Str.empty σ H fun out H1 => Q (.str out) H1) .s (vFs fs) := fun T σ e H Q Qv Qx hR hf hn hx =>
  vj_run h Str.empty T σ e H (fun out H1 => Q (.str out) H1) (fun out e1 => Qv (.str out) e1) Qx hR hf (fun out e' H' r p q => hn (.str out) (.str out) e' H' (by
    obtain ⟨gT, gV, Y⟩ := r
    exact ⟨gT, gV, Y.pushS rs_str⟩) p q) hx
/-! ### C(k = v, ..) -/
def vKw (n : Nat) (g : List D → List D) (fA : VTA) : VTA := fun e Q Qx => fA e (fun ds e1 => ds.length = n ∧ Q (g ds) e1) Qx
theorem vax_kw {n : Nat} {g : List V → List V} {gd : List D → List D} {as bs : List (Option Nat)} (hA : VAx c W tA as fA) (hg : ∀ (ow : Addr → Prop) (H : Hp) (σ : L2.St) vs ds, ds.length = n → ArgV c.K ow H σ as vs ds → vs.length = n ∧ ArgV c.K ow H σ bs (g vs) (gd ds)) : VAx c W (Fb.tKw n g tA) bs (vKw n gd fA) := fun T σ e H Q Qv Qx hR hf hn hx =>
  hA T σ e H _ _ Qx hR hf (fun fT fV vs ds e1 H1 X av ⟨hl, q⟩ => by
    obtain ⟨h1, h2⟩ := hg _ _ _ _ _ hl av
    exact ⟨h1, hn fT fV _ _ e1 H1 X h2 q⟩) hx
theorem vax_ab (hA : VAx c W tA [none, none] fA) : VAx c W (Fb.tKw 2 id tA) [none, none] (vKw 2 id fA) := vax_kw hA fun ow H σ vs ds hl av => by
  have av0 := av
  obtain ⟨v1, _, d1, _, rfl, rfl, r1, v2, _, d2, _, rfl, rfl, r2, rfl, rfl⟩ := av
  exact ⟨rfl, av0⟩
theorem vax_ba (hA : VAx c W tA [none, none] fA) : VAx c W (Fb.tKw 2 List.reverse tA) [none, none] (vKw 2 List.reverse fA) := vax_kw hA fun ow H σ vs ds hl av => by
  obtain ⟨v1, _, d1, _, rfl, rfl, r1, v2, _, d2, _, rfl, rfl, r2, rfl, rfl⟩ := av
  exact ⟨rfl, v2, [v1], d2, [d1], rfl, rfl, r2, v1, [], d1, [], rfl, rfl, r1, rfl, rfl⟩
theorem vax_a {x : V} {dx : D} (hd : ∀ ow H, RS c.K ow H dx x) (hA : VAx c W tA [none] fA) : VAx c W (Fb.tKw 1 (fun zs => zs ++ [x]) tA) [none, none] (vKw 1 (fun ds => ds ++ [dx]) fA) := vax_kw hA fun ow H σ vs ds hl av => by
  obtain ⟨v1, _, d1, _, rfl, rfl, r1, rfl, rfl⟩ := av
  exact ⟨rfl, v1, [x], d1, [dx], rfl, rfl, r1, x, [], dx, [], rfl, rfl, hd ow H, rfl, rfl⟩
theorem vax_b {x : V} {dx : D} (hd : ∀ ow H, RS c.K ow H dx x) (hA : VAx c W tA [none] fA) : VAx c W (Fb.tKw 1 (fun zs => x :: zs) tA) [none, none] (vKw 1 (fun ds => dx :: ds) fA) := vax_kw hA fun ow H σ vs ds hl av => by
  obtain ⟨v1, _, d1, _, rfl, rfl, r1, rfl, rfl⟩ := av
  exact ⟨rfl, x, [v1], dx, [d1], rfl, rfl, hd ow H, v1, [], d1, [], rfl, rfl, r1, rfl, rfl⟩
theorem vax_o {x y : V} {dx dy : D} (hx : ∀ ow H, RS c.K ow H dx x) (hy : ∀ ow H, RS c.K ow H dy y) : VAx c W (Fb.tKw 0 (fun zs => zs ++ [x, y]) tNil) [none, none] (vKw 0 (fun ds => ds ++ [dx, dy]) vNil) := vax_kw vax_nil fun ow H σ vs ds hl av => by
  obtain ⟨rfl, rfl⟩ := av
  exact ⟨rfl, x, [y], dx, [dy], rfl, rfl, hx ow H, y, [], dy, [], rfl, rfl, hy ow H, rfl, rfl⟩
/-- the empty tuple of the text -/
theorem rs_tup0 {a : Addr} (h : ∀ H, SqT c.K H a []) : ∀ ow H, RS c.K ow H (.tup []) (.ref a) := fun ow H => by
  simp only [RS]
  exact ⟨a, [], rfl, h H, .nil⟩
theorem n_lenO (n : Nat) (hn : c.M.length = n) (he : VQ c te fe) : VE c W .e (tCB (Fb.rLenO C (spA c.K [.s] .s sp)) (tCons te tNil)) .s (vLenO n C sp fe) := by subst hn; exact v_lenO he
theorem n_reprO (n : Nat) (hn : c.M.length = n) (he : VQ c te fe) : VE c W .e (tCB (Fb.rReprO C (spA c.K [.s] .s sp)) (tCons te tNil)) .s (vReprO n C sp fe) := by subst hn; exact v_reprO he
theorem n_eqO (n : Nat) (hn : c.M.length = n) {ts : List String} (hE : EqOk c.K C ts) (hA : VAx c W (tCons ta (tCons tb tNil)) [none, none] fA) : VE c W .e (tOp (Fb.rEqO c.K C (spA c.K [.s, .s] .s sp)) ta tb) .s (vEqO n C ts sp fA) := by subst hn; exact v_eqO hE hA
theorem n_neO (n : Nat) (hn : c.M.length = n) {ts : List String} (hE : EqOk c.K C ts) (hA : VAx c W (tCons ta (tCons tb tNil)) [none, none] fA) : VE c W .e (tOp (Fb.rNeO c.K C (spA c.K [.s, .s] .s sp)) ta tb) .s (vNeO n C ts sp fA) := by subst hn; exact v_neO hE hA
theorem n_isiX (n : Nat) (hn : c.M.length = n) {ts : List String} (hE : EqOk c.K C ts) (h : VQ c te fe) : VQ c (tCB (rIsi c.K) (tCons te (tCons (tC (.ref C)) tNil))) (vIsiX n C ts fe) := by subst hn; exact q_isiX hE h
end
section
variable {X : Cx} {k j : Nat} {C : Addr} {sp : Sp}
theorem lenOK (c : C8.Met X.prog X.w X.K X.mg X.base k C "__len__" sp []) (hr : Room j X.A) (hk : k + 1 ≤ j) : CallR X (.builtin "len") (Fb.rLenO C sp) := Fb.call_lenO c (hr.mono hk)
theorem reprOK (c : Fb.MetG X.prog X.w X.K X.mg X.base k C "__repr__" sp) (gd : X.A.guards = some []) (hr : Room j X.A) (hk : k + 1 ≤ j) : CallR X (.builtin "repr") (Fb.rReprO C sp) := Fb.call_reprO c gd (hr.mono hk)
theorem op_eqOK (K0 : PySem.W.Frag) (hK : X.K = K0) (c : C8.Met X.prog X.w X.K X.mg X.base k C "__eq__" sp []) (hr : Room j X.A) (hk : k ≤ j) : OpR X (compareOp .Eq) (Fb.rEqO K0 C sp) := by subst hK; exact Fb.op_eqO c (hr.mono hk)
theorem op_neOK (K0 : PySem.W.Frag) (hK : X.K = K0) (c : C8.Met X.prog X.w X.K X.mg X.base k C "__eq__" sp []) (hr : Room j X.A) (hk : k + 1 ≤ j) (hne : PySem.W.findIn K0 (.ref C) "__ne__" = some (some (.builtin "object.__ne__"))) (hmo : PySem.W.mroIn K0 C (.type "object") = some true) : OpR X (compareOp .NotEq) (Fb.rNeO K0 C sp) := by subst hK; exact Fb.op_neO c hne hmo (hr.mono hk)
end
/-- what is asked of a class with its own `__eq__`, by the text -/
abbrev ts3 : List String := ["tuple", "str", "int"]
theorem sub3 {K : PySem.W.Frag} {C : Addr} : ∀ t ∈ ts3, PySem.W.subIn K (.type t) (.ref C) = some false := by
  intro t ht
  have e1 : PySem.fastBuiltinMro "tuple" = some [.type "tuple", .type "object"] := by decide +kernel
  have e2 : PySem.fastBuiltinMro "str" = some [.type "str", .type "object"] := by decide +kernel
  have e3 : PySem.fastBuiltinMro "int" = some [.type "int", .type "object"] := by decide +kernel
  simp only [List.mem_cons, List.not_mem_nil, or_false] at ht
  rcases ht with rfl | rfl | rfl
  · show (PySem.fastBuiltinMro "tuple").map (·.contains (.ref C)) = some false
    rw [e1]; first | rfl | simp
  · show (PySem.fastBuiltinMro "str").map (·.contains (.ref C)) = some false
    rw [e2]; first | rfl | simp
  · show (PySem.fastBuiltinMro "int").map (·.contains (.ref C)) = some false
    rw [e3]; first | rfl | simp
theorem eqOk3 {K : PySem.W.Frag} {C : Addr} (o : OwnIs K C C true) (h1 : PySem.W.isClsIn K C = true) (h2 : PySem.W.typeIn K (.ref C) = some (.type "type")) : EqOk K C ts3 := by
  refine ⟨o, fun t ht => ?_, fun t ht => ?_⟩
  · unfold PySem.W.notFirst
    rw [sub3 t ht]
    simp
  · have h1' : (PySem.W.clsIn K C).isSome = true := h1
    unfold PySem.W.kitOne PySem.W.kitCls
    rw [if_neg (show ¬ (Value.type t == Value.ref C) = true from fun z => by cases beq_iff_eq.mp z)]
    dsimp only
    rw [h1', h2, if_pos (by rfl)]
    exact sub3 t ht
end VL
set_option Elab.async false
set_option linter.all false
set_option maxRecDepth 100000
set_option maxHeartbeats 2000000
/-! Programs as trees, their data, and whether they are let by. -/
namespace Gn
open PySem VL
inductive At : Type
  | num (n : Nat)
  | nam (x : Str)
def At.d : At → D
  | .num n => .int n
  | .nam x => .str x
inductive Sm : Type
  | lt (x : Str) (a : At)
  | sum (x s : Str) (a b : At)
  | call (x f : Str) (as : List At)
  | set (x : Str) (a : At)
  | tell (a : At)
  | give (a : At)
  | fn (x : Str) (ps : List Str) (b : List Sm)
  | ite (a : At) (b c : List Sm)
  | whl (a : At) (b : List Sm)
  | tms (one : Bool) (x : Str) (a : At) (b : List Sm)
def modeS (one : Bool) : Str := if one then Str.ofString "one" else Str.ofString "own"
mutual
def sD : Sm → D
  | .lt x a => .tup [.str (Str.ofString "let"), .str x, a.d]
  | .sum x s a b => .tup [.str (Str.ofString "sum"), .str x, .str s, a.d, b.d]
  | .call x f as => .tup [.str (Str.ofString "call"), .str x, .str f, .tup (as.map At.d)]
  | .set x a => .tup [.str (Str.ofString "set"), .str x, a.d]
  | .tell a => .tup [.str (Str.ofString "tell"), a.d]
  | .give a => .tup [.str (Str.ofString "give"), a.d]
  | .fn x ps b => .tup [.str (Str.ofString "fn"), .str x, .tup (ps.map D.str), .tup (bD b)]
  | .ite a b c => .tup [.str (Str.ofString "if"), a.d, .tup (bD b), .tup (bD c)]
  | .whl a b => .tup [.str (Str.ofString "while"), a.d, .tup (bD b)]
  | .tms o x a b => .tup [.str (Str.ofString "times"), .str (modeS o), .str x, a.d, .tup (bD b)]
def bD : List Sm → List D
  | [] => []
  | s :: r => sD s :: bD r
end
/-! ### names in sight -/
abbrev Gs := List (List Str)
def vis (o : Gs) (x : Str) : Prop := ∃ g ∈ o, x ∈ g
def atV (ok : Str → Prop) (o : Gs) : At → Prop
  | .num n => n < 1000000000
  | .nam x => ok x ∧ vis o x
def signs : List Str := ["+", "-", "*", "<", "="]
/-! let by: within the grounds o, the ground at hand having c; then it has the last one -/
mutual
def lkS (ok : Str → Prop) (o : Gs) (c : List Str) : Sm → List Str → Prop
  | .lt x a, c' => atV ok (o ++ [c]) a ∧ ok x ∧ x ∉ c ∧ c' = c ++ [x]
  | .sum x s a b, c' => atV ok (o ++ [c]) a ∧ atV ok (o ++ [c]) b ∧ s ∈ signs ∧ ok x ∧ x ∉ c ∧ c' = c ++ [x]
  | .call x f as, c' => ok f ∧ vis (o ++ [c]) f ∧ (∀ a ∈ as, atV ok (o ++ [c]) a) ∧ as.length ≤ 5 ∧ ok x ∧ x ∉ c ∧ c' = c ++ [x]
  | .set x a, c' => ok x ∧ vis (o ++ [c]) x ∧ atV ok (o ++ [c]) a ∧ c' = c
  | .tell a, c' => atV ok (o ++ [c]) a ∧ c' = c
  | .give a, c' => atV ok (o ++ [c]) a ∧ c' = c
  | .fn x ps b, c' => ok x ∧ x ∉ c ∧ ps.Nodup ∧ ps.length ≤ 4 ∧ (∀ p ∈ ps, ok p) ∧ (∃ e, lkB ok (o ++ [c ++ [x]]) ps b e) ∧ c' = c ++ [x]
  | .ite a b d, c' => atV ok (o ++ [c]) a ∧ (∃ e, lkB ok (o ++ [c]) [] b e) ∧ (∃ e, lkB ok (o ++ [c]) [] d e) ∧ c' = c
  | .whl a b, c' => atV ok (o ++ [c]) a ∧ (∃ e, lkB ok (o ++ [c]) [] b e) ∧ c' = c
  | .tms one x a b, c' => atV ok (o ++ [c]) a ∧ ok x ∧ (∃ e, if one = true then lkB ok (o ++ [c] ++ [[x]]) [] b e else lkB ok (o ++ [c]) [x] b e) ∧ c' = c
def lkB (ok : Str → Prop) (o : Gs) (c : List Str) : List Sm → List Str → Prop
  | [], c' => c' = c
  | s :: r, c' => ∃ d, lkS ok o c s d ∧ lkB ok o d r c'
end
/-! how many statements, how deep -/
mutual
def nS : Sm → Nat
  | .fn _ _ b => nB b + 1
  | .ite _ b c => nB b + nB c + 1
  | .whl _ b => nB b + 1
  | .tms _ _ _ b => nB b + 1
  | _ => 1
def nB : List Sm → Nat
  | [] => 0
  | s :: r => nS s + nB r
end
mutual
def hS : Sm → Nat
  | .fn _ _ b => hB b + 1
  | .ite _ b c => max (hB b) (hB c) + 1
  | .whl _ b => hB b + 1
  | .tms _ _ _ b => hB b + 1
  | _ => 0
def hB : List Sm → Nat
  | [] => 0
  | s :: r => max (hS s) (hB r)
end
theorem bD_app : ∀ a b : List Sm, bD (a ++ b) = bD a ++ bD b
  | [], b => by simp [bD]
  | s :: a, b => by rw [List.cons_append, bD, bD, bD_app a b, List.cons_append]
theorem nB_app : ∀ a b : List Sm, nB (a ++ b) = nB a + nB b
  | [], b => by simp [nB]
  | s :: a, b => by rw [List.cons_append, nB, nB, nB_app a b]; omega
theorem hB_app : ∀ a b : List Sm, hB (a ++ b) = max (hB a) (hB b)
  | [], b => by simp [hB]
  | s :: a, b => by rw [List.cons_append, hB, hB, hB_app a b]; omega
theorem lkB_app {ok : Str → Prop} {o : Gs} : ∀ {a b : List Sm} {c d e : List Str}, lkB ok o c a d → lkB ok o d b e → lkB ok o c (a ++ b) e
  | [], b, c, d, e, h, h2 => by rw [lkB] at h; rw [List.nil_append, ← h]; exact h2
  | s :: a, b, c, d, e, h, h2 => by
    rw [lkB] at h
    obtain ⟨f, h1, h3⟩ := h
    rw [List.cons_append, lkB]
    exact ⟨f, h1, lkB_app h3 h2⟩
theorem lkB_one {ok : Str → Prop} {o : Gs} {s : Sm} {c d : List Str} (h : lkS ok o c s d) : lkB ok o c [s] d := by
  rw [lkB]
  exact ⟨d, h, by rw [lkB]⟩
end Gn
set_option Elab.async false
set_option linter.all false
set_option maxRecDepth 100000
set_option maxHeartbeats 2000000
namespace Gn
open PySem VL L2
/-! ### a program read through once: what the tree holds -/
def oD : Option Nat → D
  | none => .non
  | some k => .int k
def oL : Option Nat → Leaf
  | none => .none
  | some k => .num k
structure TrS where
  pl : List (Sm × Nat × Nat)
  bd : List (Option Nat × List Str)
  gr : List (Str × Option Nat × Option Nat)
  mm : List (Str × Nat × Nat)
  bl : List (List Nat)
  md : List (List Nat)
  xk : List Key
  xv : List D
  ik : List (List Leaf)
  iv : List D
  fk : List (List Leaf)
  fv : List D
def bdD (e : Option Nat × List Str) : D := .tup [oD e.1, .tup (e.2.map D.str)]
def grD (e : Str × Option Nat × Option Nat) : D := .tup [.str e.1, oD e.2.1, oD e.2.2]
def mkD (e : Str × Nat × Nat) : D := .tup [.str e.1, .int e.2.1, .int e.2.2]
def nsD (l : List Nat) : D := .lst (l.map fun n : Nat => D.int n)
namespace TrS
def zero : TrS := ⟨[], [(none, [])], [], [], [], [], [], [], [], [], [[.none]], [.int 0]⟩
def ground (st : TrS) (z : Str) (k r : Option Nat) : TrS := { st with gr := st.gr ++ [(z, k, r)], bl := st.bl ++ [[]], ik := pG st.ik [.text z, oL k], iv := pGV st.ik st.iv [.text z, oL k] (.int st.gr.length) }
def body (st : TrS) (k : Nat) (ps : List Str) : TrS := { st with bd := st.bd ++ [(some k, ps)], fk := pG st.fk [.num k], fv := pGV st.fk st.fv [.num k] (.int st.bd.length) }
def nextOf (st : TrS) (g : Nat) : TrS := match (st.bl.getD g []).getLast? with
  | none => st
  | some j => { st with xk := pKs st.xk (.inl j), xv := pVs st.xk st.xv (.inl j) (.int st.pl.length) }
def stand (st : TrS) (s : Sm) (g b : Nat) : TrS := { nextOf st g with pl := st.pl ++ [(s, g, b)], bl := st.bl.set g (st.bl.getD g [] ++ [st.pl.length]) }
def make (st : TrS) (rows : List (Str × Nat × Nat)) : TrS := { st with mm := st.mm ++ rows, md := st.md ++ [List.range' st.mm.length rows.length] }
end TrS
/-- what a statement makes -/
def madeBy : Sm → Nat → Nat → Nat → List (Str × Nat × Nat)
  | .lt x _, k, g, _ => [(x, k, g)]
  | .sum x _ _ _, k, g, _ => [(x, k, g)]
  | .call x _ _, k, g, _ => [(x, k, g)]
  | .fn x ps _, k, g, f => (x, k, g) :: ps.map fun p => (p, k, f)
  | .tms _ x _ _, k, _, f => [(x, k, f)]
  | _, _, _, _ => []
abbrev zBody : Str := Str.ofString "body"
abbrev zOne : Str := Str.ofString "one"
abbrev zOther : Str := Str.ofString "other"
abbrev zWhile : Str := Str.ofString "while"
abbrev zTimes : Str := Str.ofString "times"
abbrev zHead : Str := Str.ofString "head"
def blksOf : Sm → List (Str × List Sm)
  | .fn _ _ b => [(zBody, b)]
  | .ite _ b c => [(zOne, b), (zOther, c)]
  | .whl _ b => [(zWhile, b)]
  | .tms _ _ _ b => [(zTimes, b)]
  | _ => []
namespace TrS
/-- a statement is met, its blocks left out -/
def met (st : TrS) (s : Sm) (g b : Nat) : TrS := (st.stand s g b).make (madeBy s st.pl.length g st.gr.length)
def met2 (st : TrS) (s : Sm) (g b : Nat) : TrS := match s with
  | .fn _ ps _ => (st.met s g b).body st.pl.length ps
  | .tms true _ _ _ => (st.met s g b).ground zHead (some st.pl.length) (some g)
  | _ => st.met s g b
def around (st : TrS) (s : Sm) (g : Nat) : Nat := match s with
  | .tms true _ _ _ => st.gr.length
  | _ => g
def bodyIn (st : TrS) (s : Sm) (b : Nat) : Nat := match s with
  | .fn _ _ _ => st.bd.length
  | _ => b
end TrS
inductive It : Type
  | blk (z : Str) (k r : Option Nat) (b : Nat) (ss : List Sm)
  | plc (s : Sm) (g b : Nat)
mutual
def layS : Sm → Nat → Nat → TrS → TrS
  | .fn x ps ss, g, b, st => layB ss (st.met2 (.fn x ps ss) g b).gr.length st.bd.length ((st.met2 (.fn x ps ss) g b).ground zBody (some st.pl.length) (some g))
  | .ite a x y, g, b, st =>
    layB y (layB x (st.met2 (.ite a x y) g b).gr.length b ((st.met2 (.ite a x y) g b).ground zOne (some st.pl.length) (some g))).gr.length b ((layB x (st.met2 (.ite a x y) g b).gr.length b ((st.met2 (.ite a x y) g b).ground zOne (some st.pl.length) (some g))).ground zOther (some st.pl.length) (some g))
  | .whl a x, g, b, st => layB x (st.met2 (.whl a x) g b).gr.length b ((st.met2 (.whl a x) g b).ground zWhile (some st.pl.length) (some g))
  | .tms o x a ss, g, b, st => layB ss (st.met2 (.tms o x a ss) g b).gr.length b ((st.met2 (.tms o x a ss) g b).ground zTimes (some st.pl.length) (some (st.around (.tms o x a ss) g)))
  | .lt x a, g, b, st => st.met2 (.lt x a) g b
  | .sum x s a c, g, b, st => st.met2 (.sum x s a c) g b
  | .call x f as, g, b, st => st.met2 (.call x f as) g b
  | .set x a, g, b, st => st.met2 (.set x a) g b
  | .tell a, g, b, st => st.met2 (.tell a) g b
  | .give a, g, b, st => st.met2 (.give a) g b
def layB : List Sm → Nat → Nat → TrS → TrS
  | [], _, _, st => st
  | s :: r, g, b, st => layB r g b (layS s g b st)
end
def layI : It → TrS → TrS
  | .blk z k r b ss, st => layB ss st.gr.length b (st.ground z k r)
  | .plc s g b, st => layS s g b st
def layP : List It → TrS → TrS
  | [], st => st
  | i :: r, st => layP r (layI i st)
def stepI : It → TrS → TrS × List It
  | .blk z k r b ss, st => (st.ground z k r, ss.map fun s => .plc s st.gr.length b)
  | .plc s g b, st => (st.met2 s g b, (blksOf s).map fun e => .blk e.1 (some st.pl.length) (some (st.around s g)) (st.bodyIn s b) e.2)
theorem layP_plc : ∀ (ss : List Sm) (g b : Nat) (r : List It) (st : TrS), layP ((ss.map fun s => It.plc s g b) ++ r) st = layP r (layB ss g b st)
  | [], g, b, r, st => by rw [List.map_nil, List.nil_append, layB]
  | s :: ss, g, b, r, st => by rw [List.map_cons, List.cons_append, layP, layP_plc ss, layB, layI]
theorem layP_step (i : It) (r : List It) (st : TrS) : layP (i :: r) st = layP ((stepI i st).2 ++ r) (stepI i st).1 := by
  cases i with
  | blk z k q b ss => rw [layP, stepI, layP_plc, layI]
  | plc s g b =>
    rw [layP, stepI, layI]
    cases s with
    | ite a x y => simp only [blksOf, List.map_cons, List.map_nil, List.cons_append, List.nil_append, layP, layI, layS]; rfl
    | fn x ps ss => simp only [blksOf, List.map_cons, List.map_nil, List.cons_append, List.nil_append, layP, layI, layS]; rfl
    | whl a x => simp only [blksOf, List.map_cons, List.map_nil, List.cons_append, List.nil_append, layP, layI, layS]; rfl
    | tms o x a ss => simp only [blksOf, List.map_cons, List.map_nil, List.cons_append, List.nil_append, layP, layI, layS]; rfl
    | _ => simp only [blksOf, List.map_nil, List.nil_append, layS]
def final (ss : List Sm) : TrS := layI (.blk zBody none none 0 ss) .zero
/-! ### how much there is -/
mutual
def zS : Sm → Nat
  | .fn _ ps b => zB b + ps.length + 1
  | .ite _ b c => zB b + zB c + 1
  | .whl _ b => zB b + 1
  | .tms _ _ _ b => zB b + 1
  | .lt _ _ => 1
  | .sum _ _ _ _ => 1
  | .call _ _ _ => 1
  | .set _ _ => 1
  | .tell _ => 1
  | .give _ => 1
def zB : List Sm → Nat
  | [] => 0
  | s :: r => zS s + zB r
end
def wI : It → Nat
  | .blk _ _ _ _ ss => 1 + 3 * zB ss
  | .plc s _ _ => 3 * zS s
def wP : List It → Nat
  | [] => 0
  | i :: r => wI i + wP r
theorem wP_app : ∀ a b : List It, wP (a ++ b) = wP a + wP b
  | [], b => by simp [wP]
  | i :: a, b => by rw [List.cons_append, wP, wP, wP_app a b]; omega
theorem wP_plc (g b : Nat) : ∀ ss : List Sm, wP (ss.map fun s => It.plc s g b) = 3 * zB ss
  | [] => by simp [wP, zB]
  | s :: ss => by rw [List.map_cons, wP, wP_plc g b ss, wI, zB]; omega
def TrS.sz (st : TrS) : Nat := st.pl.length + st.bd.length + st.gr.length + st.mm.length + st.bl.length + st.md.length + st.xk.length + st.ik.length + st.fk.length
theorem pG_le {κ : Type} [DecidableEq κ] (ks : List κ) (k : κ) : (pG ks k).length ≤ ks.length + 1 := by
  unfold pG
  split
  · omega
  · simp
theorem pKs_le (ks : List Key) (k : Key) : (pKs ks k).length ≤ ks.length + 1 := by
  unfold pKs
  split
  · omega
  · simp
theorem sz_ground (st : TrS) (z : Str) (k r : Option Nat) : (st.ground z k r).sz ≤ st.sz + 3 := by
  have := pG_le st.ik [.text z, oL k]
  simp only [TrS.sz, TrS.ground, List.length_append, List.length_singleton]
  omega
theorem sz_body (st : TrS) (k : Nat) (ps : List Str) : (st.body k ps).sz ≤ st.sz + 2 := by
  have := pG_le st.fk [.num (k : Int)]
  simp only [TrS.sz, TrS.body, List.length_append, List.length_singleton]
  omega
theorem sz_next (st : TrS) (g : Nat) : (st.nextOf g).sz ≤ st.sz + 1 ∧ (st.nextOf g).pl = st.pl ∧ (st.nextOf g).bl = st.bl := by
  unfold TrS.nextOf
  split
  · exact ⟨by omega, rfl, rfl⟩
  · rename_i j _
    have := pKs_le st.xk (.inl j)
    refine ⟨?_, rfl, rfl⟩
    simp only [TrS.sz]
    omega
theorem sz_stand (st : TrS) (s : Sm) (g b : Nat) : (st.stand s g b).sz ≤ st.sz + 2 := by
  obtain ⟨h1, h2, h3⟩ := sz_next st g
  simp only [TrS.sz, TrS.stand, List.length_append, List.length_singleton, List.length_set] at h1 ⊢
  rw [h2, h3] at h1
  omega
theorem sz_make (st : TrS) (rows : List (Str × Nat × Nat)) : (st.make rows).sz = st.sz + rows.length + 1 := by
  simp only [TrS.sz, TrS.make, List.length_append, List.length_singleton]
  omega
def pars : Sm → Nat
  | .fn _ ps _ => ps.length
  | _ => 0
theorem madeBy_len (s : Sm) (k g f : Nat) : (madeBy s k g f).length ≤ 1 + pars s := by
  cases s <;> simp [madeBy, pars]
  omega
theorem sz_met (st : TrS) (s : Sm) (g b : Nat) : (st.met s g b).sz ≤ st.sz + 4 + pars s := by
  have h1 := sz_stand st s g b
  have h2 := madeBy_len s st.pl.length g st.gr.length
  unfold TrS.met
  rw [sz_make]
  omega
theorem sz_met2 (st : TrS) (s : Sm) (g b : Nat) : (st.met2 s g b).sz ≤ st.sz + 7 + pars s := by
  have h1 := sz_met st s g b
  unfold TrS.met2
  split
  · have := sz_body (st.met (.fn ‹_› ‹_› ‹_›) g b) st.pl.length ‹_›
    omega
  · have := sz_ground (st.met (.tms true ‹_› ‹_› ‹_›) g b) zHead (some st.pl.length) (some g)
    omega
  · omega
theorem wP_step (i : It) (r : List It) (st : TrS) : wP ((stepI i st).2 ++ r) < wP (i :: r) ∧ (stepI i st).1.sz + 12 * wP ((stepI i st).2 ++ r) ≤ st.sz + 12 * wP (i :: r) := by
  cases i with
  | blk z k q b ss =>
    have := sz_ground st z k q
    simp only [stepI, wP_app, wP_plc, wP, wI]
    omega
  | plc s g b =>
    have := sz_met2 st s g b
    have hw : wP (stepI (.plc s g b) st).2 + 1 + 3 * pars s ≤ wI (.plc s g b) := by
      cases s <;> simp only [stepI, blksOf, List.map_cons, List.map_nil, wP, wI, zS, pars] <;> omega
    rw [wP_app, wP]
    simp only [stepI] at hw ⊢
    omega
end Gn
set_option Elab.async false
set_option linter.all false
set_option maxRecDepth 100000
set_option maxHeartbeats 2000000
namespace Gn
open PySem VL L2
/-! ### cells of a tree, and the promises of its small methods -/
section
variable {al : List Addr} {l : List D} {a : Addr} {d : D}
theorem ex_mem {P : List Addr → List D → Prop} : (∃ al' l', D.mem al l = D.mem al' l' ∧ P al' l') = P al l := propext ⟨fun ⟨_, _, e, h⟩ => by cases e; exact h, fun h => ⟨_, _, rfl, h⟩⟩
theorem ex_mem0 : (∃ al' l', D.mem al l = D.mem al' l') = True := propext ⟨fun _ => trivial, fun _ => ⟨_, _, rfl⟩⟩
theorem ex_ref {P : Addr → Prop} : (∃ a', D.ref a = D.ref a' ∧ P a') = P a := propext ⟨fun ⟨_, e, h⟩ => by cases e; exact h, fun h => ⟨_, rfl, h⟩⟩
end
theorem apn {ds es : List D} {al al' : List Addr} {l l' : List D} (h : ds ++ [.mem al l] = es ++ [.mem al' l']) : ds = es ∧ al = al' ∧ l = l' := by
  obtain ⟨h1, h2⟩ := List.append_inj' h rfl
  cases h2
  exact ⟨h1, rfl, rfl⟩
theorem lc_inv {vs : List Nat} {vg : VTG} {ft : VTB} {fe : VT} {Q : List D → VL.Env → Prop} (I : List D → VL.Env → Prop) : ∀ (ds acc : List D) (e : VL.Env), acc.length + ds.length ≤ sizeLine → I acc e →
    (∀ d ∈ ds, ∀ acc e, I acc e → ∀ (A : D → VL.Env → Prop) (B : VL.Env → Prop), (∀ y e3, I (acc ++ [y]) (wipeE e3 vs) → A y e3) → vg d e fun e1 => ft e1 (fun b e2 => if b = true then fe e2 A noX else B e2) noX) →
    (∀ acc' e', acc'.length = acc.length + ds.length → I acc' e' → Q acc' e') → vLcL vs vg ft fe Q ds acc e
  | [], acc, e, _, i, _, q => q acc e (by simp) i
  | d :: ds, acc, e, hl, i, h, q => by
    rw [List.length_cons] at hl
    rw [s_lcCons]
    refine h d List.mem_cons_self acc e i _ _ fun y e3 i' => ⟨by omega, ?_⟩
    refine lc_inv I ds (acc ++ [y]) _ (by rw [List.length_append, List.length_singleton]; omega) i' (fun d' z => h d' (List.mem_cons_of_mem _ z)) fun acc' e' hl' i'' => q acc' e' (by rw [hl', List.length_append, List.length_singleton, List.length_cons]; omega) i''
/-- a comprehension over things a, one by one: the invariant over those ahead -/
theorem lc_pre {α : Type} {vs : List Nat} {vg : VTG} {ft : VTB} {fe : VT} {Q : List D → VL.Env → Prop} (g : α → D) (as : List α) (I : List α → List D → VL.Env → Prop) (hl : as.length ≤ sizeLine)
    (h : ∀ pre a post, as = pre ++ a :: post → ∀ acc e, acc.length ≤ pre.length → I pre acc e → ∀ (A : D → VL.Env → Prop) (B : VL.Env → Prop), (∀ y e3, I (pre ++ [a]) (acc ++ [y]) (wipeE e3 vs) → A y e3) → (∀ e3, I (pre ++ [a]) acc (wipeE e3 vs) → B e3) → vg (g a) e fun e1 => ft e1 (fun b e2 => if b = true then fe e2 A noX else B e2) noX)
    {e : VL.Env} (h0 : I [] [] e) (q : ∀ acc e', acc.length ≤ as.length → I as acc e' → Q acc e') : vLcL vs vg ft fe Q (as.map g) [] e := by
  have key : ∀ (post pre : List α) (acc : List D) (e : VL.Env), as = pre ++ post → acc.length ≤ pre.length → I pre acc e → vLcL vs vg ft fe Q (post.map g) acc e := fun post => by
    induction post with
    | nil =>
      intro pre acc e ea la i
      rw [List.append_nil] at ea
      subst ea
      exact q acc e la i
    | cons a post ih =>
      intro pre acc e ea la i
      have hlen : pre.length + (post.length + 1) ≤ sizeLine := by rw [ea, List.length_append, List.length_cons] at hl; exact hl
      rw [List.map_cons, s_lcCons]
      refine h pre a post ea acc e la i _ _ (fun y e3 i' => ⟨by omega, ?_⟩) (fun e3 i' => ?_)
      · exact ih (pre ++ [a]) (acc ++ [y]) _ (by rw [ea]; simp) (by simp; omega) i'
      · exact ih (pre ++ [a]) acc _ (by rw [ea]; simp) (by simp; omega) i'
  exact key as [] [] e rfl (by simp) h0
theorem wh_inv {ft : VTB} {f : VTS} {U : VEnds} (I : Nat → VL.Env → Prop) (h : ∀ n e, I n e → ∀ K : VL.Env → Prop, (∀ m e', m < n → I m e' → K e') → ft e (fun b e1 => if b = true then f { U with nx := K, ct := K, bk := U.nx } e1 else U.nx e1) U.ex) {n : Nat} {e : VL.Env} (hI : I n e) : vWhile ft f U e := by
  have key : ∀ N n e, n < N → I n e → vWhileN ft f U N e := by
    intro N
    induction N with
    | zero => intro n e h; omega
    | succ N ih => exact fun n e hn hI => h n e hI _ fun m e' hm hI' => ih m e' (by omega) hI'
  exact ⟨n + 1, key _ _ _ (Nat.lt_succ_self n) hI⟩
abbrev fPl : List Str := [Str.ofString "statement", Str.ofString "ground", Str.ofString "body"]
abbrev fBk : List Str := [Str.ofString "kind", Str.ofString "k", Str.ofString "around", Str.ofString "body", Str.ofString "inside"]
abbrev fTr : List Str := [Str.ofString "places", Str.ofString "body_rows", Str.ofString "ground_rows", Str.ofString "making_rows", Str.ofString "blocks", Str.ofString "made", Str.ofString "nexts", Str.ofString "inner", Str.ofString "fn_bodies"]
structure TA where
  p : Addr
  b : Addr
  g : Addr
  m : Addr
  k : Addr
  d : Addr
  x : Addr
  i : Addr
  f : Addr
abbrev TA.row (A : TA) : List D := [.ref A.p, .ref A.b, .ref A.g, .ref A.m, .ref A.k, .ref A.d, .ref A.x, .ref A.i, .ref A.f]
theorem gf_b {A : TA} : getF fTr A.row (Str.ofString "body_rows") = some (.ref A.b) := rfl
theorem gf_f {A : TA} : getF fTr A.row (Str.ofString "fn_bodies") = some (.ref A.f) := rfl
theorem gf_g {A : TA} : getF fTr A.row (Str.ofString "ground_rows") = some (.ref A.g) := rfl
theorem gf_k {A : TA} : getF fTr A.row (Str.ofString "blocks") = some (.ref A.k) := rfl
theorem gf_i {A : TA} : getF fTr A.row (Str.ofString "inner") = some (.ref A.i) := rfl
theorem gf_m {A : TA} : getF fTr A.row (Str.ofString "making_rows") = some (.ref A.m) := rfl
theorem gf_d {A : TA} : getF fTr A.row (Str.ofString "made") = some (.ref A.d) := rfl
theorem gf_p {A : TA} : getF fTr A.row (Str.ofString "places") = some (.ref A.p) := rfl
theorem gf_x {A : TA} : getF fTr A.row (Str.ofString "nexts") = some (.ref A.x) := rfl
theorem gp_s {x g b : D} : getF fPl [x, g, b] (Str.ofString "statement") = some x := rfl
theorem gp_g {x g b : D} : getF fPl [x, g, b] (Str.ofString "ground") = some g := rfl
theorem gp_b {x g b : D} : getF fPl [x, g, b] (Str.ofString "body") = some b := rfl
/-- cell a is now d, the others are as before -/
abbrev Hc := Addr → Option D
def NowH (H H' : Hc) (a : Addr) (d : D) : Prop := ∀ c, H' c = if a = c then some d else H c
def Now (al : List Addr) (l l' : List D) (a : Addr) (d : D) : Prop := NowH (cellAt al l) (cellAt al l') a d
theorem Now.of {al : List Addr} {l : List D} {a : Addr} {d d0 : D} (h : cellAt al l a = some d0) : Now al l (VL.cellSet al l a d) a d := fun c => cellAt_set h
theorem Now.step {al : List Addr} {l l' : List D} {a : Addr} {d d' : D} (h : Now al l l' a d') : Now al l (VL.cellSet al l' a d) a d := fun c => by
  have e : cellAt al l' a = some d' := by rw [h a, if_pos rfl]
  rw [cellAt_set e]
  by_cases z : a = c
  · rw [if_pos z, if_pos z]
  · rw [if_neg z, if_neg z, h c, if_neg z]
theorem Now.at {al : List Addr} {l l' : List D} {a : Addr} {d : D} (h : Now al l l' a d) : cellAt al l' a = some d := by rw [h a, if_pos rfl]
theorem NowH.at {H H' : Hc} {a : Addr} {d : D} (h : NowH H H' a d) : H' a = some d := by rw [h a, if_pos rfl]
theorem NowH.ne {H H' : Hc} {a c : Addr} {d : D} (h : NowH H H' a d) (n : a ≠ c) : H' c = H c := by rw [h c, if_neg n]
theorem now_new (al : List Addr) (l : List D) (c : Addr) (d : D) : NowH (cellAt al l) (cellAt (c :: al) (d :: l)) c d := fun x => cellAt_new
theorem cell_none {al : List Addr} {l : List D} {c : Addr} (h : c ∉ al) : cellAt al l c = none := by
  cases e : cellAt al l c with
  | none => rfl
  | some d => exact absurd (cell_no e) h
/-! promises -/
def vpPlace (C : Addr) : VSp := fun ds Q _ => ∃ a x g b al l, ds = [.ref a, x, g, b, .mem al l] ∧ cellAt al l a = some (.obj C [] []) ∧ ∀ l', Now al l l' a (.obj C fPl [x, g, b]) → Q .non [none, none, none, none, some (.mem al l')]
def vpBlock (C : Addr) : VSp := fun ds Q _ => ∃ a x k r b i al l, ds = [.ref a, x, k, r, b, i, .mem al l] ∧ cellAt al l a = some (.obj C [] []) ∧ ∀ l', Now al l l' a (.obj C fBk [x, k, r, b, i]) → Q .non [none, none, none, none, none, none, some (.mem al l')]
def vpBB (C : Addr) (P : Program) (w : World) : VSp := fun ds Q _ => ∃ t k ps al l A B ks vs key, ds = [.ref t, k, ps, .mem al l] ∧ cellAt al l t = some (.obj C fTr (TA.row A)) ∧ cellAt al l A.b = some (.lst B) ∧ cellAt al l A.f = some (.nd P w false ks vs) ∧ keyD false k = some key ∧ B.length ≤ 10000000 ∧ ks.length ≤ 10000000 ∧
  ∀ l1 l2, Now al l l1 A.b (.lst (B ++ [.tup [k, ps]])) → Now al l1 l2 A.f (.nd P w false (pG ks key) (pGV ks vs key (.int B.length))) → Q (.int B.length) [none, none, none, some (.mem al l2)]
def vpBG (C : Addr) (P : Program) (w : World) : VSp := fun ds Q _ => ∃ t z k r al l A G B ks vs key, ds = [.ref t, z, k, r, .mem al l] ∧ cellAt al l t = some (.obj C fTr (TA.row A)) ∧ cellAt al l A.g = some (.lst G) ∧ cellAt al l A.k = some (.lst B) ∧ A.g ≠ A.k ∧ cellAt al l A.i = some (.nd P w true ks vs) ∧ keyD true (.tup [z, k]) = some key ∧ G.length ≤ 10000000 ∧ B.length ≤ 10000000 ∧ ks.length ≤ 10000000 ∧
  ∀ c l1 l2 l3, c ∉ al → Now al l l1 A.g (.lst (G ++ [.tup [z, k, r]])) → Now (c :: al) (.lst [] :: l1) l2 A.k (.lst (B ++ [.ref c])) → Now (c :: al) l2 l3 A.i (.nd P w true (pG ks key) (pGV ks vs key (.int G.length))) → Q (.int G.length) [none, none, none, none, some (.mem (c :: al) l3)]
def vpMk (C : Addr) : VSp := fun ds Q _ => ∃ t rows al l A M B, ds = [.ref t, .lst rows, .mem al l] ∧ cellAt al l t = some (.obj C fTr (TA.row A)) ∧ cellAt al l A.m = some (.lst M) ∧ cellAt al l A.d = some (.lst B) ∧ A.m ≠ A.d ∧ M.length + rows.length ≤ 10000000 ∧ B.length ≤ 10000000 ∧
  ∀ c l1 l2, c ∉ al → Now al l l1 A.m (.lst (M ++ rows)) → Now (c :: al) (.lst (rngD M.length rows.length) :: l1) l2 A.d (.lst (B ++ [.ref c])) → Q .non [none, none, some (.mem (c :: al) l2)]
def vpSt (C CP : Addr) : VSp := fun ds Q _ => ∃ t p al l A st g b S G o L ks vs, ds = [.ref t, .ref p, .mem al l] ∧ cellAt al l t = some (.obj C fTr (TA.row A)) ∧ cellAt al l p = some (.obj CP fPl [st, .int (g : Nat), b]) ∧ cellAt al l A.p = some (.lst S) ∧ cellAt al l A.k = some (.lst G) ∧ G[g]? = some (.ref o) ∧ cellAt al l o = some (.lst L) ∧ A.p ≠ A.k ∧ A.p ≠ o ∧ cellAt al l A.x = some (.dct ks vs) ∧
  S.length ≤ 10000000 ∧ G.length ≤ 10000000 ∧ L.length ≤ 10000000 ∧ ks.length ≤ 10000000 ∧
  ∀ l1, Now al l l1 A.p (.lst (S ++ [.ref p])) →
    (L = [] ∧ ∀ l2, Now al l1 l2 o (.lst [.int S.length]) → Q (.int S.length) [none, none, some (.mem al l2)]) ∨
    (∃ L0 j, L = L0 ++ [.int j] ∧ ∀ l2 l3, Now al l1 l2 A.x (.dct (pKs ks (.inl j)) (pVs ks vs (.inl j) (.int S.length))) → Now al l2 l3 o (.lst (L ++ [.int S.length])) → Q (.int S.length) [none, none, some (.mem al l3)])
end Gn
set_option Elab.async false
set_option linter.all false
set_option maxRecDepth 100000
set_option maxHeartbeats 2000000
namespace Gn
open PySem VL L2
/-! ### the tree in its cells -/
def Holds (H : Hc) (L : List (Addr × D)) : Prop := (L.map (·.1)).Nodup ∧ ∀ p ∈ L, H p.1 = some p.2
section
variable {H H' : Hc} {L L2 X Y : List (Addr × D)} {a c : Addr} {d d0 : D}
theorem Holds.perm (h : Holds H L) (p : L.Perm L2) : Holds H L2 := ⟨(p.map _).nodup_iff.mp h.1, fun q hq => h.2 q (p.mem_iff.mpr hq)⟩
theorem Holds.upd (h : Holds H (X ++ (a, d0) :: Y)) (n : NowH H H' a d) : Holds H' (X ++ (a, d) :: Y) := by
  refine ⟨by simpa using h.1, fun p hp => ?_⟩
  have hn : (X ++ (a, d0) :: Y).map (·.1) = X.map (·.1) ++ a :: Y.map (·.1) := by simp
  have h1 := h.1
  rw [hn] at h1
  obtain ⟨_, h3, h4⟩ := List.nodup_append.mp h1
  obtain ⟨h5, _⟩ := List.nodup_cons.mp h3
  rcases List.mem_append.mp hp with z | z
  · have ne : a ≠ p.1 := fun e => h4 p.1 (List.mem_map_of_mem z) a List.mem_cons_self e.symm
    rw [n.ne ne]
    exact h.2 p (List.mem_append_left _ z)
  · rcases List.mem_cons.mp z with rfl | z
    · exact n.at
    · have ne : a ≠ p.1 := fun e => h5 (e ▸ List.mem_map_of_mem z)
      rw [n.ne ne]
      exact h.2 p (List.mem_append_right _ (List.mem_cons_of_mem _ z))
theorem Holds.new (h : Holds H L) (hc : H c = none) (n : NowH H H' c d) : Holds H' ((c, d) :: L) := by
  have no : ∀ p ∈ L, c ≠ p.1 := fun p hp e => by
    have := h.2 p hp
    rw [← e, hc] at this
    cases this
  refine ⟨?_, fun p hp => ?_⟩
  · rw [List.map_cons, List.nodup_cons]
    refine ⟨fun z => ?_, h.1⟩
    obtain ⟨p, hp, e⟩ := List.mem_map.mp z
    exact no p hp e.symm
  · rcases List.mem_cons.mp hp with rfl | z
    · exact n.at
    · rw [n.ne (no p z)]
      exact h.2 p z
theorem Holds.get (h : Holds H (X ++ (a, d) :: Y)) : H a = some d := h.2 (a, d) (by simp)
theorem Holds.out (h : Holds H (X ++ (a, d0) :: Y)) (n : NowH H H' a d) (hc : H c = some d') (ne : c ∉ (X ++ (a, d0) :: Y).map (·.1)) : H' c = some d' := by
  rw [n.ne (fun e => ne (by rw [← e]; simp)), hc]
end
def plD (CP : Addr) (e : Sm × Nat × Nat) : D := .obj CP fPl [sD e.1, .int e.2.1, .int e.2.2]
def itD (CB CP : Addr) : It → D
  | .blk z k r b ss => .obj CB fBk [.str z, oD k, oD r, .int b, .tup (bD ss)]
  | .plc s g b => plD CP (s, g, b)
def trF (P : Program) (w : World) (A : TA) (st : TrS) (ps bs ds : List Addr) : List (Addr × D) :=
  [(A.p, .lst (ps.map .ref)), (A.b, .lst (st.bd.map bdD)), (A.g, .lst (st.gr.map grD)), (A.m, .lst (st.mm.map mkD)), (A.k, .lst (bs.map .ref)), (A.d, .lst (ds.map .ref)), (A.x, .dct st.xk st.xv), (A.i, .nd P w true st.ik st.iv), (A.f, .nd P w false st.fk st.fv)]
def trL (P : Program) (w : World) (A : TA) (st : TrS) (ps bs ds : List Addr) : List (Addr × D) := trF P w A st ps bs ds ++ (bs.zip (st.bl.map nsD) ++ ds.zip (st.md.map nsD))
inductive Fa {α β : Type} (R : α → β → Prop) : List α → List β → Prop
  | nil : Fa R [] []
  | cons {a b as bs} : R a b → Fa R as bs → Fa R (a :: as) (b :: bs)
namespace Fa
variable {α β : Type} {R S : α → β → Prop}
theorem imp (h : ∀ a b, R a b → S a b) : ∀ {as : List α} {bs : List β}, Fa R as bs → Fa S as bs
  | _, _, .nil => .nil
  | _, _, .cons x r => .cons (h _ _ x) (imp h r)
theorem app : ∀ {as as' : List α} {bs bs' : List β}, Fa R as bs → Fa R as' bs' → Fa R (as ++ as') (bs ++ bs')
  | _, _, _, _, .nil, h => h
  | _, _, _, _, .cons x r, h => .cons x (app r h)
theorem len : ∀ {as : List α} {bs : List β}, Fa R as bs → as.length = bs.length
  | _, _, .nil => rfl
  | _, _, .cons _ r => by rw [List.length_cons, List.length_cons, len r]
theorem get : ∀ {as : List α} {bs : List β} {i : Nat} {b : β}, Fa R as bs → bs[i]? = some b → ∃ a, as[i]? = some a ∧ R a b
  | _, _, _, _, .nil, h => by simp at h
  | _, _, 0, _, .cons x r, h => by cases h; exact ⟨_, rfl, x⟩
  | _, _, i + 1, _, .cons x r, h => by
    rw [List.getElem?_cons_succ] at h ⊢
    exact get r h
end Fa
structure TrC (P : Program) (w : World) (CP : Addr) (H : Hc) (A : TA) (st : TrS) (ps bs ds : List Addr) : Prop where
  hp : Fa (fun a e => H a = some (plD CP e)) ps st.pl
  cs : Holds H (trL P w A st ps bs ds)
  lb : bs.length = st.bl.length
  ld : ds.length = st.md.length
def TA.all (A : TA) : List Addr := [A.p, A.b, A.g, A.m, A.k, A.d, A.x, A.i, A.f]
def TA.own (A : TA) (bs : List Addr) : List Addr := A.all ++ bs
/-- all but some cells are as before -/
def Keep (own : List Addr) (H H' : Hc) : Prop := ∀ c d, H c = some d → c ∉ own → H' c = some d
theorem Keep.trans {o1 o2 : List Addr} {H H1 H2 : Hc} (h1 : Keep o1 H H1) (h2 : Keep o2 H1 H2) (s : ∀ c, H c ≠ none → c ∈ o2 → c ∈ o1) : Keep o1 H H2 := fun c d e n => h2 c d (h1 c d e n) fun z => n (s c (by rw [e]; simp) z)
section
variable {P : Program} {w : World} {CP C : Addr} {H H' : Hc} {A : TA} {st : TrS} {ps bs ds : List Addr}
theorem TrC.obj (h : TrC P w CP H A st ps bs ds) {c K : Addr} {fs : List Str} {l : List D} (e : H c = some (.obj K fs l)) : c ∉ A.own bs := fun z => by
  have hc := h.cs.2
  unfold TA.own at z
  rcases List.mem_append.mp z with z | z
  · simp only [TA.all, List.mem_cons, List.not_mem_nil, or_false] at z
    have g : ∀ {a : Addr} {d : D}, (a, d) ∈ trF P w A st ps bs ds → H a = some d := fun {a d} q => hc (a, d) (List.mem_append_left _ q)
    have key : ∀ {a : Addr} {d : D}, (a, d) ∈ trF P w A st ps bs ds → c = a → (∀ K fs l, d ≠ .obj K fs l) → False := fun {a d} q ea nd => by
      have := g q
      rw [← ea, e] at this
      exact nd _ _ _ (Option.some.inj this).symm
    rcases z with z | z | z | z | z | z | z | z | z
    · exact key (by simp [trF]) z (by simp) (d := .lst (ps.map .ref))
    · exact key (by simp [trF]) z (by simp) (d := .lst (st.bd.map bdD))
    · exact key (by simp [trF]) z (by simp) (d := .lst (st.gr.map grD))
    · exact key (by simp [trF]) z (by simp) (d := .lst (st.mm.map mkD))
    · exact key (by simp [trF]) z (by simp) (d := .lst (bs.map .ref))
    · exact key (by simp [trF]) z (by simp) (d := .lst (ds.map .ref))
    · exact key (by simp [trF]) z (by simp) (d := .dct st.xk st.xv)
    · exact key (by simp [trF]) z (by simp) (d := .nd P w true st.ik st.iv)
    · exact key (by simp [trF]) z (by simp) (d := .nd P w false st.fk st.fv)
  · obtain ⟨i, hi, ei⟩ := List.mem_iff_getElem.mp z
    have hz : (c, nsD (st.bl[i]'(h.lb ▸ hi))) ∈ bs.zip (st.bl.map nsD) := by
      rw [List.mem_iff_getElem]
      refine ⟨i, by simp [hi, ← h.lb], ?_⟩
      simp [ei]
    have := hc _ (List.mem_append_right _ (List.mem_append_left _ hz))
    rw [e] at this
    cases this
end
end Gn
set_option Elab.async false
set_option linter.all false
set_option maxRecDepth 100000
set_option maxHeartbeats 2000000
namespace Gn
open PySem VL L2
/-! ### the small methods over a tree -/
theorem perm_b {α : Type} (x : α) (F B E : List α) : (x :: (F ++ (B ++ E))).Perm (F ++ ((B ++ [x]) ++ E)) := by
  have : F ++ ((B ++ [x]) ++ E) = (F ++ B) ++ x :: E := by simp
  rw [this]
  refine (List.Perm.of_eq ?_).trans List.perm_middle.symm
  simp
theorem perm_d {α : Type} (x : α) (F B E : List α) : (x :: (F ++ (B ++ E))).Perm (F ++ (B ++ (E ++ [x]))) := by
  have : F ++ (B ++ (E ++ [x])) = (F ++ B ++ E) ++ x :: [] := by simp
  rw [this]
  refine (List.Perm.of_eq ?_).trans List.perm_middle.symm
  simp
theorem zip_at {α β : Type} : ∀ {as : List α} {vs : List β} {i : Nat} {a : α} {v : β}, as[i]? = some a → vs[i]? = some v → ∃ X Y, as.zip vs = X ++ (a, v) :: Y ∧ ∀ u, as.zip (vs.set i u) = X ++ (a, u) :: Y
  | [], _, _, _, _, h, _ => by simp at h
  | _ :: _, [], _, _, _, _, h => by simp at h
  | a0 :: as, v0 :: vs, 0, a, v, h1, h2 => by
    cases h1; cases h2
    exact ⟨[], as.zip vs, rfl, fun u => rfl⟩
  | a0 :: as, v0 :: vs, i + 1, a, v, h1, h2 => by
    rw [List.getElem?_cons_succ] at h1 h2
    obtain ⟨X, Y, e1, e2⟩ := zip_at h1 h2
    refine ⟨(a0, v0) :: X, Y, by rw [List.zip_cons_cons, e1]; rfl, fun u => ?_⟩
    rw [List.set_cons_succ, List.zip_cons_cons, e2]
    rfl
theorem NowH.keep {H H' : Hc} {a : Addr} {d : D} {own : List Addr} (n : NowH H H' a d) (h : a ∈ own) : Keep own H H' := fun c d' e nc => by
  have z : a ≠ c := fun z => nc (z ▸ h)
  rw [n.ne z, e]
theorem NowH.fresh {H H' : Hc} {a : Addr} {d : D} {own : List Addr} (n : NowH H H' a d) (h : H a = none) : Keep own H H' := fun c d' e nc => by
  rw [n.ne (fun z => by rw [z, e] at h; cases h), e]
theorem Keep.tr {o : List Addr} {H H1 H2 : Hc} (h1 : Keep o H H1) (h2 : Keep o H1 H2) : Keep o H H2 := fun c d e n => h2 c d (h1 c d e n) n
theorem ltD {n : Nat} : (D.int ((n : Nat) : Int)) = D.int (n : Int) := rfl
section
variable {P : Program} {w : World} {CP C t : Addr} {H H' : Hc} {A : TA} {st : TrS} {ps bs ds al : List Addr} {l : List D} {Q : D → VL.Env → Prop} {E : QX}
theorem TrC.at (h : TrC P w CP H A st ps bs ds) {a : Addr} {d : D} (m : (a, d) ∈ trF P w A st ps bs ds) : H a = some d := h.cs.2 (a, d) (List.mem_append_left _ m)
theorem TrC.places (h : TrC P w CP H A st ps bs ds) (k : Keep (A.own bs) H H') : Fa (fun a e => H' a = some (plD CP e)) ps st.pl := h.hp.imp fun a e q => k a _ q (h.obj (K := CP) (fs := fPl) (l := [sD e.1, .int e.2.1, .int e.2.2]) q)
theorem own_A (A : TA) (bs : List Addr) {a : Addr} (h : a ∈ A.all) : a ∈ A.own bs := List.mem_append_left _ h
theorem keyO (z : Str) (k : Option Nat) : keyD true (.tup [.str z, oD k]) = some [.text z, oL k] := by cases k <;> rfl
theorem use_ground {z : Str} {k r : Option Nat} (ht : cellAt al l t = some (.obj C fTr A.row)) (h : TrC P w CP (cellAt al l) A st ps bs ds) (hz : st.sz ≤ 10000000)
    (q : ∀ c l', c ∉ al → TrC P w CP (cellAt (c :: al) l') A (st.ground z k r) ps (bs ++ [c]) ds → Keep (A.own bs) (cellAt al l) (cellAt (c :: al) l') → Q (.int st.gr.length) [none, none, none, none, some (.mem (c :: al) l')]) : vpBG C P w [.ref t, .str z, oD k, oD r, .mem al l] Q E := by
  have hsz := hz
  unfold TrS.sz at hsz
  have hg : cellAt al l A.g = some (.lst (st.gr.map grD)) := h.at (by simp [trF])
  have hk : cellAt al l A.k = some (.lst (bs.map .ref)) := h.at (by simp [trF])
  have hi : cellAt al l A.i = some (.nd P w true st.ik st.iv) := h.at (by simp [trF])
  have lb := h.lb
  have ne : A.g ≠ A.k := fun e => by
    have := h.cs.1
    simp [trL, trF, e] at this
  refine ⟨t, .str z, oD k, oD r, al, l, A, st.gr.map grD, bs.map .ref, st.ik, st.iv, [.text z, oL k], rfl, ht, hg, hk, ne, hi, keyO z k, by rw [List.length_map]; omega, by rw [List.length_map]; omega, by omega, fun c l1 l2 l3 hc n1 n2 n3 => ?_⟩
  rw [List.length_map] at n3 ⊢
  have kp : Keep (A.own bs) (cellAt al l) (cellAt (c :: al) l3) := ((((n1 : NowH _ _ _ _).keep (own_A A bs (by simp [TA.all]))).tr ((now_new al l1 c (.lst [])).fresh (cell_none hc))).tr ((n2 : NowH _ _ _ _).keep (own_A A bs (by simp [TA.all])))).tr ((n3 : NowH _ _ _ _).keep (own_A A bs (by simp [TA.all])))
  refine q c l3 hc ⟨h.places kp, ?_, by simp [TrS.ground, lb], h.ld⟩ kp
  have c1 := Holds.upd (X := [_, _]) h.cs n1
  have c2 := Holds.new c1 (by rw [n1.ne (fun e : A.g = c => hc (e ▸ cell_no hg))]; exact cell_none hc) (now_new al l1 c (.lst []))
  have c3 := Holds.upd (X := [_, _, _, _, _]) c2 n2
  have c4 := Holds.upd (X := [_, _, _, _, _, _, _, _]) c3 n3
  have e : trL P w A (st.ground z k r) ps (bs ++ [c]) ds = trF P w A (st.ground z k r) ps (bs ++ [c]) ds ++ ((bs.zip (st.bl.map nsD) ++ [(c, .lst [])]) ++ ds.zip (st.md.map nsD)) := by
    unfold trL
    rw [show (st.ground z k r).bl = st.bl ++ [[]] from rfl, List.map_append, List.zip_append (by simp [lb])]
    rfl
  rw [e]
  refine Holds.perm ?_ (perm_b _ _ _ _)
  simp only [trF, TrS.ground, List.map_append, List.map_cons, List.map_nil]
  exact c4
theorem use_body {k : Nat} {qs : List Str} (ht : cellAt al l t = some (.obj C fTr A.row)) (h : TrC P w CP (cellAt al l) A st ps bs ds) (hz : st.sz ≤ 10000000)
    (q : ∀ l', TrC P w CP (cellAt al l') A (st.body k qs) ps bs ds → Keep (A.own bs) (cellAt al l) (cellAt al l') → Q (.int st.bd.length) [none, none, none, some (.mem al l')]) : vpBB C P w [.ref t, .int k, .tup (qs.map D.str), .mem al l] Q E := by
  have hsz := hz
  unfold TrS.sz at hsz
  have hb : cellAt al l A.b = some (.lst (st.bd.map bdD)) := h.at (by simp [trF])
  have hf : cellAt al l A.f = some (.nd P w false st.fk st.fv) := h.at (by simp [trF])
  refine ⟨t, .int k, .tup (qs.map D.str), al, l, A, st.bd.map bdD, st.fk, st.fv, [.num k], rfl, ht, hb, hf, rfl, by rw [List.length_map]; omega, by omega, fun l1 l2 n1 n2 => ?_⟩
  rw [List.length_map] at n2 ⊢
  have kp : Keep (A.own bs) (cellAt al l) (cellAt al l2) := ((n1 : NowH _ _ _ _).keep (own_A A bs (by simp [TA.all]))).tr ((n2 : NowH _ _ _ _).keep (own_A A bs (by simp [TA.all])))
  refine q l2 ⟨h.places kp, ?_, h.lb, h.ld⟩ kp
  have c1 := Holds.upd (X := [_]) h.cs n1
  have c2 := Holds.upd (X := [_, _, _, _, _, _, _, _]) c1 n2
  simp only [trL, trF, TrS.body, List.map_append, List.map_cons, List.map_nil]
  exact c2
theorem rng_ns (a n : Nat) : rngD (a : Int) n = (List.range' a n).map fun i : Nat => D.int i := by
  unfold rngD
  rw [List.range'_eq_map_range, List.map_map]
  apply List.map_congr_left
  intro i _
  simp
theorem use_make {rows : List (Str × Nat × Nat)} (ht : cellAt al l t = some (.obj C fTr A.row)) (h : TrC P w CP (cellAt al l) A st ps bs ds) (hz : st.sz + rows.length ≤ 10000000)
    (q : ∀ c l', c ∉ al → TrC P w CP (cellAt (c :: al) l') A (st.make rows) ps bs (ds ++ [c]) → Keep (A.own bs) (cellAt al l) (cellAt (c :: al) l') → Q .non [none, none, some (.mem (c :: al) l')]) : vpMk C [.ref t, .lst (rows.map mkD), .mem al l] Q E := by
  have hsz := hz
  unfold TrS.sz at hsz
  have hm : cellAt al l A.m = some (.lst (st.mm.map mkD)) := h.at (by simp [trF])
  have hd : cellAt al l A.d = some (.lst (ds.map .ref)) := h.at (by simp [trF])
  have ld := h.ld
  have ne : A.m ≠ A.d := fun e => by
    have := h.cs.1
    simp [trL, trF, e] at this
  refine ⟨t, rows.map mkD, al, l, A, st.mm.map mkD, ds.map .ref, rfl, ht, hm, hd, ne, by rw [List.length_map, List.length_map]; omega, by rw [List.length_map]; omega, fun c l1 l2 hc n1 n2 => ?_⟩
  rw [List.length_map, List.length_map, rng_ns] at n2
  have kp : Keep (A.own bs) (cellAt al l) (cellAt (c :: al) l2) := (((n1 : NowH _ _ _ _).keep (own_A A bs (by simp [TA.all]))).tr ((now_new al l1 c _).fresh (cell_none hc))).tr ((n2 : NowH _ _ _ _).keep (own_A A bs (by simp [TA.all])))
  refine q c l2 hc ⟨h.places kp, ?_, h.lb, by simp [TrS.make, ld]⟩ kp
  have c1 := Holds.upd (X := [_, _, _]) h.cs n1
  have c2 := Holds.new c1 (by rw [n1.ne (fun e : A.m = c => hc (e ▸ cell_no hm))]; exact cell_none hc) (now_new al l1 c (.lst ((List.range' st.mm.length rows.length).map fun i : Nat => D.int i)))
  have c3 := Holds.upd (X := [_, _, _, _, _, _]) c2 n2
  have e : trL P w A (st.make rows) ps bs (ds ++ [c]) = trF P w A (st.make rows) ps bs (ds ++ [c]) ++ (bs.zip (st.bl.map nsD) ++ (ds.zip (st.md.map nsD) ++ [(c, nsD (List.range' st.mm.length rows.length))])) := by
    unfold trL
    rw [show (st.make rows).md = st.md ++ [List.range' st.mm.length rows.length] from rfl, List.map_append, List.zip_append (by simp [ld])]
    rfl
  rw [e]
  refine Holds.perm ?_ (perm_d _ _ _ _)
  simp only [trF, TrS.make, List.map_append, List.map_cons, List.map_nil]
  exact c3
theorem use_stand {s : Sm} {g b : Nat} {p : Addr} (ht : cellAt al l t = some (.obj C fTr A.row)) (h : TrC P w CP (cellAt al l) A st ps bs ds) (hz : st.sz ≤ 10000000) (hp : cellAt al l p = some (plD CP (s, g, b))) (hg : g < st.bl.length) (hbl : (st.bl.getD g []).length ≤ 10000000)
    (q : ∀ l', TrC P w CP (cellAt al l') A (st.stand s g b) (ps ++ [p]) bs ds → Keep (A.own bs) (cellAt al l) (cellAt al l') → Q (.int st.pl.length) [none, none, some (.mem al l')]) : vpSt C CP [.ref t, .ref p, .mem al l] Q E := by
  have hsz := hz
  unfold TrS.sz at hsz
  have hP : cellAt al l A.p = some (.lst (ps.map .ref)) := h.at (by simp [trF])
  have hk : cellAt al l A.k = some (.lst (bs.map .ref)) := h.at (by simp [trF])
  have hx : cellAt al l A.x = some (.dct st.xk st.xv) := h.at (by simp [trF])
  have lb := h.lb
  have lp := h.hp.len
  obtain ⟨o, ho⟩ : ∃ o, bs[g]? = some o := ⟨_, List.getElem?_eq_getElem (by omega)⟩
  have hv : st.bl[g]? = some (st.bl.getD g []) := by rw [List.getD_eq_getElem?_getD, List.getElem?_eq_getElem hg]; rfl
  obtain ⟨X, Y, z1, z2⟩ := zip_at (vs := st.bl.map nsD) ho (by rw [List.getElem?_map, hv]; rfl)
  have hob : o ∈ bs := List.mem_of_getElem? ho
  have nd := h.cs.1
  have hcs : Holds (cellAt al l) (trF P w A st ps bs ds ++ ((X ++ (o, nsD (st.bl.getD g [])) :: Y) ++ ds.zip (st.md.map nsD))) := by
    have := h.cs
    unfold trL at this
    rw [z1] at this
    exact this
  have hL : cellAt al l o = some (nsD (st.bl.getD g [])) := hcs.2 (o, nsD (st.bl.getD g [])) (List.mem_append_right _ (List.mem_append_left _ (List.mem_append_right _ List.mem_cons_self)))
  have pk : A.p ≠ A.k := fun e => by
    simp [trL, trF, e] at nd
  have po : A.p ≠ o := fun e => by
    have := hcs.1
    simp [trF, e] at this
  refine ⟨t, p, al, l, A, sD s, g, .int b, ps.map .ref, bs.map .ref, o, (st.bl.getD g []).map (fun n : Nat => D.int n), st.xk, st.xv, rfl, ht, hp, hP, hk, by rw [List.getElem?_map, ho]; rfl, hL, pk, po, hx, by rw [List.length_map]; omega, by rw [List.length_map]; omega, by rw [List.length_map]; exact hbl, by omega, fun l1 n1 => ?_⟩
  have k1 : Keep (A.own bs) (cellAt al l) (cellAt al l1) := (n1 : NowH _ _ _ _).keep (own_A A bs (by simp [TA.all]))
  have c1 := Holds.upd (X := []) hcs n1
  have oo : o ∈ A.own bs := List.mem_append_right _ hob
  have fin : ∀ {l2 : List D} {xk : List Key} {xv : List D} {z : TrS}, Keep (A.own bs) (cellAt al l) (cellAt al l2) → z = { st with xk := xk, xv := xv } →
      Holds (cellAt al l2) ([(A.p, .lst (ps.map .ref ++ [.ref p])), (A.b, .lst (st.bd.map bdD)), (A.g, .lst (st.gr.map grD)), (A.m, .lst (st.mm.map mkD)), (A.k, .lst (bs.map .ref)), (A.d, .lst (ds.map .ref)), (A.x, .dct xk xv), (A.i, .nd P w true st.ik st.iv), (A.f, .nd P w false st.fk st.fv)] ++ ((X ++ (o, nsD (st.bl.getD g [] ++ [st.pl.length])) :: Y) ++ ds.zip (st.md.map nsD))) →
      TrC P w CP (cellAt al l2) A { z with pl := st.pl ++ [(s, g, b)], bl := st.bl.set g (st.bl.getD g [] ++ [st.pl.length]) } (ps ++ [p]) bs ds := by
    intro l2 xk xv z kp ez hh
    subst ez
    refine ⟨(h.places kp).app (.cons (kp _ _ hp (h.obj (K := CP) (fs := fPl) (l := [sD s, .int g, .int b]) hp)) .nil), ?_, by simp [lb], h.ld⟩
    unfold trL
    rw [List.map_set, z2]
    simp only [trF, List.map_append, List.map_cons, List.map_nil]
    exact hh
  have el : (ps.map D.ref).length = st.pl.length := by rw [List.length_map, lp]
  cases hlast : (st.bl.getD g []).getLast? with
  | none =>
    have e0 : st.bl.getD g [] = [] := List.getLast?_eq_none_iff.mp hlast
    refine .inl ⟨by rw [e0]; rfl, fun l2 n2 => ?_⟩
    have kp := k1.tr ((n2 : NowH _ _ _ _).keep oo)
    rw [el] at n2 ⊢
    refine q l2 ?_ kp
    have ez : st.nextOf g = { st with xk := st.xk, xv := st.xv } := by unfold TrS.nextOf; rw [hlast]
    have c2 := Holds.upd (X := [_, _, _, _, _, _, _, _, _] ++ X) (by simpa [trF] using c1) n2
    refine fin kp ez ?_
    rw [e0, List.nil_append]
    simpa [nsD] using c2
  | some j =>
    obtain ⟨L0, e0⟩ : ∃ L0, st.bl.getD g [] = L0 ++ [j] := ⟨_, (List.getLast?_eq_some_iff.mp hlast).choose_spec⟩
    refine .inr ⟨L0.map (fun n : Nat => D.int n), j, by rw [e0, List.map_append]; rfl, fun l2 l3 n2 n3 => ?_⟩
    have kp := (k1.tr ((n2 : NowH _ _ _ _).keep (own_A A bs (by simp [TA.all])))).tr ((n3 : NowH _ _ _ _).keep oo)
    rw [el] at n2 n3 ⊢
    refine q l3 ?_ kp
    have ez : st.nextOf g = { st with xk := pKs st.xk (.inl j), xv := pVs st.xk st.xv (.inl j) (.int st.pl.length) } := by unfold TrS.nextOf; rw [hlast]
    have c2 := Holds.upd (X := [_, _, _, _, _, _]) (by simpa [trF] using c1) n2
    have c3 := Holds.upd (X := [_, _, _, _, _, _, _, _, _] ++ X) (by simpa [trF] using c2) n3
    refine fin kp ez ?_
    simpa [nsD] using c3
end
end Gn
set_option Elab.async false
set_option linter.all false
set_option maxRecDepth 100000
set_option maxHeartbeats 2000000
namespace Gn
open PySem VL L2
/-! ### promises of the great methods -/
/-- what a tree's state keeps -/
structure TrOk (st : TrS) : Prop where
  gb : st.gr.length = st.bl.length
  bl : ∀ x ∈ st.bl, x.length ≤ st.pl.length
def okI (st : TrS) : It → Prop
  | .plc _ g _ => g < st.bl.length
  | .blk _ _ _ _ _ => True
structure Grown (al al' : List Addr) (A : TA) (bs bs' ds ds' : List Addr) (H H' : Hc) : Prop where
  kp : Keep (A.own bs) H H'
  sub : ∀ c ∈ al, c ∈ al'
  nb : ∀ c ∈ bs', c ∈ bs ∨ c ∉ al
  nd : ∀ c ∈ ds', c ∈ ds ∨ c ∉ al
theorem bD_map : ∀ ss : List Sm, bD ss = ss.map sD
  | [] => by rw [bD]; rfl
  | s :: ss => by rw [bD, bD_map ss]; rfl
theorem Keep.refl (o : List Addr) (H : Hc) : Keep o H H := fun _ _ e _ => e
theorem Keep.weak {o : List Addr} {H H' : Hc} (h : Keep [] H H') : Keep o H H' := fun c d e _ => h c d e (by simp)
theorem TrC.keep {P : Program} {w : World} {CP : Addr} {H H' : Hc} {A : TA} {st : TrS} {ps bs ds : List Addr} (h : TrC P w CP H A st ps bs ds) (k : Keep [] H H') : TrC P w CP H' A st ps bs ds :=
  ⟨h.hp.imp fun a e q => k _ _ q (by simp), ⟨h.cs.1, fun p hp => k _ _ (h.cs.2 p hp) (by simp)⟩, h.lb, h.ld⟩
theorem use_place {C a : Addr} {al : List Addr} {l : List D} {x g b : D} {Q : D → VL.Env → Prop} {E : QX} (ha : a ∉ al) (q : ∀ l', cellAt (a :: al) l' a = some (.obj C fPl [x, g, b]) → Keep [] (cellAt al l) (cellAt (a :: al) l') → Q .non [none, none, none, none, some (.mem (a :: al) l')]) : vpPlace C [.ref a, x, g, b, .mem (a :: al) (.obj C [] [] :: l)] Q E := by
  refine ⟨a, x, g, b, a :: al, .obj C [] [] :: l, rfl, by rw [cellAt_new, if_pos rfl], fun l' n => q l' (NowH.at n) fun c d e _ => ?_⟩
  have ne : a ≠ c := fun z => ha (z ▸ cell_no e)
  rw [NowH.ne n ne, cellAt_new, if_neg ne, e]
theorem use_block {C a : Addr} {al : List Addr} {l : List D} {x k r b i : D} {Q : D → VL.Env → Prop} {E : QX} (ha : a ∉ al) (q : ∀ l', cellAt (a :: al) l' a = some (.obj C fBk [x, k, r, b, i]) → Keep [] (cellAt al l) (cellAt (a :: al) l') → Q .non [none, none, none, none, none, none, some (.mem (a :: al) l')]) : vpBlock C [.ref a, x, k, r, b, i, .mem (a :: al) (.obj C [] [] :: l)] Q E := by
  refine ⟨a, x, k, r, b, i, a :: al, .obj C [] [] :: l, rfl, by rw [cellAt_new, if_pos rfl], fun l' n => q l' (NowH.at n) fun c d e _ => ?_⟩
  have ne : a ≠ c := fun z => ha (z ▸ cell_no e)
  rw [NowH.ne n ne, cellAt_new, if_neg ne, e]
def vpEnter (P : Program) (w : World) (C CB CP : Addr) : VSp := fun ds Q _ => ∃ t p al l A st ps bs dd z k r b ss, ds = [.ref t, .ref p, .mem al l] ∧ cellAt al l t = some (.obj C fTr (TA.row A)) ∧ TrC P w CP (cellAt al l) A st ps bs dd ∧ cellAt al l p = some (itD CB CP (.blk z k r b ss)) ∧ st.sz ≤ 10000000 ∧ ss.length ≤ 10000000 ∧
  ∀ qs al' l' bs' dd', TrC P w CP (cellAt al' l') A (st.ground z k r) ps bs' dd' → Grown al al' A bs bs' dd dd' (cellAt al l) (cellAt al' l') → Fa (fun a i => cellAt al' l' a = some (itD CB CP i)) qs (ss.map fun s => .plc s st.gr.length b) → (∀ c ∈ qs, c ∉ al) → Q (.lst (qs.map D.ref)) [none, none, some (.mem al' l')]
def vpMeet (P : Program) (w : World) (C CB CP : Addr) : VSp := fun ds Q _ => ∃ t p al l A st ps bs dd s, ∃ g b : Nat, ds = [.ref t, .ref p, .mem al l] ∧ cellAt al l t = some (.obj C fTr (TA.row A)) ∧ TrC P w CP (cellAt al l) A st ps bs dd ∧ TrOk st ∧ cellAt al l p = some (itD CB CP (.plc s g b)) ∧ g < st.bl.length ∧ st.sz + pars s ≤ 1000000 ∧
  ∀ qs al' l' bs' dd', TrC P w CP (cellAt al' l') A (st.met2 s g b) (ps ++ [p]) bs' dd' → Grown al al' A bs bs' dd dd' (cellAt al l) (cellAt al' l') → Fa (fun a i => cellAt al' l' a = some (itD CB CP i)) qs ((blksOf s).map fun e => .blk e.1 (some st.pl.length) (some (st.around s g)) (st.bodyIn s b) e.2) → (∀ c ∈ qs, c ∉ al) → Q (.lst (qs.map D.ref)) [none, none, some (.mem al' l')]
end Gn
set_option Elab.async false
set_option linter.all false
set_option maxRecDepth 100000
set_option maxHeartbeats 2000000
namespace VL
open PySem PySem.W PySem.Calls PyProof.Rows L2
/-- the law's own call, by its promise over data -/
def vpLaw : VSp := fun ds Q _ => ∃ ns : List Int, ds = [.lst (ns.map D.int)] ∧ ns.length ≤ 63 ∧ Q (.bl true) [none]
theorem rs_ints' {K : PySem.W.Frag} {ow : Addr → Prop} {H : Hp} : ∀ ns : List Int, RSs K ow H (ns.map D.int) (ns.map V.int)
  | [] => .nil
  | _ :: ns => .cons rs_int (rs_ints' ns)
theorem law_start {K : PySem.W.Frag} {H : Hp} {a : Addr} {ns : List Int} {E : XK} (h : LsR K H a (ns.map V.int)) (hl : ns.length ≤ 63) : spOf K [.s] .s vpLaw [.ref a] H (fun v _ => v = .bl true) E := by
  refine ⟨⟨K, H, fun _ => False, fun _ => False, [.s], roots [.s] 0 [.ref a]⟩, [.lst (ns.map D.int)], fun r _ => r = .bl true, fun _ _ => False, rfl, rfl, rfl, rfl, ⟨rfl, [], [], rfl, .of ⟨some (.ref a), [], some _, [], [], [], rfl, rfl, rfl, ⟨.ref a, rfl, RO_s.mpr ⟨rfl, ?_⟩⟩, rfl, rfl, rfl⟩, by simp, fun x z => (by cases z), fun b o q _ => q, ExtT.refl H, fun b q => q, fun x z => z.elim, fun p hp => (by simp only [roots] at hp; cases hp)⟩, ⟨ns, rfl, hl, rfl⟩, ?_, fun _ _ _ _ _ _ _ z => z.elim⟩
  · simp only [RS]
    refine ⟨a, _, rfl, ?_, rs_ints' ns⟩
    rcases h with h | h
    · exact .inl ⟨h, fun z => z.elim (fun y => by cases y) id⟩
    · exact .inr h
  · rintro v r ps H' _ ⟨fT, fV, X⟩ e
    subst e
    exact X.topS.1.b.bl
theorem law_V {P : Program} {w : World} {K : Frag} {mg mb : Str → Option Value} {k : Nat} {fa a : Addr} {fd : FuncData} {x : Str} {s₁ : Shared} {vs : List Value} {ns : List Int}
    (KX : K.In s₁.heap) (hns : s₁.heap.Ns mainGlobals mg) (hb : s₁.heap.Ns builtinsNs mb) (hbb : ∀ x : Str, x ≠ "__name__" → mb x = bootBuiltins x) (hlim : s₁.heap.NoLimit) (hg : s₁.gens = #[])
    (ha : s₁.heap.get? a = some { cls := .type "list", data := .seq vs.toArray }) (hi : IntsAre vs ns) (hl : ns.length ≤ sizeLine) (h63 : ns.length ≤ 63) (hr : Room k callerA)
    (F : ∀ base : Heap, K.In base → base.Ns mainGlobals mg → Fb.FnG P w K mg base k fa fd [x] (spOf K [.s] .s vpLaw)) (hbind : ∀ (s : Shared) (u : Value), BindsTo s fd ⟨[u], []⟩ [(x, u)]) :
    codeAny (model P w) callerA (.call (.ref fa) ⟨[.ref a], []⟩) (fun r s' => r = .ok (.ret (.bool true)) ∧ OldK s₁.heap s'.heap ∧ s'.os = s₁.os ∧ AllBare s'.gens) s₁ := by
  have rv := vals_ints hi
  have lv := hi.length
  have core : ∀ H : Hp, Only H → LsR K H a (ns.map V.int) → HOk P w H s₁.heap → (∀ b, H b ≠ none → b = a) → (H a ≠ none → K.lookup a = none) →
      codeAny (model P w) callerA (.call (.ref fa) ⟨[.ref a], []⟩) (fun r s' => r = .ok (.ret (.bool true)) ∧ OldK s₁.heap s'.heap ∧ s'.os = s₁.os ∧ AllBare s'.gens) s₁ := by
    intro H0 hO hS hok hA hK
    have tracked : ∀ {b : Addr} {u : HO}, H0 b = some u → b = a := fun {b u} q => hA b (by rw [q]; simp)
    have hid : ∀ {b : Addr} {o : Obj}, s₁.heap.get? b = some o → H0 b = none → (hidT s₁.heap H0).get? b = some o := fun e n => hidT_get e n
    have noD : ∀ {b : Addr} {o : Obj} {es : Array DictEntry} {ep : Nat}, s₁.heap.get? b = some o → o.data = .dict es ep → H0 b = none := fun {b o es ep} e dt => by
      cases q : H0 b with
      | none => rfl
      | some u =>
        obtain rfl := tracked q
        rw [ha] at e; cases e
        have z : Data.seq vs.toArray _ = Data.dict es ep := dt
        cases z
    have nsK : ∀ {b : Addr} {m : Str → Option Value}, s₁.heap.Ns b m → (hidT s₁.heap H0).Ns b m := fun {b m} ⟨o, es, ep, e, dt, r⟩ => ⟨o, es, ep, hid e (noD e dt), dt, r⟩
    have kIn : K.In (hidT s₁.heap H0) := fun b o e => hid (KX b o e) (by
      cases q : H0 b with
      | none => rfl
      | some u =>
        obtain rfl := tracked q
        rw [hK (by rw [q]; simp)] at e; cases e)
    have md : Mod K mg (hidT s₁.heap H0) := ⟨kIn, nsK hns, ⟨mb, nsK hb, hbb⟩, let ⟨mc, h1, h2⟩ := hlim; ⟨mc, nsK h1, h2⟩⟩
    have env : Env0 P w K mg (hidT s₁.heap H0) callerA [] s₁ H0 := ⟨rfl, md, fun b o e => of_hidT e, Nat.le_of_eq (hidT_size _ _), trivial, fun b z => absurd (show b ∈ ([] : List Addr) from z) (by simp), hok, .of_eq hg⟩
    refine codeAny_mono ((F _ kIn (nsK hns)).run callerA [] s₁ H0 ⟨[.ref a], []⟩ [.ref a] [.ref a] (fun v _ => v = .bl true) (fun _ _ _ => False) rfl hr env (hbind s₁ (.ref a)) (.cons rfl .nil) (law_start hS h63)) fun r s' h => ?_
    cases r with
    | error e => exact h.elim
    | ok fl =>
      cases fl with
      | next => exact h.elim
      | brk => exact h.elim
      | cont => exact h.elim
      | ret u =>
        obtain ⟨v, H', os, bare, un, ok2, rl, q⟩ := h
        obtain rfl : v = .bl true := q
        obtain rfl : u = Value.bool true := rl
        refine ⟨rfl, OldK.of_keep fun b o e => ?_, os, bare⟩
        cases q : H0 b with
        | none => exact un.keep b o e q (fun z => absurd (show b ∈ ([] : List Addr) from z) (by simp)) (by simp)
        | some u =>
          rcases hO b with z | ⟨ob, xs, z⟩
          · rw [q] at z; cases z
          · obtain ⟨e1, _⟩ := hok b _ z
            obtain ⟨e2, _⟩ := ok2 b _ (un.frzs b ob _ z)
            rw [e] at e1; cases e1
            exact e2
  cases hk : K.lookup a with
  | some o =>
    have e := KX a o hk
    rw [ha] at e
    cases e
    exact core (fun _ => none) (fun _ => .inl rfl) (.inr ⟨vs, _, hk, by rw [lv]; exact hl, rv⟩) (fun b u z => by have y : (none : Option HO) = some u := z; cases y) (fun b z => absurd rfl z) fun z => absurd rfl z
  | none =>
    refine core (fun b => if b = a then some (.frz { cls := .type "list", data := .seq vs.toArray } (.lst (ns.map V.int))) else none) (fun b => ?_) (.inl (.inr ⟨{ cls := .type "list", data := .seq vs.toArray }, if_pos rfl⟩)) (fun b u z => ?_) (fun b z => ?_) fun _ => hk
    · by_cases q : b = a
      · exact .inr ⟨_, _, if_pos q⟩
      · exact .inl (if_neg q)
    · by_cases q : b = a
      · have y := (if_pos q).symm.trans z
        cases y
        subst q
        exact ⟨ha, by rw [List.length_map]; exact hl, vs, _, rv, ha⟩
      · have y := (if_neg q).symm.trans z
        cases y
    · by_cases q : b = a
      · exact q
      · exact absurd (if_neg q) z
theorem walk_V {l : OpenLaw} {k : Nat} {q : Program} {loose : List Str} {XP : (Str → Option Value) → Heap → Prop} {YP : World → Heap → Prop} {d : DefRec} {K : Params → Frag} {x : Str}
    (hn : l.most = some 63) (hdf : d.params.defaults = []) (hr : Room k callerA) (hY : ∀ (w : World) (h : Heap), YP w h → (K w.params).In h)
    (F : ∀ (w : World) (mg : Str → Option Value) (fa : Addr) (h : Heap), (K w.params).In h → h.Ns mainGlobals mg → XP mg h → mg d.name = some (.ref fa) →
      ∃ fd : FuncData, (∀ (s : Shared) (u : Value), BindsTo s fd ⟨[u], []⟩ [(x, u)]) ∧ ∀ base : Heap, (K w.params).In base → base.Ns mainGlobals mg → Fb.FnG l.prog w (K w.params) mg base k fa fd [x] (spOf (K w.params) [.s] .s vpLaw)) :
    WalkO q loose XP YP l.row.toRowW d [] (fun f vs => PySem.call f vs) := by
  refine Att.attach_call hn hdf fun w s₀ s₁ mg mb fa o pm cd doc a vs ns G Y ho hd hcd hmg hobj hints hlen hg => ?_
  obtain ⟨fd, hb, hF⟩ := F w mg fa _ (hY w _ Y) G.T.g G.X hmg
  exact law_V (hY w _ Y) G.T.g G.T.b G.T.builtins G.T.nolimit hg hobj hints (Nat.le_trans hlen (by decide)) hlen hr hF hb
end VL
set_option Elab.async false
set_option linter.all false
set_option maxRecDepth 100000
set_option maxHeartbeats 4000000
namespace K38
open PySem PySem.Spec PyProof.Rows L2 L2H HotX Fb VL
def top (i : Nat) : Stmt := PySem.Challenge.pw_fourbind_k38_plans_made.main.body.getD i (.Pass ⟨0, 0, 0, 0⟩)
abbrev s__law_deal : Stmt := top 3
abbrev s__law_draw : Stmt := top 4
abbrev s__law_row : Stmt := top 5
abbrev s__law_written : Stmt := top 6
abbrev s__law_plan_right : Stmt := top 7
abbrev s_law : Stmt := top 8
abbrev s_Plan___init__ : Stmt := inClass (top 1) 0
abbrev s_Plan___eq__ : Stmt := inClass (top 1) 1
abbrev s_Plan___repr__ : Stmt := inClass (top 1) 2
abbrev s_Plan___len__ : Stmt := inClass (top 1) 3
structure Top (K : PySem.W.Frag) (w : World) (mg : Str → Option Value) (a_Plan a_Plan_known a_Plan_cells : Addr) : Prop where
  n_len : mg "len" = none
  n_isinstance : mg "isinstance" = none
  n_max : mg "max" = none
  n_list : mg "list" = none
  n_reversed : mg "reversed" = none
  n_range : mg "range" = none
  n_repr : mg "repr" = none
  n_tuple : mg "tuple" = none
  n_str : mg "str" = none
  n_sorted : mg "sorted" = none
  n_set : mg "set" = none
  cl_Plan : Cls K a_Plan
  c_Plan : Cn mg "Plan" (.ref a_Plan)
  m_Plan : mg "Plan" = some (.ref a_Plan)
  n_Plan_known : NoAttr K a_Plan "known"
  n_Plan_cells : NoAttr K a_Plan "cells"
  h_Plan___init__ : ∃ f fd, Fb.FunK K "__init__" "Plan.__init__" s_Plan___init__ [("known", .ref a_Plan_known), ("cells", .ref a_Plan_cells)] f fd ∧ Mk K a_Plan f
  h_Plan___eq__ : ∃ f fd, L2.Fun K "__eq__" "Plan.__eq__" s_Plan___eq__ f fd ∧ Meth K a_Plan "__eq__" f
  h_Plan___repr__ : ∃ f fd, L2.Fun K "__repr__" "Plan.__repr__" s_Plan___repr__ f fd ∧ Meth K a_Plan "__repr__" f
  h_Plan___len__ : ∃ f fd, L2.Fun K "__len__" "Plan.__len__" s_Plan___len__ f fd ∧ Meth K a_Plan "__len__" f
  w_Plan_known : ∀ H, SqT K H a_Plan_known []
  w_Plan_cells : ∀ H, SqT K H a_Plan_cells []
  eq_Plan : VL.EqOk K a_Plan VL.ts3
  ne_Plan : PySem.W.findIn K (.ref a_Plan) "__ne__" = some (some (.builtin "object.__ne__"))
  h__law_deal : Has K mg "_law_deal" s__law_deal
  h__law_draw : Has K mg "_law_draw" s__law_draw
  h__law_row : Has K mg "_law_row" s__law_row
  h__law_written : Has K mg "_law_written" s__law_written
  h__law_plan_right : Has K mg "_law_plan_right" s__law_plan_right
abbrev sLaw : Stmt := s_law
end K38
set_option Elab.async false
set_option linter.all false
set_option maxRecDepth 100000
set_option maxHeartbeats 4000000
namespace K38
open PySem PySem.Spec PyProof.Rows L2 L2H HotX Fb VL
section
variable {P : Program} {w : World} {K : PySem.W.Frag} {mg : Str → Option Value} {base : Heap} {a_Plan a_Plan_known a_Plan_cells : Addr}
theorem scDraw : FnScope ["_law_deal_here", "_law_many", "_law_number", "_law_one", "_law_other"] ["_law_deal_here", "_law_many"] (defScope s__law_draw) := ⟨rfl, rfl, rfl, by decide +kernel, rfl, by decide +kernel, by decide +kernel⟩
theorem okF_draw (T : Top K w mg a_Plan a_Plan_known a_Plan_cells) : C8.Cal P w K mg base 1 "_law_draw" spDraw [] := by
  obtain ⟨f, fd, F, gm⟩ := T.h__law_draw
  refine ⟨f, fd, ["_law_deal_here", "_law_many"], [], ?_, gm, F.kp, F.binds (fun _ _ _ _ _ _ us hl => match us, hl with | [_, _], _ => rfl), .nil⟩
  refine F.ok scDraw (fun vs H Q E h => ?_) (fun cdv A outer s H vs Q E hr h => ?_)
  · obtain ⟨d, l, many, rfl, _⟩ := h
    rfl
  · obtain ⟨d, l, many, rfl, ⟨s0, n0, ns0, hD⟩, m0, m1, k⟩ := h
    have hu := hu_of hr
    have hdl := hD.ne
    refine ⟨_, (C8.pss_cut (ps_while PassesOwn.never (PW.pt (pw_and (pt_cmpR op_eq (pe_dget hu (pv 0) pe_str (fun _ _ => rfl)) pe_int (nomark _)) (pw_and1 (pt_cmpR op_gt (pe_callB call_len_seq (by rfl) T.n_len (by decide +kernel) (pa_cons (pe_dget hu (pv 0) pe_str (fun _ _ => rfl)) pa_nil)) pe_int (nomark _))))) (pss_one (ps_dput hu (pv 0) pe_str (pe_bm0 PySem.F.plainAttrs_list PySem.F.slot_list_pop PySem.F.type_list_pop mt_pop (pe_dget hu (pv 0) pe_str (fun _ _ => rfl))) rfl)))
  (pss_cons (ps_set (i := 2) scDraw.nd rfl (Or.inl rfl) (pe_dget hu (pv 0) pe_str (fun _ _ => rfl)))
  (pss_cons (ps_if (pt_cmpR op_gt (pv 2) pe_int (nomark _))
    (pss_cons (ps_dput hu (pv 0) pe_str (pe_op op_fdivW (pv 2) (pv 1)) rfl)
  (pss_one (ps_ret (pe_op op_mod (pv 2) (pv 1)))))
    pss_nil)
  (pss_cons (ps_set (i := 3) scDraw.nd rfl (Or.inl rfl) (pe_op op_mod (pe_op op_add (pe_op op_mul (pe_dget hu (pv 0) pe_str (fun _ _ => rfl)) pe_int) pe_int) pe_int))
  (pss_cons (ps_dput hu (pv 0) pe_str (pe_op op_mod (pe_op op_add (pe_op op_mul (pv 3) pe_int) pe_int) pe_int) rfl)
  (pss_cons (ps_set (i := 4) scDraw.nd rfl (Or.inl rfl) (pe_op op_mod (pe_op op_mul (pe_dget hu (pv 0) pe_str (fun _ _ => rfl)) (pe_dget hu (pv 0) pe_str (fun _ _ => rfl))) pe_int))
  (pss_one (ps_ret (pe_op op_mod (pe_op op_add (pe_op op_mul (pe_op op_mod (pe_op op_mul (pv 3) (pv 3)) pe_int) pe_int) (pv 4)) (pv 1)))))))))), ?_⟩
    refine ⟨fun σ H1 => σ = [some (.ref d), some (.int many), none, none, none] ∧ Keep d l H H1 ∧ DealAt H1 d l, ?_, ?_⟩
    · refine ⟨fun m σ H1 => σ = [some (.ref d), some (.int many), none, none, none] ∧ Keep d l H H1 ∧ ∃ s n ns, m = ns.length ∧ DealX H1 d l s n ns, ⟨_, rfl, Keep.refl _ _ _, s0, n0, ns0, rfl, hD⟩, ?_⟩
      rintro m σ H1 ⟨rfl, hk, s1, n1, ns, rfl, h1⟩
      refine ⟨.ref d, rfl, d, .int n1, rfl, g_number h1.1, rfl, _, rfl, ?_⟩
      refine ite2 (fun e => ?_) (fun e => ?_)
      · refine ⟨.ref d, rfl, d, .ref l, rfl, g_left h1.1, l, ns.map V.int, rfl, .inl (SqL.of h1.2.1), _, _, rfl, rfl, _, rfl, ?_⟩
        refine ite2 (fun e2 => ?_) (fun e2 => ?_)
        · have hpos : 0 < ns.length := by
            have z := of_decide_eq_true e2
            rw [List.length_map] at z
            omega
          have hlast : (ns.map V.int)[(ns.map V.int).length - 1]? = some (.int (ns.getLast (by intro z; rw [z] at hpos; exact Nat.lt_irrefl _ hpos))) := by
            rw [List.length_map, List.getElem?_map, ← List.getLast?_eq_getElem?, List.getLast?_eq_some_getLast]
            rfl
          refine ⟨fun σ2 H2 => σ2 = [some (.ref d), some (.int many), none, none, none] ∧ Keep d l H H2 ∧ ∃ s n ns', ns'.length < ns.length ∧ DealX H2 d l s n ns', fun σ2 H2 ⟨a1, a2, a3, a4, a5, a6, a7⟩ => ⟨_, a6, a1, a2, a3, a4, a5, rfl, a7⟩, ?_⟩
          refine ⟨.ref d, rfl, d, .ref l, rfl, g_left h1.1, .inl ⟨rfl, _, SqL.of h1.2.1⟩, l, _, _, rfl, rfl, h1.2.1, hlast, .ref d, rfl, d, _, rfl, u_number (by rw [upd_ne hdl]; exact h1.1), ?_⟩
          refine ⟨rfl, hk.at_l.at_d, s1, _, ns.dropLast, by rw [List.length_dropLast]; omega, upd_same, ?_, h1.2.2.1, h1.2.2.2.1, ?_, fun x hx => h1.2.2.2.2.2 x (List.dropLast_subset _ hx)⟩
          · rw [upd_ne hdl.symm, upd_same, List.map_dropLast]
          · exact Int.le_of_lt (h1.2.2.2.2.2 _ (List.getLast_mem _))
        · exact ⟨rfl, hk, _, _, _, h1⟩
      · exact iteF ⟨rfl, hk, _, _, _, h1⟩
    · rintro σ H1 ⟨rfl, hk, s1, n1, ns, h1⟩
      refine ⟨.ref d, rfl, d, .int n1, rfl, g_number h1.1, _, rfl, _, _, rfl, rfl, _, rfl, ?_⟩
      refine ite2 (fun e => ?_) (fun e => ?_)
      · have hn : 0 < n1 := of_decide_eq_true e
        refine ⟨_, rfl, _, rfl, _, _, rfl, rfl, divW m0 m1, .ref d, rfl, d, _, rfl, u_number h1.1, _, rfl, _, rfl, _, _, rfl, rfl, m0, ?_⟩
        refine k _ _ (mod_lo m0) (mod_hi m0) ⟨s1, n1 / many, ns, upd_same, by rw [upd_ne hdl.symm]; exact h1.2.1, h1.2.2.1, h1.2.2.2.1, Int.ediv_nonneg (by omega) (by omega), h1.2.2.2.2.2⟩ hk.at_d
      · have q1 : (0 : Int) < 2147483647 := by decide
        have q2 : (0 : Int) < 2147483399 := by decide
        have q3 : (0 : Int) < 2147483563 := by decide
        have q4 : (0 : Int) < 2147483629 := by decide
        have b1 := mod_lo (a := s1 * 48271 + 7919) q1
        have b2 := mod_hi (a := s1 * 48271 + 7919) q1
        refine ⟨.ref d, rfl, d, .int s1, rfl, g_seed h1.1, _, _, rfl, rfl, mulS h1.2.2.1 (by have := h1.2.2.2.1; omega), _, _, rfl, rfl, _, _, rfl, rfl, q1, ?_⟩
        have c1 := mod_lo (a := (s1 * 48271 + 7919) % 2147483647 * 40692 + 104729) q2
        have c2 := mod_hi (a := (s1 * 48271 + 7919) % 2147483647 * 40692 + 104729) q2
        refine ⟨_, rfl, _, _, rfl, rfl, mulS b1 (by omega), _, _, rfl, rfl, _, _, rfl, rfl, q2, .ref d, rfl, d, _, rfl, u_seed h1.1, ?_⟩
        refine ⟨.ref d, rfl, d, .int _, rfl, g_seed upd_same, .ref d, rfl, d, .int _, rfl, g_seed upd_same, _, _, rfl, rfl, mulS c1 (by omega), _, _, rfl, rfl, q3, ?_⟩
        refine ⟨_, rfl, _, rfl, _, _, rfl, rfl, mulS b1 (by omega), _, _, rfl, rfl, q4, _, _, rfl, rfl, mulS (mod_lo q4) (Int.lt_trans (mod_hi q4) (by decide)), _, rfl, _, _, rfl, rfl, _, rfl, _, _, rfl, rfl, m0, ?_⟩
        exact k _ _ (mod_lo m0) (mod_hi m0) ⟨_, n1, ns, upd_same, by rw [upd_ne hdl.symm]; exact h1.2.1, c1, Int.lt_trans c2 (by decide), h1.2.2.2.2⟩ hk.at_d
theorem scDeal : FnScope ["_law_script", "_law_some", "_law_number", "_law_one"] ["_law_script"] (defScope s__law_deal) := ⟨rfl, rfl, rfl, by decide +kernel, rfl, by decide +kernel, by decide +kernel⟩
theorem okF_deal (T : Top K w mg a_Plan a_Plan_known a_Plan_cells) : C8.Cal P w K mg base 1 "_law_deal" (spDeal K) [] := by
  obtain ⟨f, fd, F, gm⟩ := T.h__law_deal
  refine ⟨f, fd, ["_law_script"], [], ?_, gm, F.kp, F.binds (fun _ _ _ _ _ _ us hl => match us, hl with | [_], _ => rfl), .nil⟩
  refine F.ok scDeal (fun vs H Q E h => ?_) (fun cdv A outer s H vs Q E hr h => ?_)
  · obtain ⟨a, ns, rfl, _⟩ := h
    rfl
  · obtain ⟨a, ns, rfl, hS, hl, k⟩ := h
    have hu := hu_of hr
    refine ⟨_, (pss_cons (ps_setLc (i := 1) (own := [("_law_one", 3)]) rfl scDeal.nd rfl rfl (sw_true rfl rfl rfl (by decide +kernel)) (pi_list (pe_slice sl_list (pv 0) po_none (po_some pe_int))) (blkOk_by (own := [("_law_one", 3)]) (N := ["_law_script", "_law_some", "_law_number", "_law_one"]) (sc := defScope s__law_deal) (by decide +kernel)) (fun _ _ _ _ _ => (pg_name (i := 3) scDeal.nd rfl (Or.inl rfl))) (fun _ _ _ _ _ => pts_nil) (fun _ _ _ _ _ => (pe_callB (call_max2 rfl) (by rfl) T.n_max (by decide +kernel) (pa_cons (pv 3) (pa_cons (pe_op op_sub pe_int (pv 3)) pa_nil)))))
  (pss_cons (ps_set (i := 2) scDeal.nd rfl (Or.inl rfl) pe_int)
  (pss_cons (ps_for PassesOwn.never rfl (pi_list (pv 1)) (pg_name (i := 3) scDeal.nd rfl (Or.inl rfl))
    (pss_one (ps_set (i := 2) scDeal.nd rfl (Or.inl rfl) (pe_op op_mod (pe_op op_add (pe_op op_mul (pv 2) pe_int) (pe_op op_mod (pv 3) pe_int)) pe_int))))
  (pss_one (ps_ret (pe_disp (pps_cons pe_str (pv 2) (pps_cons pe_str pe_int (pps_cons pe_str (Fb.pe_listRev rfl rfl T.n_list rfl T.n_reversed (pe_lc (own := [("_law_one", 3)]) rfl scDeal.nd (pi_list (pv 1)) (blkOk_by (own := [("_law_one", 3)]) (N := ["_law_script", "_law_some", "_law_number", "_law_one"]) (sc := defScope s__law_deal) (by decide +kernel)) (fun _ _ _ _ _ => (pg_name (i := 3) scDeal.nd rfl (Or.inl rfl))) (fun _ _ _ _ _ => pts_one (pt_cmpR op_ge (pv 3) (pe_op op_pow pe_int pe_int) (nomark _))) (fun _ _ _ _ _ => (pv 3)))) pps_nil))) (by rfl) (by rfl) (fun z => by cases z) (by decide))))))), ?_⟩
    refine ⟨.ref a, rfl, 60, rfl, a, ns.map V.int, rfl, hS, fun c nc => ?_⟩
    obtain ⟨ms, em, lm⟩ := cut_ints ns none (some 60)
    have s1 : Same H (L2.upd H c (.lst (cutV (ns.map V.int) none (some 60)))) := Fb.same_new nc
    have hc : (L2.upd H c (.lst (cutV (ns.map V.int) none (some 60)))) c = some (.lst (ms.map V.int)) := by rw [upd_same, em]
    generalize L2.upd H c (.lst (cutV (ns.map V.int) none (some 60))) = H1 at s1 hc
    refine ⟨c, rfl, ⟨_, SqL.of hc⟩, fun D nD => lc_list (K := K) (a := c) (xs := ms.map V.int) (fun i H2 => Same H1 H2 ∧ ∃ zs : List Int, H2 D = some (.lst (zs.map V.int)) ∧ zs.length = i ∧ ∀ z ∈ zs, 0 ≤ z)
      ⟨Fb.same_new nD, [], upd_same, rfl, fun _ z => nomatch z⟩ (fun i H2 _ ⟨e, _⟩ => SqL.of (e _ _ hc)) ?_ ?_⟩
    · rintro i x H2 hx ⟨e2, zs, hz, lz, pz⟩
      obtain ⟨z, rfl, _⟩ := int_at hx
      have hi := (List.getElem?_eq_some_iff.mp hx).1
      rw [List.length_map] at hi
      refine ⟨rfl, _, rfl, _, rfl, _, _, rfl, rfl, _, _, rfl, _, hz, small1000 (by rw [List.length_map]; omega), fun b o e => ?_, zs ++ [max z (0 - z)], ?_, ?_, ?_⟩
      · rw [upd_ne (ne_of_none e nD)]
        exact e2 b o e
      · rw [upd_same, Fb.nest, snoc_ints]
      · rw [List.length_append, lz]
        rfl
      · intro y hy
        rcases List.mem_append.mp hy with q | q
        · exact pz y q
        · rw [List.mem_singleton.mp q]
          omega
    · rintro H2 ⟨e2, zs, hz, lz, pz⟩
      rw [List.length_map] at lz
      refine ⟨.ref D, rfl, D, rfl, ⟨_, SqL.of hz⟩, for_list (K := K) (a := D) (xs := zs.map V.int) (fun i σ H3 => H3 = H2 ∧ ∃ n y, σ = [some (.ref a), some (.ref D), some (.int n), y] ∧ 0 ≤ n ∧ n < 2147483647)
        ⟨rfl, 7919, none, rfl, by decide, by decide⟩ (fun i σ H3 _ ⟨e, _⟩ => by rw [e]; exact SqL.of hz) ?_ ?_⟩
      · rintro i x σ H3 hx ⟨rfl, n, y, rfl, n0, n1⟩
        obtain ⟨z, rfl, _⟩ := int_at hx
        refine ⟨_, rfl, _, _, rfl, rfl, mulS n0 (by omega), _, rfl, _, _, rfl, rfl, (by decide : (0 : Int) < 2147483629), _, _, rfl, rfl, _, _, rfl, rfl, (by decide : (0 : Int) < 2147483647), ?_⟩
        exact ⟨rfl, _, _, rfl, mod_lo (by decide), mod_hi (by decide)⟩
      · rintro σ H3 ⟨rfl, n, y, rfl, n0, n1⟩
        intro p np
        have sp1 : Same H3 (L2.upd H3 p (.dK [])) := Fb.same_new np
        have hp1 : (L2.upd H3 p (.dK [])) p = some (.dK []) := upd_same
        generalize L2.upd H3 p (.dK []) = H4 at sp1 hp1
        have hz4 := sp1 _ _ hz
        refine ⟨_, rfl, .ref D, rfl, D, rfl, ⟨_, SqL.of hz4⟩, fun D2 nD2 => lc_list (K := K) (a := D) (xs := zs.map V.int) (fun i H5 => Same H4 H5 ∧ ∃ ws : List Int, H5 D2 = some (.lst (ws.map V.int)) ∧ ws.length ≤ i ∧ ∀ z ∈ ws, 0 < z)
          ⟨Fb.same_new nD2, [], upd_same, Nat.le_refl _, fun _ z => nomatch z⟩ (fun i H5 _ ⟨e, _⟩ => SqL.of (e _ _ hz4)) ?_ ?_⟩
        · rintro i x H5 hx ⟨e5, ws, hw, lw, pw⟩
          obtain ⟨z, rfl, hzm⟩ := int_at hx
          have hi := (List.getElem?_eq_some_iff.mp hx).1
          rw [List.length_map] at hi
          refine ⟨rfl, _, rfl, _, _, rfl, rfl, ⟨by decide, by decide, by decide⟩, _, _, rfl, rfl, _, rfl, ite2 (fun g => ?_) (fun g => ?_)⟩
          · have hg := of_decide_eq_true g
            refine ⟨_, rfl, _, hw, small1000 (by rw [List.length_map]; omega), fun b o e => ?_, ws ++ [z], ?_, ?_, ?_⟩
            · rw [upd_ne (ne_of_none e nD2)]
              exact e5 b o e
            · rw [upd_same, snoc_ints]
            · rw [List.length_append]
              show ws.length + 1 ≤ i + 1
              omega
            · intro y hy
              rcases List.mem_append.mp hy with q | q
              · exact pw y q
              · rw [List.mem_singleton.mp q]
                exact Int.lt_of_lt_of_le (by decide) hg
          · exact ⟨e5, ws, hw, Nat.le_succ_of_le lw, pw⟩
        · rintro H5 ⟨e5, ws, hw, lw, pw⟩
          refine ⟨D2, _, rfl, SqL.of hw, fun q nq => ?_⟩
          have s6 : Same H5 (L2.upd H5 q (.lst (ws.map V.int).reverse)) := Fb.same_new nq
          refine ⟨s6 _ _ (e5 _ _ hp1), dealD n 0 q, rfl, by show 3 ≤ 15; decide, ?_⟩
          have nqp : q ≠ p := (ne_of_none (e5 _ _ hp1) nq).symm
          have sH : Same H H5 := s1.trans (e2.trans (sp1.trans e5))
          have np0 : H p = none := (s1.trans e2).free np
          refine k p q _ np0 (sH.free nq) ⟨n, 0, ws.reverse, by rw [upd_same, merge_deal], by rw [upd_ne nqp, upd_same, List.map_reverse], n0, by omega, by decide, fun x hx => pw x (List.mem_reverse.mp hx)⟩ fun b o e => ?_
          rw [upd_ne (ne_of_none e np0)]
          exact s6 _ _ (sH _ _ e)
theorem ok__law_draw (T : Top K w mg a_Plan a_Plan_known a_Plan_cells) : C8.Cal P w K mg base 1 "_law_draw" (spOf K [dealSh, .s] .s vpDraw) [] := v_draw (okF_draw T)
theorem ok__law_deal (T : Top K w mg a_Plan a_Plan_known a_Plan_cells) : C8.Cal P w K mg base 1 "_law_deal" (spOf K [.s] dealSh vpDeal) [] := v_deal (okF_deal T)
end
end K38
set_option Elab.async false
set_option linter.all false
set_option maxRecDepth 100000
set_option maxHeartbeats 4000000
namespace K38
open PySem PySem.Spec PyProof.Rows L2 L2H HotX Fb VL
local macro_rules | `(tactic| walk_at "vs") => `(tactic| simp only [vLenO, vReprO, vEqO, vNeO, vIsiX, vFs, vJs, vKw, s_gDIn, vGetK, vGetK2, vAppK, vAppK2, vNPutK, vpConsK, vUpdF, vEmp, vDictC, vZipA, vLcD, vLet, vReprC, vClearC, vAppD, vExtD, vModD, pApp, pExt, vClear, vNPut, vNGet, vExtC, vListRg, vDPutC, vPar3, vParO, vDNew, vUpd, vDPut, vOwn, vLcB, vDictP, vLcK, gSortS, gSortD, s_gRepL, s_gRep01, vRevL, vRevT, vCell, vDr, vFld, vAppC, vPopC, vSetF, vCallA, vCallAX, vCallX, vMakeA, vMethA, vRaise, vTry, vXf, vChain, vTru, s_truN, s_truB, s_truI, s_truS, s_truL, s_truT, vIsi, vIsiT, vStar, vListZip, vEnum, vZipSL, vPop, vExt, vSetIx, vSetIxC, vRep, s_vgLst, vKGet, s_gMulS, s_gBoolL, s_gStrS, s_gIntS, s_gStrA1, s_gStrA2, s_seqL, s_seqT, cuD_1, ioA, setC, newC, noC, putA, ex_cell, Option.join_some, List.drop_succ_cons, List.drop_zero, s_gInK, s_gInS, s_gIn2, s_gIn3, s_gIn4, s_gIn5, ex_par, vNeg, s_gAny, vCaTd, vOp2Lv, s_callIO, s_io, s_fill0, s_fillN, s_fillS, s_putIO, s_wio0, s_wioN, s_wioS, s_give0, s_giveN, s_giveS, s_giveM, Option.map_some, s_seq, s_next, s_break, s_cont, s_set, s_ret, s_retN, s_drop, s_ifS, s_for, s_asg, s_par, s_var, s_c, s_op2, s_op2L, s_op2T, s_ca, s_caL, s_caT, s_nil, s_cons, s_tup, s_lst, s_test, s_and, s_or, s_not, s_if, s_andV, s_orV, s_notV, s_no, s_part, s_sl, s_slL, s_slT, s_ls, s_ts, s_sgs, s_rng1, s_rng2, s_gName, s_gNil, s_gCons, s_gTup, s_lc, s_yes, s_append, s_call, s_dget, s_get2, s_pNil, s_pCons, s_disp, s_m1, s_split, s_indexD, s_w1, s_w2, s_isStr, s_gI, s_gI0, s_gAddS, s_gS, s_gSg, s_gEqI, s_gEqS, s_gEqB, s_gEqNI, s_gEqIS, s_gEqSI, s_gNeI, s_gNeS, s_gIsN, s_gNotN, s_isNon0, s_isNonI, s_isNonS, s_isNonT, s_isNonL, s_gIxL, s_gIxT, s_gIxS, s_gCat, s_gCatT, s_gSlL, s_gSlT, s_gSlS, s_gLenL, s_gLenT, s_gLenS, s_gSum, s_gI2, s_gInt1, s_gInt1b, s_gStrI, s_gAll, s_gSeqL, s_gSeqT, s_gDGet, s_gGet2, s_kDs, s_kDi, s_ioN, s_ioS, s_ioL, s_ioD, s_ioO, s_nones0, s_nones1, List.map_cons, List.map_nil, List.cons_append, List.nil_append, List.append_nil, List.append_assoc, List.getElem?_cons_zero, List.getElem?_cons_succ, List.set_cons_zero, List.set_cons_succ, Option.some.injEq, exists_eq_left', exists_eq_left, D.int.injEq, D.str.injEq, D.tup.injEq, D.lst.injEq, D.bl.injEq, D.dct.injEq, and_true, true_and, List.length_cons, List.length_nil, exists_and_left, exists_eq, Bool.not_true, Bool.not_false, exists_eq', Nat.zero_le, atI_0, atI_1, atI_2, atI_3, atI_4, atI_5, s_gInD, if_true, if_false, Bool.false_eq_true, Nat.reduceAdd])
local macro_rules | `(tactic| walk_at "v1") => `(tactic| simp only [vLenO, vReprO, vEqO, vNeO, vIsiX, vFs, vJs, vKw, s_gDIn, vGetK, vGetK2, vAppK, vAppK2, vNPutK, vpConsK, vUpdF, vEmp, vDictC, vZipA, vLcD, vLet, vReprC, vClearC, vAppD, vExtD, vModD, pApp, pExt, vClear, vNPut, vNGet, vExtC, vListRg, vDPutC, vPar3, vParO, vDNew, vUpd, vDPut, vOwn, vLcB, vDictP, vLcK, gSortS, gSortD, s_gRepL, s_gRep01, vRevL, vRevT, vCell, vDr, vFld, vAppC, vPopC, vSetF, vCallA, vCallAX, vCallX, vMakeA, vMethA, vRaise, vTry, vXf, vChain, vTru, s_truN, s_truB, s_truI, s_truS, s_truL, s_truT, vIsi, vIsiT, vStar, vListZip, vEnum, vZipSL, vPop, vExt, vSetIx, vSetIxC, vRep, s_vgLst, vKGet, s_gMulS, s_gBoolL, s_gStrS, s_gIntS, s_gStrA1, s_gStrA2, s_seqL, s_seqT, cuD_1, ioA, setC, newC, noC, putA, ex_cell, Option.join_some, List.drop_succ_cons, List.drop_zero, s_gInK, s_gInS, s_gIn2, s_gIn3, s_gIn4, s_gIn5, ex_par, vNeg, s_gAny, vCaTd, vOp2Lv, s_callIO, s_io, s_fill0, s_fillN, s_fillS, s_putIO, s_wio0, s_wioN, s_wioS, s_give0, s_giveN, s_giveS, s_giveM, Option.map_some, s_seq, s_next, s_break, s_cont, s_set, s_ret, s_retN, s_drop, s_for, s_asg, s_par, s_var, s_c, s_op2, s_op2L, s_op2T, s_ca, s_caL, s_caT, s_nil, s_cons, s_tup, s_lst, s_test, s_and, s_or, s_not, s_if, s_andV, s_orV, s_notV, s_no, s_part, s_sl, s_slL, s_slT, s_ls, s_ts, s_sgs, s_rng1, s_rng2, s_gName, s_gNil, s_gCons, s_gTup, s_lc, s_yes, s_append, s_call, s_dget, s_get2, s_pNil, s_pCons, s_disp, s_m1, s_split, s_indexD, s_w1, s_w2, s_isStr, s_gI, s_gI0, s_gAddS, s_gS, s_gSg, s_gEqI, s_gEqS, s_gEqB, s_gEqNI, s_gEqIS, s_gEqSI, s_gNeI, s_gNeS, s_gIsN, s_gNotN, s_isNon0, s_isNonI, s_isNonS, s_isNonT, s_isNonL, s_gIxL, s_gIxT, s_gIxS, s_gCat, s_gCatT, s_gSlL, s_gSlT, s_gSlS, s_gLenL, s_gLenT, s_gLenS, s_gSum, s_gI2, s_gInt1, s_gInt1b, s_gStrI, s_gAll, s_gSeqL, s_gSeqT, s_gDGet, s_gGet2, s_kDs, s_kDi, s_ioN, s_ioS, s_ioL, s_ioD, s_ioO, s_nones0, s_nones1, List.map_cons, List.map_nil, List.cons_append, List.nil_append, List.append_nil, List.append_assoc, List.getElem?_cons_zero, List.getElem?_cons_succ, List.set_cons_zero, List.set_cons_succ, Option.some.injEq, exists_eq_left', exists_eq_left, D.int.injEq, D.str.injEq, D.tup.injEq, D.lst.injEq, D.bl.injEq, D.dct.injEq, and_true, true_and, List.length_cons, List.length_nil, exists_and_left, exists_eq, Bool.not_true, Bool.not_false, exists_eq', Nat.zero_le, atI_0, atI_1, atI_2, atI_3, atI_4, atI_5, s_gInD, if_true, if_false, Bool.false_eq_true, Nat.reduceAdd])
section
variable {P : Program} {w : World} {K : PySem.W.Frag} {mg : Str → Option Value} {base : Heap} {a_Plan a_Plan_known a_Plan_cells : Addr}
open Gn
abbrev fPl : List Str := [Str.ofString "known", Str.ofString "cells"]
def tI (l : List Int) : D := .tup (l.map D.int)
def vpInit (C : Addr) : VSp := fun ds Q _ => ∃ a x y al l, ds = [.ref a, x, y, .mem al l] ∧ cellAt al l a = some (.obj C [] []) ∧ ∀ l', Now al l l' a (.obj C fPl [x, y]) → Q .non [none, none, none, some (.mem al l')]
def vpLen (C : Addr) : VSp := fun ds Q _ => ∃ a x al l, ∃ cs : List Int, ds = [.ref a, .mem al l] ∧ cellAt al l a = some (.obj C fPl [x, tI cs]) ∧ Q (.int cs.length) [none, some (.mem al l)]
def vpEq (C : Addr) : VSp := fun ds Q _ => ∃ a y al l, ∃ ks cs : List Int, ds = [.ref a, y, .mem al l] ∧ cellAt al l a = some (.obj C fPl [tI ks, tI cs]) ∧
  ((∃ b, ∃ ks' cs' : List Int, y = .ref b ∧ cellAt al l b = some (.obj C fPl [tI ks', tI cs']) ∧ Q (.bl (decide (ks = ks') && decide (cs = cs'))) [none, none, some (.mem al l)]) ∨ ((∃ t, tyL y = some t ∧ t ∈ ts3) ∧ Q (.bl false) [none, none, some (.mem al l)]))
def shI (l : List Int) : Str := (py (tI l)).shown
theorem py_tI (l : List Int) : py (tI l) = .tuple (l.map PyData.int) := by
  unfold tI
  rw [py, pys_map, List.map_map]
  rfl
theorem plain_tI (l : List Int) : VL.plain (tI l) = true := by
  unfold tI
  rw [VL.plain]
  induction l with
  | nil => rw [List.map_nil, plains]
  | cons z r ih => rw [List.map_cons, plains, ih]; simp [VL.plain]
structure OkI (l : List Int) : Prop where
  n : l.length ≤ 5
  b : ∀ x ∈ l, 0 ≤ x ∧ x < 1000000000000000000
theorem log_ok {x : Int} (h : 0 ≤ x ∧ x < 1000000000000000000) : x.natAbs.log2 < 1920 := by
  have h1 : x.natAbs < 2 ^ 60 := by omega
  by_cases z : x.natAbs = 0
  · rw [z]; decide
  · exact Nat.lt_of_lt_of_le ((Nat.log2_lt z).mpr h1) (by decide)
theorem len_int {x : Int} (h : 0 ≤ x ∧ x < 1000000000000000000) : (Str.ofString (toString x)).length ≤ 18 := PyProof.Rows.toString_length_le h.1 (by decide) h.2
theorem eqv_tI : ∀ (l m : List Int), PyData.eqv (py (tI l)) (py (tI m)) = decide (l = m) := by
  intro l m
  rw [py_tI, py_tI, PyData.eqv]
  induction l generalizing m with
  | nil => cases m <;> simp [PyData.eqvAll]
  | cons a r ih =>
    cases m with
    | nil => simp [PyData.eqvAll]
    | cons b s => rw [List.map_cons, List.map_cons, PyData.eqvAll, ih, PyData.eqv]; by_cases h : a = b <;> by_cases h2 : r = s <;> simp [h, h2]
theorem dep_tI (l : List Int) : (py (tI l)).depth ≤ 1 := by
  rw [py_tI, PyData.depth]
  have : PyData.depthAll (l.map PyData.int) = 0 := by
    induction l with
    | nil => rfl
    | cons a r ih => rw [List.map_cons, PyData.depthAll, ih, PyData.depth]; rfl
  omega
theorem shaped_tI (l : List Int) : SeqAt.shaped (py (tI l)) = true := by
  unfold SeqAt.shaped
  rw [Bool.and_eq_true, decide_eq_true_eq]
  refine ⟨?_, by have := dep_tI l; omega⟩
  rw [py_tI, PyData.canLay0]
  induction l with
  | nil => rw [List.map_nil, PyData.canLayAll0]
  | cons a r ih => rw [List.map_cons, PyData.canLayAll0, ih, PyData.canLay0]; rfl
theorem show_tI {l : List Int} (h : OkI l) : (py (tI l)).showable = true := by
  rw [py_tI, PyData.showable]
  have := h.b
  clear h
  induction l with
  | nil => rfl
  | cons a r ih =>
    rw [List.map_cons, PyData.showableAll, ih (fun x hx => this x (List.mem_cons_of_mem _ hx)), PyData.showable, decide_eq_true (log_ok (this a List.mem_cons_self))]
    rfl
theorem nod_tI (l : List Int) : (py (tI l)).hasDict = false := by
  rw [py_tI, PyData.hasDict]
  induction l with
  | nil => rfl
  | cons a r ih => rw [List.map_cons, PyData.hasDictAll, ih]; rfl
theorem shI_eq (l : List Int) : shI l = tupleText (l.map fun x => Str.ofString (toString x)) := by
  unfold shI
  rw [py_tI, PyData.shown]
  congr 1
  induction l with
  | nil => rfl
  | cons a r ih => rw [List.map_cons, PyData.shownAll, ih, PyData.shown, List.map_cons]
theorem len_app (x y : Str) : (x ++ y).length = x.length + y.length := PySem.Str.length_append x y
theorem join_le : ∀ ts : List Str, (∀ t ∈ ts, t.length ≤ 18) → (Str.join ", " ts).length ≤ 20 * ts.length
  | [], _ => by decide
  | [x], h => by
    have := h x List.mem_cons_self
    show x.length ≤ 20 * 1
    omega
  | x :: y :: r, h => by
    have h1 := h x List.mem_cons_self
    have ih := join_le (y :: r) fun t ht => h t (List.mem_cons_of_mem _ ht)
    show (x ++ ", " ++ Str.join ", " (y :: r)).length ≤ _
    rw [len_app, len_app, List.length_cons]
    have e : (Str.ofString ", ").length = 2 := by decide +kernel
    omega
theorem shI_len {l : List Int} (h : OkI l) : (shI l).length ≤ 200 := by
  rw [shI_eq]
  unfold tupleText
  have h1 := join_le (l.map fun x => Str.ofString (toString x)) (by
    intro t ht
    obtain ⟨x, hx, rfl⟩ := List.mem_map.mp ht
    exact len_int (h.b x hx))
  have h2 := h.n
  rw [List.length_map] at h1
  rw [len_app, len_app]
  have e1 : (Str.ofString "(").length = 1 := by decide +kernel
  have e2 : ∀ b : Bool, (Str.ofString (if b = true then ",)" else ")")).length ≤ 2 := by decide +kernel
  have := e2 ((l.map fun x => Str.ofString (toString x)).length == 1)
  omega
theorem gr_tI {l : List Int} {Q : D → Prop} (h : OkI l) (q : Q (.str (shI l))) : gRepr [tI l] Q :=
  ⟨.inr ⟨_, rfl⟩, plain_tI l, show_tI h, nod_tI l, by have := dep_tI l; omega, Nat.le_trans (shI_len h) (by decide), q⟩
theorem ge_tI {l m : List Int} {Q : D → Prop} (q : Q (.bl (decide (l = m)))) : gEqD (tI l) (tI m) Q := ⟨plain_tI l, plain_tI m, shaped_tI l, shaped_tI m, by rw [eqv_tI]; exact q⟩
theorem gn_tI {l m : List Int} {Q : D → Prop} (q : Q (.bl (!decide (l = m)))) : gNeD (tI l) (tI m) Q := ⟨plain_tI l, plain_tI m, shaped_tI l, shaped_tI m, by rw [eqv_tI]; exact q⟩
def shP (ks cs : List Int) : Str := Str.ofString "Plan(known=" ++ shI ks ++ Str.ofString ", cells=" ++ shI cs ++ Str.ofString ")"
def vpRepr (C : Addr) : VSp := fun ds Q _ => ∃ a al l, ∃ ks cs : List Int, ds = [.ref a, .mem al l] ∧ cellAt al l a = some (.obj C fPl [tI ks, tI cs]) ∧ OkI ks ∧ OkI cs ∧ Q (.str (shP ks cs)) [none, some (.mem al l)]
theorem sc_Plan___init__ : FnScope ["self", "known", "cells"] ["self", "known", "cells"] (defScope s_Plan___init__) := ⟨rfl, rfl, rfl, by decide +kernel, rfl, by decide +kernel, by decide +kernel⟩
theorem fn_Plan___init__ (T : Top K w mg a_Plan a_Plan_known a_Plan_cells)  {f : Addr} {fd : FuncData} (F : L2.Fun K "__init__" "Plan.__init__" s_Plan___init__ f fd) : FnOk P w K mg base C8.CX0 1 f fd ["self", "known", "cells"] (spA K [.s, .s, .s] (.s) (vpInit a_Plan)) := by
  refine F.ok sc_Plan___init__ (fun vs H Q E h => h.len) (fun cdv A outer s H vs Q E hr h => ?_)
  have hu := hu_of hr
  have hu64 : (A.deeper (envOfC "Plan.__init__" (defScope s_Plan___init__) s.heap.objs.size f cdv)).units + 64 < cLine := by have := hr.un; omega
  have hu65 : (A.deeper (envOfC "Plan.__init__" (defScope s_Plan___init__) s.heap.objs.size f cdv)).units + 65 < cLine := by have := hr.un; omega
  refine ⟨_, (pss_cons (VL.sfldK K rfl (pv 0) (pv 1) rfl)
  (pss_one (VL.sfldK K rfl (pv 0) (pv 2) rfl))), fn_runA0 (pM := [.s, .s, .s]) (M2 := []) rfl (fun H0 io av rt hrt => (vs_seq (n_setF 3 rfl T.cl_Plan T.n_Plan_known (q_var (i := 0) rfl) (VQ.e (q_var (i := 1) rfl)))
  (n_setF 3 rfl T.cl_Plan T.n_Plan_cells (q_var (i := 0) rfl) (VQ.e (q_var (i := 2) rfl))))) (fun ds al ml Qv Qx hl hs => ?_) h⟩
  obtain ⟨a, x, y, al', l', hd, ha, q⟩ := hs
  obtain ⟨rfl, rfl, rfl⟩ := apn (es := [_, _, _]) hd
  walk_at "vs"
  simp only [ex_mem, ex_mem0, ex_ref, true_and]
  have n1 := Now.of (d := .obj a_Plan [Str.ofString "known"] [x]) ha
  exact ⟨_, _, ha, by decide, _, _, n1.at, (by decide : 1 < 1000), q _ (n1.step (d := .obj a_Plan fPl [x, y]))⟩
theorem g_kn {x y : D} : getF fPl [x, y] (Str.ofString "known") = some x := rfl
theorem g_ce {x y : D} : getF fPl [x, y] (Str.ofString "cells") = some y := rfl
theorem sc_Plan___len__ : FnScope ["self"] ["self"] (defScope s_Plan___len__) := ⟨rfl, rfl, rfl, by decide +kernel, rfl, by decide +kernel, by decide +kernel⟩
theorem ok_Plan___len__ (T : Top K w mg a_Plan a_Plan_known a_Plan_cells) : C8.Met P w K mg base 1 a_Plan "__len__" (spA K [.s] (.s) (vpLen a_Plan)) [] := by
  obtain ⟨f, fd, F, M⟩ := T.h_Plan___len__
  refine ⟨f, fd, ["self"], [], T.cl_Plan, M, ?_, F.binds (fun _ _ _ _ _ _ us hl => match us, hl with | [_], _ => rfl), .nil⟩
  refine F.ok sc_Plan___len__ (fun vs H Q E h => h.len) (fun cdv A outer s H vs Q E hr h => ?_)
  have hu := hu_of hr
  have hu64 : (A.deeper (envOfC "Plan.__len__" (defScope s_Plan___len__) s.heap.objs.size f cdv)).units + 64 < cLine := by have := hr.un; omega
  have hu65 : (A.deeper (envOfC "Plan.__len__" (defScope s_Plan___len__) s.heap.objs.size f cdv)).units + 65 < cLine := by have := hr.un; omega
  refine ⟨_, (pss_one (ps_ret (pe_callB (VL.lenK K rfl) (by rfl) T.n_len (by decide +kernel) (pa_cons (VL.fldK K rfl (pv 0) rfl) pa_nil)))), fn_runA0 (pM := [.s]) (M2 := []) rfl (fun H0 io av rt hrt => (vs_ret (VQ.e (q_ca (vba_cons (VQ.b (q_fld T.cl_Plan T.n_Plan_cells (n_cell 1 rfl (q_var (i := 0) rfl)))) vba_nil) cd_len)))) (fun ds al ml Qv Qx hl hs => ?_) h⟩
  obtain ⟨a, x, al', l', cs, hd, ha, q⟩ := hs
  obtain ⟨rfl, rfl, rfl⟩ := apn (es := [_]) hd
  walk_at "vs"
  simp only [ex_mem, ex_mem0, ex_ref, true_and]
  refine ⟨_, ha, _, _, rfl, _, g_ce, ?_⟩
  show Qv (.int (cs.map D.int).length) _
  rw [List.length_map]
  exact q
theorem sc_Plan___eq__ : FnScope ["self", "other"] ["self", "other"] (defScope s_Plan___eq__) := ⟨rfl, rfl, rfl, by decide +kernel, rfl, by decide +kernel, by decide +kernel⟩
theorem ok_Plan___eq__ (T : Top K w mg a_Plan a_Plan_known a_Plan_cells) : C8.Met P w K mg base 1 a_Plan "__eq__" (spA K [.s, .s] (.s) (vpEq a_Plan)) [] := by
  obtain ⟨f, fd, F, M⟩ := T.h_Plan___eq__
  refine ⟨f, fd, ["self", "other"], [], T.cl_Plan, M, ?_, F.binds (fun _ _ _ _ _ _ us hl => match us, hl with | [_, _], _ => rfl), .nil⟩
  refine F.ok sc_Plan___eq__ (fun vs H Q E h => h.len) (fun cdv A outer s H vs Q E hr h => ?_)
  have hu := hu_of hr
  have hu64 : (A.deeper (envOfC "Plan.__eq__" (defScope s_Plan___eq__) s.heap.objs.size f cdv)).units + 64 < cLine := by have := hr.un; omega
  have hu65 : (A.deeper (envOfC "Plan.__eq__" (defScope s_Plan___eq__) s.heap.objs.size f cdv)).units + 65 < cLine := by have := hr.un; omega
  refine ⟨_, (pss_one (ps_ret (pe_and (pe_callB (VL.isiK K rfl) (by rfl) T.n_isinstance (by decide +kernel) (pa_cons (pv 1) (pa_cons (C8.pe_gc rfl T.c_Plan) pa_nil))) (pe_and (pe_cmpR (VL.eqDK K rfl hu64) (VL.fldK K rfl (pv 0) rfl) (VL.fldK K rfl (pv 1) rfl) (nomark _)) (pe_one (pe_cmpR (VL.eqDK K rfl hu64) (VL.fldK K rfl (pv 0) rfl) (VL.fldK K rfl (pv 1) rfl) (nomark _))))))), fn_runA0 (pM := [.s, .s]) (M2 := []) rfl (fun H0 io av rt hrt => (vs_ret (v_and (VQ.e (n_isiX 2 rfl T.eq_Plan (q_var (i := 1) rfl))) (v_and (VQ.e (q_op (VQ.b (q_fld T.cl_Plan T.n_Plan_known (n_cell 2 rfl (q_var (i := 0) rfl)))) (VQ.b (q_fld T.cl_Plan T.n_Plan_known (n_cell 2 rfl (q_var (i := 1) rfl)))) od_eqD)) (VQ.e (q_op (VQ.b (q_fld T.cl_Plan T.n_Plan_cells (n_cell 2 rfl (q_var (i := 0) rfl)))) (VQ.b (q_fld T.cl_Plan T.n_Plan_cells (n_cell 2 rfl (q_var (i := 1) rfl)))) od_eqD)))))) (fun ds al ml Qv Qx hl hs => ?_) h⟩
  obtain ⟨a, y, al', l', ks, cs, hd, ha, q⟩ := hs
  obtain ⟨rfl, rfl, rfl⟩ := apn (es := [_, _]) hd
  walk_at "vs"
  simp only [ex_mem, ex_mem0, ex_ref, true_and]
  rcases q with ⟨b, ks', cs', rfl, hb, q⟩ | q
  · refine .inl ⟨⟨b, rfl, _, _, hb⟩, _, ha, _, _, rfl, _, g_kn, b, rfl, _, hb, _, _, rfl, _, g_kn, ge_tI ⟨_, rfl, ?_⟩⟩
    refine ite2 (fun e => ?_) (fun e => ?_)
    · refine ⟨_, ha, _, _, rfl, _, g_ce, b, rfl, _, hb, _, _, rfl, _, g_ce, ge_tI ?_⟩
      rw [e] at q
      exact q
    · have e : decide (ks = ks') = false := by simpa using e
      rw [e] at q
      exact q
  · exact .inr q
theorem sc_Plan___repr__ : FnScope ["self"] ["self"] (defScope s_Plan___repr__) := ⟨rfl, rfl, rfl, by decide +kernel, rfl, by decide +kernel, by decide +kernel⟩
theorem ok_Plan___repr__ (T : Top K w mg a_Plan a_Plan_known a_Plan_cells) : Fb.MetG P w K mg base 1 a_Plan "__repr__" (spA K [.s] (.s) (vpRepr a_Plan)) := by
  obtain ⟨f, fd, F, M⟩ := T.h_Plan___repr__
  refine ⟨f, fd, ["self"], T.cl_Plan, M, ?_, F.binds (fun _ _ _ _ _ _ us hl => match us, hl with | [_], _ => rfl)⟩
  refine ok_G F sc_Plan___repr__ (fun vs H Q E h => h.len) (fun cdv A outer s H vs Q E gd hr h => ?_)
  have hu := hu_of hr
  have hu64 : (A.deeper (envOfC "Plan.__repr__" (defScope s_Plan___repr__) s.heap.objs.size f cdv)).units + 64 < cLine := by have := hr.un; omega
  have hu65 : (A.deeper (envOfC "Plan.__repr__" (defScope s_Plan___repr__) s.heap.objs.size f cdv)).units + 65 < cLine := by have := hr.un; omega
  refine ⟨_, (pss_one (ps_ret (L2.pe_joined (PJ.cons pe_str (PJ.cons (Fb.pe_fmtRD gd hu64 (VL.fldK K rfl (pv 0) rfl)) (PJ.cons pe_str (PJ.cons (Fb.pe_fmtRD gd hu64 (VL.fldK K rfl (pv 0) rfl)) (PJ.cons pe_str PJ.nil)))))))), fn_runA0 (pM := [.s]) (M2 := []) rfl (fun H0 io av rt hrt => (vs_ret (v_fs (VJ.cons (VQ.e q_str) (VJ.cons (v_ca (va_cons (VQ.e (q_fld T.cl_Plan T.n_Plan_known (n_cell 1 rfl (q_var (i := 0) rfl)))) va_nil) cd_repr) (VJ.cons (VQ.e q_str) (VJ.cons (v_ca (va_cons (VQ.e (q_fld T.cl_Plan T.n_Plan_cells (n_cell 1 rfl (q_var (i := 0) rfl)))) va_nil) cd_repr) (VJ.cons (VQ.e q_str) VJ.nil)))))))) (fun ds al ml Qv Qx hl hs => ?_) h⟩
  obtain ⟨a, al', l', ks, cs, hd, ha, h1, h2, q⟩ := hs
  obtain ⟨rfl, rfl, rfl⟩ := apn (es := [_]) hd
  walk_at "vs"
  simp only [ex_mem, ex_mem0, ex_ref, true_and]
  have z0 : Str.empty ++ Str.ofString "Plan(known=" = Str.ofString "Plan(known=" := by decide +kernel
  have z1 : (Str.ofString "Plan(known=").length = 11 := by decide +kernel
  have z2 : (Str.ofString ", cells=").length = 8 := by decide +kernel
  have z3 : (Str.ofString ")").length = 1 := by decide +kernel
  have l1 := shI_len h1
  have l2 := shI_len h2
  have hsl : sizeLine = 16777216 := rfl
  rw [z0]
  refine ⟨by omega, _, ha, _, _, rfl, _, g_kn, gr_tI h1 ⟨_, rfl, ?_, ?_, _, ha, _, _, rfl, _, g_ce, gr_tI h2 ⟨_, rfl, ?_, ?_, q⟩⟩⟩
  all_goals (simp only [len_app]; omega)
theorem kw_Plan : Fb.Kw2 "Plan.__init__" s_Plan___init__ "known" "cells" := ⟨fun _ _ _ _ _ _ _ _ _ => rfl, fun _ _ _ _ _ _ _ _ _ => rfl, fun _ _ _ _ _ _ _ _ _ => ⟨_, _, _, _, _, _, rfl, rfl, rfl⟩, fun _ _ _ _ _ _ _ _ _ => ⟨_, _, _, _, _, _, rfl, rfl, rfl⟩, fun _ _ _ _ _ _ _ _ _ => ⟨_, _, _, _, _, _, rfl, rfl, ⟨_, _, _, _, _, _, rfl, rfl, rfl⟩⟩⟩
theorem mk_Plan_ab (T : Top K w mg a_Plan a_Plan_known a_Plan_cells) : Fb.MakK P w K mg base 1 "Plan" a_Plan (spA K [.s, .s, .s] .s (vpInit a_Plan)) ["known", "cells"] id := by
  obtain ⟨f, fd, F, M⟩ := T.h_Plan___init__
  obtain ⟨gU, b⟩ := Fb.kb_ab F kw_Plan
  exact ⟨f, fd, _, gU, M, fn_Plan___init__ T (Fb.fun_ofK F), T.m_Plan, b⟩
theorem mk_Plan_ba (T : Top K w mg a_Plan a_Plan_known a_Plan_cells) : Fb.MakK P w K mg base 1 "Plan" a_Plan (spA K [.s, .s, .s] .s (vpInit a_Plan)) ["cells", "known"] List.reverse := by
  obtain ⟨f, fd, F, M⟩ := T.h_Plan___init__
  obtain ⟨gU, b⟩ := Fb.kb_ba F kw_Plan
  exact ⟨f, fd, _, gU, M, fn_Plan___init__ T (Fb.fun_ofK F), T.m_Plan, b⟩
theorem mk_Plan_a (T : Top K w mg a_Plan a_Plan_known a_Plan_cells) : Fb.MakK P w K mg base 1 "Plan" a_Plan (spA K [.s, .s, .s] .s (vpInit a_Plan)) ["known"] (fun zs => zs ++ [V.ref a_Plan_cells]) := by
  obtain ⟨f, fd, F, M⟩ := T.h_Plan___init__
  obtain ⟨gU, b⟩ := Fb.kb_a F kw_Plan
  exact ⟨f, fd, _, gU, M, fn_Plan___init__ T (Fb.fun_ofK F), T.m_Plan, b⟩
theorem mk_Plan_b (T : Top K w mg a_Plan a_Plan_known a_Plan_cells) : Fb.MakK P w K mg base 1 "Plan" a_Plan (spA K [.s, .s, .s] .s (vpInit a_Plan)) ["cells"] (fun zs => V.ref a_Plan_known :: zs) := by
  obtain ⟨f, fd, F, M⟩ := T.h_Plan___init__
  obtain ⟨gU, b⟩ := Fb.kb_b F kw_Plan
  exact ⟨f, fd, _, gU, M, fn_Plan___init__ T (Fb.fun_ofK F), T.m_Plan, b⟩
theorem mk_Plan_o (T : Top K w mg a_Plan a_Plan_known a_Plan_cells) : Fb.MakK P w K mg base 1 "Plan" a_Plan (spA K [.s, .s, .s] .s (vpInit a_Plan)) [] (fun zs => zs ++ [V.ref a_Plan_known, V.ref a_Plan_cells]) := by
  obtain ⟨f, fd, F, M⟩ := T.h_Plan___init__
  obtain ⟨gU, b⟩ := Fb.kb_o F kw_Plan
  exact ⟨f, fd, _, gU, M, fn_Plan___init__ T (Fb.fun_ofK F), T.m_Plan, b⟩
end
end K38
set_option Elab.async false
set_option linter.all false
set_option maxRecDepth 100000
set_option maxHeartbeats 4000000
namespace K38
open PySem PySem.Spec PyProof.Rows L2 L2H HotX Fb VL
local macro_rules | `(tactic| walk_at "vs") => `(tactic| simp only [vLenO, vReprO, vEqO, vNeO, vIsiX, vFs, vJs, vKw, s_gDIn, vGetK, vGetK2, vAppK, vAppK2, vNPutK, vpConsK, vUpdF, vEmp, vDictC, vZipA, vLcD, vLet, vReprC, vClearC, vAppD, vExtD, vModD, pApp, pExt, vClear, vNPut, vNGet, vExtC, vListRg, vDPutC, vPar3, vParO, vDNew, vUpd, vDPut, vOwn, vLcB, vDictP, vLcK, gSortS, gSortD, s_gRepL, s_gRep01, vRevL, vRevT, vCell, vDr, vFld, vAppC, vPopC, vSetF, vCallA, vCallAX, vCallX, vMakeA, vMethA, vRaise, vTry, vXf, vChain, vTru, s_truN, s_truB, s_truI, s_truS, s_truL, s_truT, vIsi, vIsiT, vStar, vListZip, vEnum, vZipSL, vPop, vExt, vSetIx, vSetIxC, vRep, s_vgLst, vKGet, s_gMulS, s_gBoolL, s_gStrS, s_gIntS, s_gStrA1, s_gStrA2, s_seqL, s_seqT, cuD_1, ioA, setC, newC, noC, putA, ex_cell, Option.join_some, List.drop_succ_cons, List.drop_zero, s_gInK, s_gInS, s_gIn2, s_gIn3, s_gIn4, s_gIn5, ex_par, vNeg, s_gAny, vCaTd, vOp2Lv, s_callIO, s_io, s_fill0, s_fillN, s_fillS, s_putIO, s_wio0, s_wioN, s_wioS, s_give0, s_giveN, s_giveS, s_giveM, Option.map_some, s_seq, s_next, s_break, s_cont, s_set, s_ret, s_retN, s_drop, s_ifS, s_for, s_asg, s_par, s_var, s_c, s_op2, s_op2L, s_op2T, s_ca, s_caL, s_caT, s_nil, s_cons, s_tup, s_lst, s_test, s_and, s_or, s_not, s_if, s_andV, s_orV, s_notV, s_no, s_part, s_sl, s_slL, s_slT, s_ls, s_ts, s_sgs, s_rng1, s_rng2, s_gName, s_gNil, s_gCons, s_gTup, s_lc, s_yes, s_append, s_call, s_dget, s_get2, s_pNil, s_pCons, s_disp, s_m1, s_split, s_indexD, s_w1, s_w2, s_isStr, s_gI, s_gI0, s_gAddS, s_gS, s_gSg, s_gEqI, s_gEqS, s_gEqB, s_gEqNI, s_gEqIS, s_gEqSI, s_gNeI, s_gNeS, s_gIsN, s_gNotN, s_isNon0, s_isNonI, s_isNonS, s_isNonT, s_isNonL, s_gIxL, s_gIxT, s_gIxS, s_gCat, s_gCatT, s_gSlL, s_gSlT, s_gSlS, s_gLenL, s_gLenT, s_gLenS, s_gSum, s_gI2, s_gInt1, s_gInt1b, s_gStrI, s_gAll, s_gSeqL, s_gSeqT, s_gDGet, s_gGet2, s_kDs, s_kDi, s_ioN, s_ioS, s_ioL, s_ioD, s_ioO, s_nones0, s_nones1, List.map_cons, List.map_nil, List.cons_append, List.nil_append, List.append_nil, List.append_assoc, List.getElem?_cons_zero, List.getElem?_cons_succ, List.set_cons_zero, List.set_cons_succ, Option.some.injEq, exists_eq_left', exists_eq_left, D.int.injEq, D.str.injEq, D.tup.injEq, D.lst.injEq, D.bl.injEq, D.dct.injEq, and_true, true_and, List.length_cons, List.length_nil, exists_and_left, exists_eq, Bool.not_true, Bool.not_false, exists_eq', Nat.zero_le, atI_0, atI_1, atI_2, atI_3, atI_4, atI_5, s_gInD, if_true, if_false, Bool.false_eq_true, Nat.reduceAdd])
local macro_rules | `(tactic| walk_at "v1") => `(tactic| simp only [vLenO, vReprO, vEqO, vNeO, vIsiX, vFs, vJs, vKw, s_gDIn, vGetK, vGetK2, vAppK, vAppK2, vNPutK, vpConsK, vUpdF, vEmp, vDictC, vZipA, vLcD, vLet, vReprC, vClearC, vAppD, vExtD, vModD, pApp, pExt, vClear, vNPut, vNGet, vExtC, vListRg, vDPutC, vPar3, vParO, vDNew, vUpd, vDPut, vOwn, vLcB, vDictP, vLcK, gSortS, gSortD, s_gRepL, s_gRep01, vRevL, vRevT, vCell, vDr, vFld, vAppC, vPopC, vSetF, vCallA, vCallAX, vCallX, vMakeA, vMethA, vRaise, vTry, vXf, vChain, vTru, s_truN, s_truB, s_truI, s_truS, s_truL, s_truT, vIsi, vIsiT, vStar, vListZip, vEnum, vZipSL, vPop, vExt, vSetIx, vSetIxC, vRep, s_vgLst, vKGet, s_gMulS, s_gBoolL, s_gStrS, s_gIntS, s_gStrA1, s_gStrA2, s_seqL, s_seqT, cuD_1, ioA, setC, newC, noC, putA, ex_cell, Option.join_some, List.drop_succ_cons, List.drop_zero, s_gInK, s_gInS, s_gIn2, s_gIn3, s_gIn4, s_gIn5, ex_par, vNeg, s_gAny, vCaTd, vOp2Lv, s_callIO, s_io, s_fill0, s_fillN, s_fillS, s_putIO, s_wio0, s_wioN, s_wioS, s_give0, s_giveN, s_giveS, s_giveM, Option.map_some, s_seq, s_next, s_break, s_cont, s_set, s_ret, s_retN, s_drop, s_for, s_asg, s_par, s_var, s_c, s_op2, s_op2L, s_op2T, s_ca, s_caL, s_caT, s_nil, s_cons, s_tup, s_lst, s_test, s_and, s_or, s_not, s_if, s_andV, s_orV, s_notV, s_no, s_part, s_sl, s_slL, s_slT, s_ls, s_ts, s_sgs, s_rng1, s_rng2, s_gName, s_gNil, s_gCons, s_gTup, s_lc, s_yes, s_append, s_call, s_dget, s_get2, s_pNil, s_pCons, s_disp, s_m1, s_split, s_indexD, s_w1, s_w2, s_isStr, s_gI, s_gI0, s_gAddS, s_gS, s_gSg, s_gEqI, s_gEqS, s_gEqB, s_gEqNI, s_gEqIS, s_gEqSI, s_gNeI, s_gNeS, s_gIsN, s_gNotN, s_isNon0, s_isNonI, s_isNonS, s_isNonT, s_isNonL, s_gIxL, s_gIxT, s_gIxS, s_gCat, s_gCatT, s_gSlL, s_gSlT, s_gSlS, s_gLenL, s_gLenT, s_gLenS, s_gSum, s_gI2, s_gInt1, s_gInt1b, s_gStrI, s_gAll, s_gSeqL, s_gSeqT, s_gDGet, s_gGet2, s_kDs, s_kDi, s_ioN, s_ioS, s_ioL, s_ioD, s_ioO, s_nones0, s_nones1, List.map_cons, List.map_nil, List.cons_append, List.nil_append, List.append_nil, List.append_assoc, List.getElem?_cons_zero, List.getElem?_cons_succ, List.set_cons_zero, List.set_cons_succ, Option.some.injEq, exists_eq_left', exists_eq_left, D.int.injEq, D.str.injEq, D.tup.injEq, D.lst.injEq, D.bl.injEq, D.dct.injEq, and_true, true_and, List.length_cons, List.length_nil, exists_and_left, exists_eq, Bool.not_true, Bool.not_false, exists_eq', Nat.zero_le, atI_0, atI_1, atI_2, atI_3, atI_4, atI_5, s_gInD, if_true, if_false, Bool.false_eq_true, Nat.reduceAdd])
section
variable {P : Program} {w : World} {K : PySem.W.Frag} {mg : Str → Option Value} {base : Heap} {a_Plan a_Plan_known a_Plan_cells : Addr}
open Gn
def DealV (d : D) : Prop := ∃ s n ns, d = dealV s n ns ∧ dealOk s n ns
theorem draw_use {dl : D} {k : Int} {Q : D → VL.Env → Prop} {E : QX} (h : DealV dl) (h0 : 0 < k) (h1 : k < 4611686018427387904) (q : ∀ r dl', 0 ≤ r → r < k → DealV dl' → Q (.int r) [some dl', none]) : vpDraw [dl, .int k] Q E := by
  obtain ⟨s, n, ns, rfl, ok⟩ := h
  exact ⟨s, n, ns, k, rfl, ok, h0, h1, fun r s' n' ns' a b c => q r _ a b ⟨s', n', ns', rfl, c⟩⟩
theorem rng_len {n : Nat} {lo : Int} : (rngD lo n).length = n := by simp [rngD]
def vpRow : VSp := fun ds Q _ => ∃ dl, ds = [dl] ∧ DealV dl ∧ ∀ dl' l, DealV dl' → OkI l → Q (tI l) [some dl']
def vpWritten : VSp := fun ds Q _ => ∃ l, ds = [tI l] ∧ OkI l ∧ Q (.str (shI l)) [none]
def vpRight (C : Addr) : VSp := fun ds Q _ => ∃ a s k al l, ∃ ks cs : List Int, ds = [.ref a, s, k, .mem al l] ∧ s = tI ks ∧ k = tI cs ∧ cellAt al l a = some (.obj C fPl [tI ks, tI cs]) ∧ OkI ks ∧ OkI cs ∧ Q (.bl true) [none, none, none, some (.mem al l)]
theorem nodup_len {ys ns : List Int} (h : ys.Nodup) (s : ∀ k ∈ ys, k ∈ ns) : ys.length ≤ ns.length := by
  induction ys generalizing ns with
  | nil => exact Nat.zero_le _
  | cons a r ih =>
    have ha := s a List.mem_cons_self
    obtain ⟨x, y, rfl⟩ := List.append_of_mem ha
    have hn := List.nodup_cons.mp h
    have := ih (ns := x ++ y) hn.2 (fun k hk => by
      have := s k (List.mem_cons_of_mem _ hk)
      simp only [List.mem_append, List.mem_cons] at this ⊢
      rcases this with q | q | q
      · exact .inl q
      · subst q; exact absurd hk hn.1
      · exact .inr q)
    simp only [List.length_append, List.length_cons] at this ⊢
    omega
theorem sum_le : ∀ ts : List Str, (∀ t ∈ ts, t.length ≤ 18) → (ts.map (·.length)).sum ≤ 18 * ts.length
  | [], _ => by simp
  | x :: r, h => by
    have h1 := h x List.mem_cons_self
    have ih := sum_le r fun t ht => h t (List.mem_cons_of_mem _ ht)
    rw [List.map_cons, List.sum_cons, List.length_cons]
    omega
theorem sc__law_row : FnScope ["_law_deal_here", "_law_some", "_law_k"] ["_law_deal_here"] (defScope s__law_row) := ⟨rfl, rfl, rfl, by decide +kernel, rfl, by decide +kernel, by decide +kernel⟩
theorem ok__law_row (T : Top K w mg a_Plan a_Plan_known a_Plan_cells) : C8.Cal P w K mg base 2 "_law_row" (spOf K [dealSh] (.s) (vpRow)) [] := by
  have C_law_draw := ok__law_draw (P := P) (w := w) (base := base) T
  obtain ⟨f, fd, F, gm⟩ := T.h__law_row
  refine ⟨f, fd, ["_law_deal_here"], [], ?_, gm, F.kp, F.binds (fun _ _ _ _ _ _ us hl => match us, hl with | [_], _ => rfl), .nil⟩
  refine F.ok sc__law_row (fun vs H Q E h => h.len) (fun cdv A outer s H vs Q E hr h => ?_)
  have hu := hu_of hr
  have hu64 : (A.deeper (envOfC "_law_row" (defScope s__law_row) s.heap.objs.size f cdv)).units + 64 < cLine := by have := hr.un; omega
  have hu65 : (A.deeper (envOfC "_law_row" (defScope s__law_row) s.heap.objs.size f cdv)).units + 65 < cLine := by have := hr.un; omega
  refine ⟨_, (pss_cons (ps_setLc (i := 1) (own := [("_law_k", 2)]) rfl sc__law_row.nd rfl rfl (sw_true rfl rfl rfl (by decide +kernel)) (pi_range1 rfl T.n_range (pa_cons (C8.pe_c C_law_draw hr (by omega) rfl (pa_cons (pv 0) (pa_cons pe_int pa_nil))) pa_nil)) (blkOk_by (own := [("_law_k", 2)]) (N := ["_law_deal_here", "_law_some", "_law_k"]) (sc := defScope s__law_row) (by decide +kernel)) (fun _ _ _ _ _ => (pg_name (i := 2) sc__law_row.nd rfl (Or.inl rfl))) (fun _ _ _ _ _ => pts_nil) (fun _ _ _ _ _ => (C8.pe_c C_law_draw hr (by omega) rfl (pa_cons (pv 0) (pa_cons (pe_ix (VL.ixL K rfl) (pe_lst (pa_cons pe_int (pa_cons pe_int (pa_cons (pe_op op_pow pe_int pe_int) pa_nil)))) (C8.pe_c C_law_draw hr (by omega) rfl (pa_cons (pv 0) (pa_cons pe_int pa_nil))) (fun _ _ => rfl)) pa_nil)))))
  (pss_one (ps_ret (pe_callTy (VL.tupleK K rfl) (by rfl) T.n_tuple (by decide +kernel) (pa_cons (pe_callB (VL.sortHIK P w rfl rfl rfl) (by rfl) T.n_sorted (by decide +kernel) (pa_cons (pe_callTy (VL.setIK K P w rfl rfl rfl rfl) (by rfl) T.n_set (by decide +kernel) (pa_cons (pv 1) pa_nil)) pa_nil)) pa_nil))))), fn_run0 (pM := [dealSh]) (M2 := [.s, .s]) rfl (fun H0 io av rt hrt => (vs_seq (vs_set (i := 1) (VE.s (v_lc (vs := [2]) (vi_rng1 (va_cons (v_callIO (vax_io (i := 0) rfl (vax_cons (VQ.e q_int) vax_nil)) ⟨rfl, rfl, (by decide), rfl, trivial⟩) va_nil)) (vg_name (i := 2) rfl (hrt 2 (by decide))) vt_yes (v_callIO (vax_io (i := 0) rfl (vax_cons (v_op (VE.s (v_lst (va_cons (VQ.e q_int) (va_cons (VQ.e q_int) (va_cons (VQ.e (q_op (VQ.b q_int) (VQ.b q_int) od_i)) va_nil))))) (v_callIO (vax_io (i := 0) rfl (vax_cons (VQ.e q_int) vax_nil)) ⟨rfl, rfl, (by decide), rfl, trivial⟩) od_ixL) vax_nil)) ⟨rfl, rfl, (by decide), rfl, trivial⟩) (by decide) (fun i hi => hrt i (by revert i; decide)))) rfl (hrt 1 (by decide)))
  (vs_ret (v_caT (va_cons (VE.s (v_sortSetI (va_cons (VQ.e (q_var (i := 1) rfl)) va_nil))) va_nil) ct_tuple)))) (fun ds Qv Qx hl hs => ?_) h⟩
  obtain ⟨dl, rfl, hd, q⟩ := hs
  walk_at "vs"
  refine draw_use hd (by decide) (by decide) fun r1 dl1 a1 b1 hd1 => ?_
  refine ⟨r1, rfl, by omega, by omega, ?_⟩
  have hsl : sizeLine = 16777216 := rfl
  refine lc_inv (fun acc e => ∃ dl' ns, DealV dl' ∧ acc = ns.map D.int ∧ (∀ x ∈ ns, 0 ≤ x ∧ x < 1000000000000000000) ∧ e = [some dl', none, none]) _ _ _ (by rw [rng_len]; simp only [List.length_nil]; omega) ⟨dl1, [], hd1, rfl, fun _ z => (List.not_mem_nil z).elim, rfl⟩ ?_ ?_
  · rintro d hdm acc e ⟨dl2, ns, hd2, rfl, hn, rfl⟩ A B hA
    walk_at "vs"
    refine ⟨by unfold CPow; decide, by decide, draw_use hd2 (by decide) (by decide) fun r2 dl3 a2 b2 hd3 => ?_⟩
    have hx : ∃ m : Int, atI [D.int 4, D.int 12, D.int (10 ^ Int.toNat 18)] r2 = some (.int m) ∧ 0 < m ∧ m ≤ 1000000000000000000 := by
      have : r2 = 0 ∨ r2 = 1 ∨ r2 = 2 := by omega
      rcases this with rfl | rfl | rfl
      · exact ⟨4, rfl, by decide, by decide⟩
      · exact ⟨12, rfl, by decide, by decide⟩
      · exact ⟨10 ^ Int.toNat 18, rfl, by decide, by decide⟩
    obtain ⟨m, hm, m0, m1⟩ := hx
    walk_at "vs"
    refine ⟨_, hm, ?_⟩
    refine draw_use hd3 m0 (by omega) fun r4 dl4 a4 b4 hd4 => ?_
    walk_at "vs"
    refine hA _ _ ⟨dl4, ns ++ [r4], hd4, by rw [List.map_append]; rfl, fun x hx => ?_, rfl⟩
    rcases List.mem_append.mp hx with hx | hx
    · exact hn x hx
    · rw [List.mem_singleton.mp hx]; omega
  · rintro acc e hl ⟨dl2, ns, hd2, rfl, hn, rfl⟩
    rw [rng_len] at hl
    simp only [List.length_map, List.length_nil] at hl
    have hns : ns.length ≤ 5 := by omega
    unfold vSortSetI
    walk_at "vs"
    refine ⟨ns, rfl, ⟨ns, by omega, fun _ z => z⟩, fun ys hy nd hp => ?_⟩
    exact q _ ys hd2 ⟨Nat.le_trans (nodup_len nd fun k hk => (hy k).mp hk) hns, fun x hx => hn x ((hy x).mp hx)⟩
theorem sc__law_written : FnScope ["_law_some", "_law_one"] ["_law_some"] (defScope s__law_written) := ⟨rfl, rfl, rfl, by decide +kernel, rfl, by decide +kernel, by decide +kernel⟩
theorem ok__law_written (T : Top K w mg a_Plan a_Plan_known a_Plan_cells) : C8.Cal P w K mg base 1 "_law_written" (spOf K [.s] (.s) (vpWritten)) [] := by
  obtain ⟨f, fd, F, gm⟩ := T.h__law_written
  refine ⟨f, fd, ["_law_some"], [], ?_, gm, F.kp, F.binds (fun _ _ _ _ _ _ us hl => match us, hl with | [_], _ => rfl), .nil⟩
  refine F.ok sc__law_written (fun vs H Q E h => h.len) (fun cdv A outer s H vs Q E hr h => ?_)
  have hu := hu_of hr
  have hu64 : (A.deeper (envOfC "_law_written" (defScope s__law_written) s.heap.objs.size f cdv)).units + 64 < cLine := by have := hr.un; omega
  have hu65 : (A.deeper (envOfC "_law_written" (defScope s__law_written) s.heap.objs.size f cdv)).units + 65 < cLine := by have := hr.un; omega
  refine ⟨_, (pss_cons (ps_if (pt_cmpR op_eq (pe_callB (VL.lenK K rfl) (by rfl) T.n_len (by decide +kernel) (pa_cons (pv 0) pa_nil)) pe_int (nomark _))
    (pss_one (ps_ret (pe_op op_add_str (pe_op op_add_str pe_str (pe_callTy VL.call_strA (by rfl) T.n_str (by decide +kernel) (pa_cons (pe_ix (VL.ixT K rfl) (pv 0) pe_int (fun _ _ => rfl)) pa_nil))) pe_str)))
    pss_nil)
  (pss_one (ps_ret (pe_op op_add_str (pe_op op_add_str pe_str (pe_join pe_str (pe_lc (own := [("_law_one", 1)]) rfl sc__law_written.nd (VL.piTK K rfl (pv 0)) (blkOk_by (own := [("_law_one", 1)]) (N := ["_law_some", "_law_one"]) (sc := defScope s__law_written) (by decide +kernel)) (fun _ _ _ _ _ => (pg_name (i := 1) sc__law_written.nd rfl (Or.inl rfl))) (fun _ _ _ _ _ => pts_nil) (fun _ _ _ _ _ => (pe_callTy call_str_int (by rfl) T.n_str (by decide +kernel) (pa_cons (pv 1) pa_nil)))))) pe_str)))), fn_run0 (pM := [.s]) (M2 := [.s]) rfl (fun H0 io av rt hrt => (vs_seq (vs_if (vt_test (VQ.e (q_op (VQ.b (q_ca (vba_cons (VQ.b (q_var (i := 0) rfl)) vba_nil) cd_len)) (VQ.b q_int) od_eq)))
    (vs_ret (VQ.e (q_op (VQ.b (q_op (VQ.b q_str) (VQ.b (q_ca (vba_cons (VQ.b (q_op (VQ.b (q_var (i := 0) rfl)) (VQ.b q_int) od_ixT)) vba_nil) cd_strA)) od_addS)) (VQ.b q_str) od_addS)))
    vs_next)
  (vs_ret (v_op (v_op (VQ.e q_str) (v_join (VQ.e q_str) (VE.s (v_lc (vs := [1]) (vi_tup (VQ.e (q_var (i := 0) rfl))) (vg_name (i := 1) rfl (hrt 1 (by decide))) vt_yes (VQ.e (q_ca (vba_cons (VQ.b (q_var (i := 1) rfl)) vba_nil) cd_strI)) (by decide) (fun i hi => hrt i (by revert i; decide))))) od_addS) (VQ.e q_str) od_addS)))) (fun ds Qv Qx hl hs => ?_) h⟩
  obtain ⟨l, rfl, hl, q⟩ := hs
  walk_at "vs"
  unfold tI
  rw [s_gLenT, List.length_map]
  rw [shI_eq] at q
  walk_at "vs"
  refine ite2 (fun e => ?_) (fun e => ?_)
  · have hl1 : l.length = 1 := by have := of_decide_eq_true e; omega
    match l, hl1 with
    | [x], _ =>
      refine ⟨_, rfl, ?_⟩
      walk_at "vs"
      refine ⟨log_ok (hl.b x List.mem_cons_self), ?_⟩
      have h1 := len_int (hl.b x List.mem_cons_self)
      have e1 : (Str.ofString "(").length = 1 := by decide +kernel
      have e2 : (Str.ofString ",)").length = 2 := by decide +kernel
      have hsl : sizeLine = 16777216 := rfl
      refine ⟨by omega, ?_⟩
      refine ⟨by rw [len_app]; omega, ?_⟩
      exact q
  · have hl1 : ¬ l.length = 1 := fun z => e (decide_eq_true (by omega))
    have hsl : sizeLine = 16777216 := rfl
    have hl5 := hl.n
    refine lc_pre D.int l (fun pre acc e => acc = pre.map (fun x => D.str (Str.ofString (toString x))) ∧ e = [some (D.tup (List.map D.int l)), none]) (by omega) ?_ ⟨rfl, rfl⟩ ?_
    · rintro pre a post hp acc e _ ⟨rfl, rfl⟩ A B hA hB
      walk_at "vs"
      have ha : a ∈ l := by rw [hp]; simp
      refine ⟨log_ok (hl.b a ha), hA _ _ ⟨?_, rfl⟩⟩
      rw [List.map_append]
      rfl
    · rintro acc e _ ⟨rfl, rfl⟩
      have hj := join_le (l.map fun x => Str.ofString (toString x)) (by
        intro t ht
        obtain ⟨x, hx, rfl⟩ := List.mem_map.mp ht
        exact len_int (hl.b x hx))
      rw [List.length_map] at hj
      have e1 : (Str.ofString "(").length = 1 := by decide +kernel
      have e2 : (Str.ofString ")").length = 1 := by decide +kernel
      have ej : Txt.join (Str.ofString ", ") (l.map fun x => Str.ofString (toString x)) = Str.join (Str.ofString ", ") (l.map fun x => Str.ofString (toString x)) := TL.join_eq _ _
      refine ⟨l.map fun x => Str.ofString (toString x), by rw [List.map_map]; rfl, ?_, ?_⟩
      · have e3 : (Str.ofString ", ").length = 2 := by decide +kernel
        have hs := sum_le (l.map fun x => Str.ofString (toString x)) (by
          intro t ht
          obtain ⟨x, hx, rfl⟩ := List.mem_map.mp ht
          exact len_int (hl.b x hx))
        rw [List.length_map] at hs ⊢
        rw [e3]
        omega
      · walk_at "vs"
        rw [ej]
        refine ⟨by omega, by rw [len_app]; omega, ?_⟩
        unfold tupleText at q
        rw [List.length_map, if_neg (by simpa using hl1)] at q
        exact q
theorem gl_tI {l : List Int} {Q : D → Prop} (q : Q (.int l.length)) : gLen [tI l] Q := by
  unfold tI
  rw [s_gLenT, List.length_map]
  exact q
theorem sc__law_plan_right : FnScope ["_law_plan", "_law_sure", "_law_kept"] ["_law_plan", "_law_sure", "_law_kept"] (defScope s__law_plan_right) := ⟨rfl, rfl, rfl, by decide +kernel, rfl, by decide +kernel, by decide +kernel⟩
theorem ok__law_plan_right (T : Top K w mg a_Plan a_Plan_known a_Plan_cells) : Fb.CalG P w K mg base 3 "_law_plan_right" (spA K [.s, .s, .s] (.s) (vpRight a_Plan)) := by
  have X_Plan___repr__ := ok_Plan___repr__ (P := P) (w := w) (base := base) T
  have X_Plan___len__ := ok_Plan___len__ (P := P) (w := w) (base := base) T
  have C_law_written := ok__law_written (P := P) (w := w) (base := base) T
  obtain ⟨f, fd, F, gm⟩ := T.h__law_plan_right
  refine ⟨f, fd, ["_law_plan", "_law_sure", "_law_kept"], ?_, gm, F.kp, F.binds (fun _ _ _ _ _ _ us hl => match us, hl with | [_, _, _], _ => rfl)⟩
  refine ok_G F sc__law_plan_right (fun vs H Q E h => h.len) (fun cdv A outer s H vs Q E gd hr h => ?_)
  have hu := hu_of hr
  have hu64 : (A.deeper (envOfC "_law_plan_right" (defScope s__law_plan_right) s.heap.objs.size f cdv)).units + 64 < cLine := by have := hr.un; omega
  have hu65 : (A.deeper (envOfC "_law_plan_right" (defScope s__law_plan_right) s.heap.objs.size f cdv)).units + 65 < cLine := by have := hr.un; omega
  refine ⟨_, (pss_cons (ps_if (PW.pt (pw_or (pt_cmpR (VL.neDK K rfl hu64) (VL.fldK K rfl (pv 0) rfl) (pv 1) (nomark _)) (pw_or (pt_cmpR (VL.neDK K rfl hu64) (VL.fldK K rfl (pv 0) rfl) (pv 2) (nomark _)) (pw_or1 (pt_cmpR op_ne (pe_callB (VL.lenOK X_Plan___len__ hr (by omega)) (by rfl) T.n_len (by decide +kernel) (pa_cons (pv 0) pa_nil)) (pe_callB (VL.lenK K rfl) (by rfl) T.n_len (by decide +kernel) (pa_cons (pv 2) pa_nil)) (nomark _))))))
    (pss_one (ps_ret pe_bl))
    pss_nil)
  (pss_one (ps_ret (pe_cmpR op_eq (pe_callB (VL.reprOK X_Plan___repr__ gd hr (by omega)) (by rfl) T.n_repr (by decide +kernel) (pa_cons (pv 0) pa_nil)) (pe_op op_add_str (pe_op op_add_str (pe_op op_add_str (pe_op op_add_str pe_str (C8.pe_c C_law_written hr (by omega) rfl (pa_cons (pv 1) pa_nil))) pe_str) (C8.pe_c C_law_written hr (by omega) rfl (pa_cons (pv 2) pa_nil))) pe_str) (nomark _))))), fn_runA0 (pM := [.s, .s, .s]) (M2 := []) rfl (fun H0 io av rt hrt => (vs_seq (vs_if (vt_or (vt_test (VQ.e (q_op (VQ.b (q_fld T.cl_Plan T.n_Plan_known (n_cell 3 rfl (q_var (i := 0) rfl)))) (VQ.b (q_var (i := 1) rfl)) od_neD))) (vt_or (vt_test (VQ.e (q_op (VQ.b (q_fld T.cl_Plan T.n_Plan_cells (n_cell 3 rfl (q_var (i := 0) rfl)))) (VQ.b (q_var (i := 2) rfl)) od_neD))) (vt_test (v_op (n_lenO 3 rfl (q_var (i := 0) rfl)) (VQ.e (q_ca (vba_cons (VQ.b (q_var (i := 2) rfl)) vba_nil) cd_len)) od_ne))))
    (vs_ret (VQ.e q_bl))
    vs_next)
  (vs_ret (v_op (n_reprO 3 rfl (q_var (i := 0) rfl)) (v_op (v_op (v_op (v_op (VQ.e q_str) (v_call (va_cons (VQ.e (q_var (i := 1) rfl)) va_nil) (by simp)) od_addS) (VQ.e q_str) od_addS) (v_call (va_cons (VQ.e (q_var (i := 2) rfl)) va_nil) (by simp)) od_addS) (VQ.e q_str) od_addS) od_eq)))) (fun ds al ml Qv Qx hl hs => ?_) h⟩
  obtain ⟨a, s0, k0, al', l', ks, cs, hd, rfl, rfl, ha, h1, h2, q⟩ := hs
  obtain ⟨rfl, rfl, rfl⟩ := apn (es := [_, _, _]) hd
  walk_at "vs"
  simp only [ex_mem, ex_mem0, ex_ref, true_and]
  refine ⟨_, ha, _, _, rfl, _, g_kn, gn_tI ⟨_, rfl, ?_⟩⟩
  rw [decide_eq_true rfl, if_neg (by decide)]
  refine ⟨_, ha, _, _, rfl, _, g_ce, gn_tI ⟨_, rfl, ?_⟩⟩
  rw [decide_eq_true rfl, if_neg (by decide)]
  refine ⟨_, _, ha, a, _, _, _, cs, rfl, ha, _, rfl, by omega, by have := h2.n; omega, ?_⟩
  walk_at "vs"
  refine gl_tI ?_
  walk_at "vs"
  simp only [ex_mem, ex_mem0, ex_ref, true_and]
  rw [if_neg (by simp)]
  refine ⟨_, _, ha, a, _, _, ks, cs, rfl, ha, h1, h2, _, rfl, ?_⟩
  walk_at "vs"
  have z1 : (Str.ofString "Plan(known=").length = 11 := by decide +kernel
  have z2 : (Str.ofString ", cells=").length = 8 := by decide +kernel
  have z3 : (Str.ofString ")").length = 1 := by decide +kernel
  have l1 := shI_len h1
  have l2 := shI_len h2
  have hsl : sizeLine = 16777216 := rfl
  refine ⟨ks, rfl, h1, by omega, by rw [len_app]; omega, ?_⟩
  walk_at "vs"
  refine ⟨cs, rfl, h2, by simp only [len_app]; omega, by simp only [len_app]; omega, ?_⟩
  unfold shP
  walk_at "vs"
  simp only [decide_true]
  exact q
end
end K38
set_option Elab.async false
set_option linter.all false
set_option maxRecDepth 100000
set_option maxHeartbeats 4000000
namespace K38
open PySem PySem.Spec PyProof.Rows L2 L2H HotX Fb VL
local macro_rules | `(tactic| walk_at "vs") => `(tactic| simp only [vLenO, vReprO, vEqO, vNeO, vIsiX, vFs, vJs, vKw, s_gDIn, vGetK, vGetK2, vAppK, vAppK2, vNPutK, vpConsK, vUpdF, vEmp, vDictC, vZipA, vLcD, vLet, vReprC, vClearC, vAppD, vExtD, vModD, pApp, pExt, vClear, vNPut, vNGet, vExtC, vListRg, vDPutC, vPar3, vParO, vDNew, vUpd, vDPut, vOwn, vLcB, vDictP, vLcK, gSortS, gSortD, s_gRepL, s_gRep01, vRevL, vRevT, vCell, vDr, vFld, vAppC, vPopC, vSetF, vCallA, vCallAX, vCallX, vMakeA, vMethA, vRaise, vTry, vXf, vChain, vTru, s_truN, s_truB, s_truI, s_truS, s_truL, s_truT, vIsi, vIsiT, vStar, vListZip, vEnum, vZipSL, vPop, vExt, vSetIx, vSetIxC, vRep, s_vgLst, vKGet, s_gMulS, s_gBoolL, s_gStrS, s_gIntS, s_gStrA1, s_gStrA2, s_seqL, s_seqT, cuD_1, ioA, setC, newC, noC, putA, ex_cell, Option.join_some, List.drop_succ_cons, List.drop_zero, s_gInK, s_gInS, s_gIn2, s_gIn3, s_gIn4, s_gIn5, ex_par, vNeg, s_gAny, vCaTd, vOp2Lv, s_callIO, s_io, s_fill0, s_fillN, s_fillS, s_putIO, s_wio0, s_wioN, s_wioS, s_give0, s_giveN, s_giveS, s_giveM, Option.map_some, s_seq, s_next, s_break, s_cont, s_set, s_ret, s_retN, s_drop, s_ifS, s_for, s_asg, s_par, s_var, s_c, s_op2, s_op2L, s_op2T, s_ca, s_caL, s_caT, s_nil, s_cons, s_tup, s_lst, s_test, s_and, s_or, s_not, s_if, s_andV, s_orV, s_notV, s_no, s_part, s_sl, s_slL, s_slT, s_ls, s_ts, s_sgs, s_rng1, s_rng2, s_gName, s_gNil, s_gCons, s_gTup, s_lc, s_yes, s_append, s_call, s_dget, s_get2, s_pNil, s_pCons, s_disp, s_m1, s_split, s_indexD, s_w1, s_w2, s_isStr, s_gI, s_gI0, s_gAddS, s_gS, s_gSg, s_gEqI, s_gEqS, s_gEqB, s_gEqNI, s_gEqIS, s_gEqSI, s_gNeI, s_gNeS, s_gIsN, s_gNotN, s_isNon0, s_isNonI, s_isNonS, s_isNonT, s_isNonL, s_gIxL, s_gIxT, s_gIxS, s_gCat, s_gCatT, s_gSlL, s_gSlT, s_gSlS, s_gLenL, s_gLenT, s_gLenS, s_gSum, s_gI2, s_gInt1, s_gInt1b, s_gStrI, s_gAll, s_gSeqL, s_gSeqT, s_gDGet, s_gGet2, s_kDs, s_kDi, s_ioN, s_ioS, s_ioL, s_ioD, s_ioO, s_nones0, s_nones1, List.map_cons, List.map_nil, List.cons_append, List.nil_append, List.append_nil, List.append_assoc, List.getElem?_cons_zero, List.getElem?_cons_succ, List.set_cons_zero, List.set_cons_succ, Option.some.injEq, exists_eq_left', exists_eq_left, D.int.injEq, D.str.injEq, D.tup.injEq, D.lst.injEq, D.bl.injEq, D.dct.injEq, and_true, true_and, List.length_cons, List.length_nil, exists_and_left, exists_eq, Bool.not_true, Bool.not_false, exists_eq', Nat.zero_le, atI_0, atI_1, atI_2, atI_3, atI_4, atI_5, s_gInD, if_true, if_false, Bool.false_eq_true, Nat.reduceAdd])
local macro_rules | `(tactic| walk_at "v1") => `(tactic| simp only [vLenO, vReprO, vEqO, vNeO, vIsiX, vFs, vJs, vKw, s_gDIn, vGetK, vGetK2, vAppK, vAppK2, vNPutK, vpConsK, vUpdF, vEmp, vDictC, vZipA, vLcD, vLet, vReprC, vClearC, vAppD, vExtD, vModD, pApp, pExt, vClear, vNPut, vNGet, vExtC, vListRg, vDPutC, vPar3, vParO, vDNew, vUpd, vDPut, vOwn, vLcB, vDictP, vLcK, gSortS, gSortD, s_gRepL, s_gRep01, vRevL, vRevT, vCell, vDr, vFld, vAppC, vPopC, vSetF, vCallA, vCallAX, vCallX, vMakeA, vMethA, vRaise, vTry, vXf, vChain, vTru, s_truN, s_truB, s_truI, s_truS, s_truL, s_truT, vIsi, vIsiT, vStar, vListZip, vEnum, vZipSL, vPop, vExt, vSetIx, vSetIxC, vRep, s_vgLst, vKGet, s_gMulS, s_gBoolL, s_gStrS, s_gIntS, s_gStrA1, s_gStrA2, s_seqL, s_seqT, cuD_1, ioA, setC, newC, noC, putA, ex_cell, Option.join_some, List.drop_succ_cons, List.drop_zero, s_gInK, s_gInS, s_gIn2, s_gIn3, s_gIn4, s_gIn5, ex_par, vNeg, s_gAny, vCaTd, vOp2Lv, s_callIO, s_io, s_fill0, s_fillN, s_fillS, s_putIO, s_wio0, s_wioN, s_wioS, s_give0, s_giveN, s_giveS, s_giveM, Option.map_some, s_seq, s_next, s_break, s_cont, s_set, s_ret, s_retN, s_drop, s_for, s_asg, s_par, s_var, s_c, s_op2, s_op2L, s_op2T, s_ca, s_caL, s_caT, s_nil, s_cons, s_tup, s_lst, s_test, s_and, s_or, s_not, s_if, s_andV, s_orV, s_notV, s_no, s_part, s_sl, s_slL, s_slT, s_ls, s_ts, s_sgs, s_rng1, s_rng2, s_gName, s_gNil, s_gCons, s_gTup, s_lc, s_yes, s_append, s_call, s_dget, s_get2, s_pNil, s_pCons, s_disp, s_m1, s_split, s_indexD, s_w1, s_w2, s_isStr, s_gI, s_gI0, s_gAddS, s_gS, s_gSg, s_gEqI, s_gEqS, s_gEqB, s_gEqNI, s_gEqIS, s_gEqSI, s_gNeI, s_gNeS, s_gIsN, s_gNotN, s_isNon0, s_isNonI, s_isNonS, s_isNonT, s_isNonL, s_gIxL, s_gIxT, s_gIxS, s_gCat, s_gCatT, s_gSlL, s_gSlT, s_gSlS, s_gLenL, s_gLenT, s_gLenS, s_gSum, s_gI2, s_gInt1, s_gInt1b, s_gStrI, s_gAll, s_gSeqL, s_gSeqT, s_gDGet, s_gGet2, s_kDs, s_kDi, s_ioN, s_ioS, s_ioL, s_ioD, s_ioO, s_nones0, s_nones1, List.map_cons, List.map_nil, List.cons_append, List.nil_append, List.append_nil, List.append_assoc, List.getElem?_cons_zero, List.getElem?_cons_succ, List.set_cons_zero, List.set_cons_succ, Option.some.injEq, exists_eq_left', exists_eq_left, D.int.injEq, D.str.injEq, D.tup.injEq, D.lst.injEq, D.bl.injEq, D.dct.injEq, and_true, true_and, List.length_cons, List.length_nil, exists_and_left, exists_eq, Bool.not_true, Bool.not_false, exists_eq', Nat.zero_le, atI_0, atI_1, atI_2, atI_3, atI_4, atI_5, s_gInD, if_true, if_false, Bool.false_eq_true, Nat.reduceAdd])
section
variable {P : Program} {w : World} {K : PySem.W.Frag} {mg : Str → Option Value} {base : Heap} {a_Plan a_Plan_known a_Plan_cells : Addr}
open Gn
theorem use_plan {C a : Addr} {al : List Addr} {l : List D} {x y : D} {Q : D → VL.Env → Prop} {E : QX} (ha : a ∉ al) (q : ∀ l', cellAt (a :: al) l' a = some (.obj C fPl [x, y]) → Keep [] (cellAt al l) (cellAt (a :: al) l') → Q .non [none, none, none, some (.mem (a :: al) l')]) : vpInit C [.ref a, x, y, .mem (a :: al) (.obj C [] [] :: l)] Q E := by
  refine ⟨a, x, y, a :: al, .obj C [] [] :: l, rfl, by rw [cellAt_new, if_pos rfl], fun l' n => q l' (NowH.at n) fun c d e _ => ?_⟩
  have ne : a ≠ c := fun z => ha (z ▸ cell_no e)
  rw [NowH.ne n ne, cellAt_new, if_neg ne, e]
abbrev Pn := Addr × List Int × List Int
def pnD (p : Pn) : D := .tup [.ref p.1, tI p.2.1, tI p.2.2]
structure PnOk (C : Addr) (H : Hc) (p : Pn) : Prop where
  c : H p.1 = some (.obj C fPl [tI p.2.1, tI p.2.2])
  a : OkI p.2.1
  b : OkI p.2.2
structure MemL (C : Addr) (H : Hc) (a : Addr) (L : List Pn) : Prop where
  c : H a = some (.lst (L.map pnD))
  p : ∀ p ∈ L, PnOk C H p
theorem PnOk.keep {C : Addr} {H H' : Hc} {p : Pn} (h : PnOk C H p) (k : Keep [] H H') : PnOk C H' p := ⟨k _ _ h.c (by simp), h.a, h.b⟩
theorem MemL.keep {C a : Addr} {H H' : Hc} {L : List Pn} (h : MemL C H a L) (k : Keep [] H H') : MemL C H' a L := ⟨k _ _ h.c (by simp), fun p hp => (h.p p hp).keep k⟩
theorem MemL.snoc {C a : Addr} {H H' : Hc} {L : List Pn} {p : Pn} (h : MemL C H a L) (hp : PnOk C H p) (n : NowH H H' a (.lst ((L ++ [p]).map pnD))) : MemL C H' a (L ++ [p]) := by
  have ok : ∀ q, PnOk C H q → PnOk C H' q := fun q z => ⟨by
    have ne : a ≠ q.1 := fun e => by
      have := h.c
      rw [e, z.c] at this
      cases this
    rw [NowH.ne n ne]
    exact z.c, z.a, z.b⟩
  refine ⟨NowH.at n, fun q hq => ?_⟩
  rcases List.mem_append.mp hq with hq | hq
  · exact ok q (h.p q hq)
  · rw [List.mem_singleton.mp hq]; exact ok p hp
theorem right_use {C p : Addr} {A B : List Int} {al : List Addr} {l : List D} {Q : D → VL.Env → Prop} {E : QX} (h : PnOk C (cellAt al l) (p, A, B)) (q : Q (.bl true) [none, none, none, some (.mem al l)]) : vpRight C [.ref p, tI A, tI B, .mem al l] Q E := ⟨p, _, _, al, l, A, B, rfl, rfl, rfl, h.c, h.a, h.b, q⟩
theorem due_use {A A2 B B2 : List Int} {P : D → Prop} {due : Bool} (hd : due = (decide (A = A2) && decide (B = B2))) (h : P (.bl due)) : gEqD (tI A) (tI A2) fun z => ∃ b, z = D.bl b ∧ if b = true then gEqD (tI B) (tI B2) P else P (.bl false) := ge_tI ⟨_, rfl, by
  subst hd
  by_cases e : A = A2
  · rw [if_pos (decide_eq_true e)]
    rw [decide_eq_true e, Bool.true_and] at h
    exact ge_tI h
  · rw [if_neg (by simpa using e)]
    rw [decide_eq_false e, Bool.false_and] at h
    exact h⟩
theorem eq_use {C p o : Addr} {A B A2 B2 : List Int} {al : List Addr} {l : List D} {Q : D → VL.Env → Prop} {E : QX} {due : Bool} (hd : due = (decide (A = A2) && decide (B = B2))) (h1 : PnOk C (cellAt al l) (p, A, B)) (h2 : PnOk C (cellAt al l) (o, A2, B2)) (q : Q (.bl due) [none, none, some (.mem al l)]) : vpEq C [.ref p, .ref o, .mem al l] Q E := ⟨p, _, al, l, A, B, rfl, h1.c, .inl ⟨o, A2, B2, rfl, h2.c, by rw [← hd]; exact q⟩⟩
theorem ne_b {p : Bool} {Q : D → Prop} (q : Q (.bl false)) : gNe (.bl p) (.bl p) Q := by
  have : gNe (.bl p) (.bl p) Q = Q (.bl (!decide (p = p))) := by simp [gNe, scalD, isSc, scV, scal, eqD]
  rw [this]
  simpa using q
theorem right0 {C p : Addr} {A B : D} {As Bs : List Int} {al : List Addr} {l : List D} {Q : D → VL.Env → Prop} {E : QX} (hA : A = tI As) (hB : B = tI Bs) (h : cellAt al l p = some (.obj C fPl [A, B])) (oa : OkI As) (ob : OkI Bs) (q : Q (.bl true) [none, none, none, some (.mem al l)]) : vpRight C [.ref p, A, B, .mem al l] Q E := by
  subst hA hB
  exact right_use ⟨h, oa, ob⟩ q
theorem ok_nil : OkI [] := ⟨by decide, fun _ z => (List.not_mem_nil z).elim⟩
theorem tI_nil : D.tup [] = tI [] := rfl
theorem eq_no {C p : Addr} {A B : List Int} {y : D} {t : String} {al : List Addr} {l : List D} {Q : D → VL.Env → Prop} {E : QX} (h1 : PnOk C (cellAt al l) (p, A, B)) (ht : tyL y = some t) (hm : t ∈ ts3) (q : Q (.bl false) [none, none, some (.mem al l)]) : vpEq C [.ref p, y, .mem al l] Q E := ⟨p, _, al, l, A, B, rfl, h1.c, .inr ⟨⟨t, ht, hm⟩, q⟩⟩
theorem sc_law : FnScope ["_law_script", "_law_deal_here", "_law_rows", "_law_made", "_law_sure", "_law_kept", "_law_plan", "_law_other", "_law_one", "_law_also", "_law_too", "_law_due", "_law_k"] ["_law_script"] (defScope sLaw) := ⟨rfl, rfl, rfl, by decide +kernel, rfl, by decide +kernel, by decide +kernel⟩
theorem ok_law {f : Addr} {fd : FuncData} (F : L2.Fun K "law" "law" sLaw f fd) (T : Top K w mg a_Plan a_Plan_known a_Plan_cells) : FnG P w K mg base 4 f fd ["_law_script"] (spOf K [.s] (.s) (vpLaw)) := by
  have C_law_deal := ok__law_deal (P := P) (w := w) (base := base) T
  have C_law_plan_right := ok__law_plan_right (P := P) (w := w) (base := base) T
  have C_law_row := ok__law_row (P := P) (w := w) (base := base) T
  have K_Plan_b := mk_Plan_b (P := P) (w := w) (base := base) T
  have X_Plan___eq__ := ok_Plan___eq__ (P := P) (w := w) (base := base) T
  have K_Plan_ab := mk_Plan_ab (P := P) (w := w) (base := base) T
  have K_Plan_ba := mk_Plan_ba (P := P) (w := w) (base := base) T
  have X_Plan___repr__ := ok_Plan___repr__ (P := P) (w := w) (base := base) T
  have X_Plan___len__ := ok_Plan___len__ (P := P) (w := w) (base := base) T
  have K_Plan_o := mk_Plan_o (P := P) (w := w) (base := base) T
  have K_Plan_a := mk_Plan_a (P := P) (w := w) (base := base) T
  refine ok_G F sc_law (fun vs H Q E h => h.len) (fun cdv A outer s H vs Q E gd hr h => ?_)
  have hu := hu_of hr
  have hu64 : (A.deeper (envOfC "law" (defScope sLaw) s.heap.objs.size f cdv)).units + 64 < cLine := by have := hr.un; omega
  have hu65 : (A.deeper (envOfC "law" (defScope sLaw) s.heap.objs.size f cdv)).units + 65 < cLine := by have := hr.un; omega
  refine ⟨_, (pss_cons (ps_set (i := 1) sc_law.nd rfl (Or.inr rfl) (C8.pe_c C_law_deal hr (by omega) rfl (pa_cons (pv 0) pa_nil)))
  (pss_cons (ps_setLc (i := 2) (own := [("_law_k", 12)]) rfl sc_law.nd rfl rfl (sw_true rfl rfl rfl (by decide +kernel)) (pi_range1 rfl T.n_range (pa_cons pe_int pa_nil)) (blkOk_by (own := [("_law_k", 12)]) (N := ["_law_script", "_law_deal_here", "_law_rows", "_law_made", "_law_sure", "_law_kept", "_law_plan", "_law_other", "_law_one", "_law_also", "_law_too", "_law_due", "_law_k"]) (sc := defScope sLaw) (by decide +kernel)) (fun _ _ _ _ _ => (pg_name (i := 12) sc_law.nd rfl (Or.inl rfl))) (fun _ _ _ _ _ => pts_nil) (fun _ _ _ _ _ => (C8.pe_c C_law_row hr (by omega) rfl (pa_cons (pv 1) pa_nil))))
  (pss_cons (ps_set (i := 3) sc_law.nd rfl (Or.inl rfl) (pe_lst pa_nil))
  (pss_cons (ps_for PassesOwn.never rfl (VL.piLK K rfl (pv 2)) (pg_name (i := 4) sc_law.nd rfl (Or.inl rfl))
    (pss_one (ps_for PassesOwn.never rfl (VL.piLK K rfl (pv 2)) (pg_name (i := 5) sc_law.nd rfl (Or.inl rfl))
    (pss_cons (ps_par (by rfl) sc_law.nd (i := 6) (j := 7) rfl rfl (by decide) rfl rfl (pa_cons (Fb.pe_mkK K_Plan_ab hr (by omega) rfl (pk_cons (pv 4) (pk_cons (pv 5) pk_nil))) (pa_cons (Fb.pe_mkK K_Plan_ba hr (by omega) rfl (pk_cons (pv 5) (pk_cons (pv 4) pk_nil))) pa_nil)) (by rfl))
  (pss_cons (ps_if (PW.pt (pw_or (pt_not (pt_val (Fb.pe_cG C_law_plan_right gd hr (by omega) rfl (pa_cons (pv 6) (pa_cons (pv 4) (pa_cons (pv 5) pa_nil)))))) (pw_or1 (pt_not (pt_val (Fb.pe_cG C_law_plan_right gd hr (by omega) rfl (pa_cons (pv 7) (pa_cons (pv 4) (pa_cons (pv 5) pa_nil)))))))))
    (pss_one (ps_ret pe_bl))
    pss_nil)
  (pss_one (ps_expr (pe_bm PySem.F.plainAttrs_list PySem.F.slot_list_append PySem.F.type_list_append mt_append (pv 3) (pa_cons (pe_tup (pa_cons (pv 6) (pa_cons (pv 4) (pa_cons (pv 5) pa_nil)))) pa_nil)))))))))
  (pss_cons (ps_for PassesOwn.never rfl (VL.piLK K rfl (pv 3)) (VL.tupTK K rfl (n := 3) rfl (pgs_cons (pg_name (i := 8) sc_law.nd rfl (Or.inl rfl)) (pgs_cons (pg_name (i := 4) sc_law.nd rfl (Or.inl rfl)) (pgs_cons (pg_name (i := 5) sc_law.nd rfl (Or.inl rfl)) pgs_nil))))
    (pss_cons (ps_for PassesOwn.never rfl (VL.piLK K rfl (pv 3)) (VL.tupTK K rfl (n := 3) rfl (pgs_cons (pg_name (i := 7) sc_law.nd rfl (Or.inl rfl)) (pgs_cons (pg_name (i := 9) sc_law.nd rfl (Or.inl rfl)) (pgs_cons (pg_name (i := 10) sc_law.nd rfl (Or.inl rfl)) pgs_nil))))
    (pss_cons (ps_set (i := 11) sc_law.nd rfl (Or.inl rfl) (pe_and (pe_cmpR (VL.eqDK K rfl hu64) (pv 4) (pv 9) (nomark _)) (pe_one (pe_cmpR (VL.eqDK K rfl hu64) (pv 5) (pv 10) (nomark _)))))
  (pss_one (ps_if (PW.pt (pw_or (pt_cmpR op_ne (pe_cmpR (VL.op_eqOK K rfl X_Plan___eq__ hr (by omega)) (pv 8) (pv 7) (nomark _)) (pv 11) (nomark _)) (pw_or1 (pt_cmpR op_eq (pe_cmpR (VL.op_neOK K rfl X_Plan___eq__ hr (by omega) T.ne_Plan T.eq_Plan.o.hm) (pv 8) (pv 7) (nomark _)) (pv 11) (nomark _)))))
    (pss_one (ps_ret pe_bl))
    pss_nil))))
  (pss_one (ps_if (PW.pt (pw_or (pt_cmpR (VL.op_eqOK K rfl X_Plan___eq__ hr (by omega)) (pv 8) (pe_tup (pa_cons (pv 4) (pa_cons (pv 5) pa_nil))) (nomark _)) (pw_or (pt_cmpR (VL.op_eqOK K rfl X_Plan___eq__ hr (by omega)) (pv 8) (pe_callB (VL.reprOK X_Plan___repr__ gd hr (by omega)) (by rfl) T.n_repr (by decide +kernel) (pa_cons (pv 8) pa_nil)) (nomark _)) (pw_or1 (pt_cmpR (VL.op_eqOK K rfl X_Plan___eq__ hr (by omega)) (pv 8) (pe_callB (VL.lenOK X_Plan___len__ hr (by omega)) (by rfl) T.n_len (by decide +kernel) (pa_cons (pv 8) pa_nil)) (nomark _))))))
    (pss_one (ps_ret pe_bl))
    pss_nil))))
  (pss_cons (ps_if (PW.pt (pw_or (pt_not (pt_val (Fb.pe_cG C_law_plan_right gd hr (by omega) rfl (pa_cons (Fb.pe_mkK K_Plan_o hr (by omega) rfl pk_nil) (pa_cons (pe_tup pa_nil) (pa_cons (pe_tup pa_nil) pa_nil)))))) (pw_or1 (pt_not (pt_val (Fb.pe_cG C_law_plan_right gd hr (by omega) rfl (pa_cons (Fb.pe_mkK K_Plan_a hr (by omega) rfl (pk_cons (pe_ix (VL.ixL K rfl) (pv 2) pe_int (fun _ _ => rfl)) pk_nil)) (pa_cons (pe_ix (VL.ixL K rfl) (pv 2) pe_int (fun _ _ => rfl)) (pa_cons (pe_tup pa_nil) pa_nil)))))))))
    (pss_one (ps_ret pe_bl))
    pss_nil)
  (pss_one (ps_ret (Fb.pe_cG C_law_plan_right gd hr (by omega) rfl (pa_cons (Fb.pe_mkK K_Plan_b hr (by omega) rfl (pk_cons (pe_ix (VL.ixL K rfl) (pv 2) pe_int (fun _ _ => rfl)) pk_nil)) (pa_cons (pe_tup pa_nil) (pa_cons (pe_ix (VL.ixL K rfl) (pv 2) pe_int (fun _ _ => rfl)) pa_nil)))))))))))), fn_runM0 (pM := [.s]) (M2 := [dealSh, .s, .s, .s, .s, .s, .s, .s, .s, .s, .s, .s]) rfl (fun H0 io av rt hrt => (vs_seq (vs_set (i := 1) (v_call (va_cons (VQ.e (q_var (i := 0) rfl)) va_nil) (by simp)) rfl (hrt 1 (by decide)))
  (vs_seq (vs_set (i := 2) (VE.s (v_lc (vs := [12]) (vi_rng1 (va_cons (VQ.e q_int) va_nil)) (vg_name (i := 12) rfl (hrt 12 (by decide))) vt_yes (v_callIO (vax_io (i := 1) rfl vax_nil) ⟨rfl, rfl, (by decide), trivial⟩) (by decide) (fun i hi => hrt i (by revert i; decide)))) rfl (hrt 2 (by decide)))
  (vs_seq (vs_set (i := 3) (n_cellL 13 rfl (v_lst va_nil)) rfl (hrt 3 (by decide)))
  (vs_seq (vs_for (vi_list (VQ.e (q_var (i := 2) rfl))) (vg_name (i := 4) rfl (hrt 4 (by decide)))
    (vs_for (vi_list (VQ.e (q_var (i := 2) rfl))) (vg_name (i := 5) rfl (hrt 5 (by decide)))
    (vs_seq (vs_par (i := 6) (j := 7) (va_cons (n_makeA 13 rfl (vax_ab (vax_cons (VQ.e (q_var (i := 4) rfl)) (vax_cons (VQ.e (q_var (i := 5) rfl)) vax_nil))) ⟨rfl, rfl, trivial⟩) (va_cons (n_makeA 13 rfl (vax_ba (vax_cons (VQ.e (q_var (i := 5) rfl)) (vax_cons (VQ.e (q_var (i := 4) rfl)) vax_nil))) ⟨rfl, rfl, trivial⟩) va_nil)) rfl rfl (hrt 6 (by decide)) (hrt 7 (by decide)))
  (vs_seq (vs_if (vt_or (vt_not (vt_b (n_callA 13 rfl (vax_cons (VQ.e (q_var (i := 6) rfl)) (vax_cons (VQ.e (q_var (i := 4) rfl)) (vax_cons (VQ.e (q_var (i := 5) rfl)) vax_nil))) ⟨rfl, rfl, rfl, trivial⟩))) (vt_not (vt_b (n_callA 13 rfl (vax_cons (VQ.e (q_var (i := 7) rfl)) (vax_cons (VQ.e (q_var (i := 4) rfl)) (vax_cons (VQ.e (q_var (i := 5) rfl)) vax_nil))) ⟨rfl, rfl, rfl, trivial⟩))))
    (vs_ret (VQ.e q_bl))
    vs_next)
  (vs_drop (n_appC 13 rfl (q_var (i := 3) rfl) (v_tup (va_cons (VQ.e (q_var (i := 6) rfl)) (va_cons (VQ.e (q_var (i := 4) rfl)) (va_cons (VQ.e (q_var (i := 5) rfl)) va_nil))))))))))
  (vs_seq (n_forC 13 rfl (q_var (i := 3) rfl) (vg_tup (vg_cons (vg_name (i := 8) rfl (hrt 8 (by decide))) (vg_cons (vg_name (i := 4) rfl (hrt 4 (by decide))) (vg_cons (vg_name (i := 5) rfl (hrt 5 (by decide))) vg_nil))))
    (vs_seq (n_forC 13 rfl (q_var (i := 3) rfl) (vg_tup (vg_cons (vg_name (i := 7) rfl (hrt 7 (by decide))) (vg_cons (vg_name (i := 9) rfl (hrt 9 (by decide))) (vg_cons (vg_name (i := 10) rfl (hrt 10 (by decide))) vg_nil))))
    (vs_seq (vs_set (i := 11) (v_and (VQ.e (q_op (VQ.b (q_var (i := 4) rfl)) (VQ.b (q_var (i := 9) rfl)) od_eqD)) (VQ.e (q_op (VQ.b (q_var (i := 5) rfl)) (VQ.b (q_var (i := 10) rfl)) od_eqD))) rfl (hrt 11 (by decide)))
  (vs_if (vt_or (vt_test (v_op (n_eqO 13 rfl T.eq_Plan (vax_cons (VQ.e (q_var (i := 8) rfl)) (vax_cons (VQ.e (q_var (i := 7) rfl)) vax_nil))) (VQ.e (q_var (i := 11) rfl)) od_ne)) (vt_test (v_op (n_neO 13 rfl T.eq_Plan (vax_cons (VQ.e (q_var (i := 8) rfl)) (vax_cons (VQ.e (q_var (i := 7) rfl)) vax_nil))) (VQ.e (q_var (i := 11) rfl)) od_eq)))
    (vs_ret (VQ.e q_bl))
    vs_next)))
  (vs_if (vt_or (vt_test (n_eqO 13 rfl T.eq_Plan (vax_cons (VQ.e (q_var (i := 8) rfl)) (vax_cons (v_tup (va_cons (VQ.e (q_var (i := 4) rfl)) (va_cons (VQ.e (q_var (i := 5) rfl)) va_nil))) vax_nil)))) (vt_or (vt_test (n_eqO 13 rfl T.eq_Plan (vax_cons (VQ.e (q_var (i := 8) rfl)) (vax_cons (n_reprO 13 rfl (q_var (i := 8) rfl)) vax_nil)))) (vt_test (n_eqO 13 rfl T.eq_Plan (vax_cons (VQ.e (q_var (i := 8) rfl)) (vax_cons (n_lenO 13 rfl (q_var (i := 8) rfl)) vax_nil))))))
    (vs_ret (VQ.e q_bl))
    vs_next)))
  (vs_seq (vs_if (vt_or (vt_not (vt_b (n_callA 13 rfl (vax_cons (n_makeA 13 rfl (vax_o (rs_tup0 T.w_Plan_known) (rs_tup0 T.w_Plan_cells)) ⟨rfl, rfl, trivial⟩) (vax_cons (v_tup va_nil) (vax_cons (v_tup va_nil) vax_nil))) ⟨rfl, rfl, rfl, trivial⟩))) (vt_not (vt_b (n_callA 13 rfl (vax_cons (n_makeA 13 rfl (vax_a (rs_tup0 T.w_Plan_cells) (vax_cons (VQ.e (q_op (VQ.b (q_var (i := 2) rfl)) (VQ.b q_int) od_ixL)) vax_nil)) ⟨rfl, rfl, trivial⟩) (vax_cons (VQ.e (q_op (VQ.b (q_var (i := 2) rfl)) (VQ.b q_int) od_ixL)) (vax_cons (v_tup va_nil) vax_nil))) ⟨rfl, rfl, rfl, trivial⟩))))
    (vs_ret (VQ.e q_bl))
    vs_next)
  (vs_ret (n_callA 13 rfl (vax_cons (n_makeA 13 rfl (vax_b (rs_tup0 T.w_Plan_known) (vax_cons (VQ.e (q_op (VQ.b (q_var (i := 2) rfl)) (VQ.b q_int) od_ixL)) vax_nil)) ⟨rfl, rfl, trivial⟩) (vax_cons (v_tup va_nil) (vax_cons (VQ.e (q_op (VQ.b (q_var (i := 2) rfl)) (VQ.b q_int) od_ixL)) vax_nil))) ⟨rfl, rfl, rfl, trivial⟩))))))))) (fun ds Qv Qx hl hs => ?_) h⟩
  obtain ⟨ns, rfl, hl, q⟩ := hs
  walk_at "vs"
  refine ⟨ns, rfl, hl, fun s0 n0 ls0 ok => ?_⟩
  have hd0 : DealV (dealV s0 n0 ls0) := ⟨_, _, _, rfl, ok⟩
  generalize dealV s0 n0 ls0 = dl0 at hd0
  have hsl : sizeLine = 16777216 := rfl
  refine ⟨3, rfl, by decide, by decide, ?_⟩
  refine lc_inv (fun acc e => ∃ dl rows, DealV dl ∧ acc = rows.map tI ∧ (∀ r ∈ rows, OkI r) ∧ e = [some (D.lst (List.map D.int ns)), some dl, none, none, none, none, none, none, none, none, none, none, none, some (D.mem [] [])]) _ _ _ (by decide) ⟨dl0, [], hd0, rfl, fun _ z => (List.not_mem_nil z).elim, rfl⟩ ?_ ?_
  · rintro d hdm acc e ⟨dl2, rows, hd2, rfl, hn, rfl⟩ A B hA
    walk_at "vs"
    refine ⟨dl2, rfl, hd2, fun dl3 r hd3 hr => ?_⟩
    refine hA _ _ ⟨dl3, rows ++ [r], hd3, by rw [List.map_append]; rfl, fun x hx => ?_, rfl⟩
    rcases List.mem_append.mp hx with hx | hx
    · exact hn x hx
    · rw [List.mem_singleton.mp hx]; exact hr
  · rintro acc e hlen ⟨dl, rows, hd, rfl, hro, rfl⟩
    have h3 : rows.length = 3 := by
      rw [rng_len] at hlen
      simpa using hlen
    walk_at "vs"
    refine ⟨⟨_, _, rfl⟩, fun a ha => ?_⟩
    refine for_pre tI rows (fun pre e => ∃ al l L x4 x5 x6 x7 x8 x9 x10 x11, e = [some (D.lst (List.map D.int ns)), some dl, some (D.lst (rows.map tI)), some (D.ref a), x4, x5, x6, x7, x8, x9, x10, x11, none, some (D.mem al l)] ∧ MemL a_Plan (cellAt al l) a L ∧ L.length ≤ 9 * pre.length) ?_ ?_ ⟨[a], [.lst []], [], none, none, none, none, none, none, none, none, rfl, ⟨by simp [cellAt], fun _ z => (List.not_mem_nil z).elim⟩, by simp⟩
    · rintro pre A post hp e ⟨al, l, L, x4, x5, x6, x7, x8, x9, x10, x11, rfl, hM, hLn⟩ K1 hK1
      have hA : OkI A := hro A (by rw [hp]; simp)
      walk_at "vs"
      refine for_pre tI rows (fun pr2 e => ∃ al l L x5 x6 x7 x8 x9 x10 x11, e = [some (D.lst (List.map D.int ns)), some dl, some (D.lst (rows.map tI)), some (D.ref a), some (tI A), x5, x6, x7, x8, x9, x10, x11, none, some (D.mem al l)] ∧ MemL a_Plan (cellAt al l) a L ∧ L.length ≤ 9 * pre.length + pr2.length) ?_ ?_ ⟨al, l, L, x5, x6, x7, x8, x9, x10, x11, rfl, hM, by simpa using hLn⟩
      · rintro pr2 B post2 hp2 e ⟨al, l, L, x5, x6, x7, x8, x9, x10, x11, rfl, hM, hLn⟩ K2 hK2
        have hB : OkI B := hro B (by rw [hp2]; simp)
        walk_at "vs"
        simp only [ex_mem, ex_mem0, ex_ref, true_and]
        refine ⟨_, rfl, fun p hp' => use_plan hp' fun l1 c1 k1 => ⟨rfl, ?_⟩⟩
        have hM1 := hM.keep k1
        generalize p :: al = al1 at c1 k1 hM1 ⊢
        walk_at "vs"
        simp only [ex_mem, ex_mem0, ex_ref, true_and]
        refine ⟨_, rfl, fun o ho => use_plan ho fun l2 c2 k2 => ⟨rfl, ?_⟩⟩
        have hM2 := hM1.keep k2
        have ok2 : PnOk a_Plan (cellAt (o :: al1) l2) (p, A, B) := PnOk.keep ⟨c1, hA, hB⟩ k2
        generalize o :: al1 = al2 at c2 k2 hM2 ok2 ⊢
        walk_at "vs"
        simp only [ex_mem, ex_mem0, ex_ref, true_and]
        refine right_use ok2 ⟨true, rfl, ?_⟩
        rw [if_neg (by decide)]
        walk_at "vs"
        simp only [ex_mem, ex_mem0, ex_ref, true_and]
        refine right_use ⟨c2, hA, hB⟩ ⟨true, rfl, ?_⟩
        rw [if_neg (by decide)]
        walk_at "vs"
        simp only [ex_mem, ex_mem0, ex_ref, true_and]
        have hl1 : pre.length + (post.length + 1) = 3 := by rw [← h3, hp]; simp
        have hl2 : pr2.length + (post2.length + 1) = 3 := by rw [← h3, hp2]; simp
        refine ⟨⟨_, hM2.c⟩, by decide, _, hM2.c, by rw [List.length_map]; omega, hK2 _ ⟨al2, _, L ++ [(p, A, B)], _, _, _, x8, x9, x10, x11, rfl, hM2.snoc ok2 (by rw [List.map_append]; exact Now.of hM2.c), ?_⟩⟩
        rw [List.length_append, List.length_append, List.length_singleton, List.length_singleton]
        omega
      · rintro e ⟨al, l, L, x5, x6, x7, x8, x9, x10, x11, rfl, hM, hLn⟩
        exact hK1 _ ⟨al, l, L, _, x5, x6, x7, x8, x9, x10, x11, rfl, hM, by rw [List.length_append, List.length_singleton]; omega⟩
    · rintro e ⟨al, l, L, x4, x5, x6, x7, x8, x9, x10, x11, rfl, hM, hLn⟩
      have hL27 : L.length ≤ 27 := by omega
      simp only [vForC, s_var]
      refine ⟨_, rfl, a, L.map pnD, rfl, ?_⟩
      refine forC_inv (fun r e => ∃ R : List Pn, r = R.map pnD ∧ (∀ p ∈ R, p ∈ L) ∧ ∃ x4 x5 x6 x7 x8 x9 x10 x11, e = [some (D.lst (List.map D.int ns)), some dl, some (D.lst (rows.map tI)), some (D.ref a), x4, x5, x6, x7, x8, x9, x10, x11, none, some (D.mem al l)]) ?_ ?_ ?_ _ _ ⟨L, rfl, fun _ z => z, x4, x5, x6, x7, x8, x9, x10, x11, rfl⟩
      · rintro r e ⟨R, rfl, hR, x4, x5, x6, x7, x8, x9, x10, x11, rfl⟩
        exact ⟨_, _, rfl, hM.c⟩
      · rintro d r e ⟨R, hd', hR, x4, x5, x6, x7, x8, x9, x10, x11, rfl⟩ K1 hK1
        cases R with
        | nil => cases hd'
        | cons p R =>
          obtain ⟨p, A, B⟩ := p
          cases hd'
          have hp := hM.p _ (hR _ List.mem_cons_self)
          unfold pnD
          walk_at "vs"
          simp only [vForC, s_var]
          refine ⟨_, rfl, a, L.map pnD, rfl, ?_⟩
          refine forC_inv (fun r e => ∃ R : List Pn, r = R.map pnD ∧ (∀ p ∈ R, p ∈ L) ∧ ∃ x6 x7 x9 x10 x11, e = [some (D.lst (List.map D.int ns)), some dl, some (D.lst (rows.map tI)), some (D.ref a), some (tI A), some (tI B), x6, x7, some (D.ref p), x9, x10, x11, none, some (D.mem al l)]) ?_ ?_ ?_ _ _ ⟨L, rfl, fun _ z => z, x6, x7, x9, x10, x11, rfl⟩
          · rintro r e ⟨R2, rfl, hR2, x6, x7, x9, x10, x11, rfl⟩
            exact ⟨_, _, rfl, hM.c⟩
          · rintro d r e ⟨R2, hd', hR2, x6, x7, x9, x10, x11, rfl⟩ K2 hK2
            cases R2 with
            | nil => cases hd'
            | cons o R2 =>
              obtain ⟨o, A2, B2⟩ := o
              cases hd'
              have ho := hM.p _ (hR2 _ List.mem_cons_self)
              unfold pnD
              walk_at "vs"
              simp only [ex_mem, ex_mem0, ex_ref, true_and]
              obtain ⟨due, hdue⟩ : ∃ due : Bool, due = (decide (A = A2) && decide (B = B2)) := ⟨_, rfl⟩
              refine due_use hdue ⟨p, _, rfl, _, _, hp.c, .inl ⟨o, _, _, rfl, ⟨_, _, rfl, ho.c⟩⟩, eq_use hdue hp ho ?_⟩
              walk_at "vs"
              simp only [ex_mem, ex_mem0, ex_ref, true_and]
              refine ne_b ⟨_, rfl, ?_⟩
              rw [if_neg (by simp)]
              refine ⟨p, _, rfl, _, _, hp.c, .inl ⟨o, _, _, rfl, ⟨_, _, rfl, ho.c⟩⟩, eq_use hdue hp ho ⟨_, rfl, ?_⟩⟩
              walk_at "vs"
              rw [if_neg (by cases due <;> decide)]
              exact hK2 _ ⟨R2, rfl, fun z hz => hR2 z (List.mem_cons_of_mem _ hz), _, _, _, _, _, rfl⟩
          · rintro e ⟨R2, hd', hR2, x6, x7, x9, x10, x11, rfl⟩
            walk_at "vs"
            simp only [ex_mem, ex_mem0, ex_ref, true_and]
            refine ⟨by decide, p, _, rfl, _, _, hp.c, .inr ⟨"tuple", rfl, by simp⟩, eq_no hp (t := "tuple") rfl (by simp) ⟨false, rfl, ?_⟩⟩
            rw [if_neg (by decide)]
            walk_at "vs"
            simp only [ex_mem, ex_mem0, ex_ref, true_and]
            refine ⟨_, _, hp.c, p, al, l, A, B, rfl, hp.c, hp.a, hp.b, _, rfl, p, _, rfl, ?_⟩
            walk_at "vs"
            simp only [ex_mem, ex_mem0, ex_ref, true_and]
            refine ⟨_, _, hp.c, .inr ⟨"str", rfl, by simp⟩, eq_no hp (t := "str") rfl (by simp) ⟨false, rfl, ?_⟩⟩
            rw [if_neg (by decide)]
            walk_at "vs"
            simp only [ex_mem, ex_mem0, ex_ref, true_and]
            refine ⟨_, _, hp.c, p, _, al, l, B, rfl, hp.c, _, rfl, by omega, by have : B.length ≤ 5 := hp.b.n; omega, p, _, rfl, ?_⟩
            walk_at "vs"
            simp only [ex_mem, ex_mem0, ex_ref, true_and]
            refine ⟨_, _, hp.c, .inr ⟨"int", rfl, by simp⟩, eq_no hp (t := "int") rfl (by simp) ⟨false, rfl, ?_⟩⟩
            rw [if_neg (by decide)]
            exact hK1 _ ⟨R, rfl, fun z hz => hR z (List.mem_cons_of_mem _ hz), _, _, _, _, _, _, _, _, rfl⟩
      · rintro e ⟨R, hd', hR, x4, x5, x6, x7, x8, x9, x10, x11, rfl⟩
        walk_at "vs"
        simp only [ex_mem, ex_mem0, ex_ref, true_and]
        obtain ⟨A, B, C, hrows⟩ : ∃ A B C, rows = [A, B, C] := by
          match rows, h3 with
          | [A, B, C], _ => exact ⟨A, B, C, rfl⟩
        subst hrows
        have oA : OkI A := hro A (by simp)
        have oB : OkI B := hro B (by simp)
        refine fun p hp' => use_plan hp' fun l1 c1 k1 => ⟨rfl, _, _, rfl, right0 tI_nil tI_nil c1 ok_nil ok_nil ⟨true, rfl, ?_⟩⟩
        rw [if_neg (by decide)]
        generalize p :: al = al1 at c1 k1 ⊢
        walk_at "vs"
        simp only [ex_mem, ex_mem0, ex_ref, true_and]
        refine fun p2 hp2 => use_plan hp2 fun l2 c2 k2 => ⟨rfl, ?_⟩
        generalize p2 :: al1 = al2 at c2 k2 ⊢
        walk_at "vs"
        simp only [ex_mem, ex_mem0, ex_ref, true_and]
        refine right0 rfl tI_nil c2 oA ok_nil ⟨true, rfl, ?_⟩
        rw [if_neg (by decide)]
        walk_at "vs"
        simp only [ex_mem, ex_mem0, ex_ref, true_and]
        refine fun p3 hp3 => use_plan hp3 fun l3 c3 k3 => ⟨rfl, ?_⟩
        generalize p3 :: al2 = al3 at c3 k3 ⊢
        walk_at "vs"
        simp only [ex_mem, ex_mem0, ex_ref, true_and]
        refine right0 tI_nil rfl c3 ok_nil oB ?_
        walk_at "vs"
        exact q
end
end K38
set_option Elab.async false
set_option linter.all false
set_option maxRecDepth 100000
namespace K38
open PySem PySem.W PyProof.Rows L2 Fb VL
theorem fin {l : OpenLaw} {w : World} {K : Frag} {h : Heap} {mg : Str → Option Value} {fa f2 a_Plan a_Plan_known a_Plan_cells : Addr} {od2 an2 : Option Addr} {sl2 : Array (Option Value)} {oc2 kV2 dc2 pm2 cd2 ct2 : Value} (X : K.In h) (G : h.Ns mainGlobals mg) (hfa : mg "law" = some (.ref fa)) (T : Top K w mg a_Plan a_Plan_known a_Plan_cells)
    (a2 : nsIn K mainGlobals "law" = some (some (.ref f2))) (l2 : K.lookup f2 = some ⟨oc2, od2, .func (fnOf "law" "law" (defArgs sLaw) (defBody sLaw) (defScope sLaw) .none kV2 dc2 pm2 an2 cd2 ct2), sl2⟩) (c2 : codeIn K cd2 "law" = true) (k2 : keepIn K (.ref f2) = true) :
    ∃ fd : FuncData, (∀ (s : Shared) (v : Value), BindsTo s fd ⟨[v], []⟩ [("_law_script", v)]) ∧ ∀ base : Heap, K.In base → base.Ns mainGlobals mg → FnG l.prog w K mg base 4 fa fd ["_law_script"] (spOf K [.s] .s vpLaw) := by
  have e := hfa.symm.trans (mg_of X G a2)
  cases e
  exact ⟨_, fun s v => .of_eq rfl, fun base _ _ => ok_law (fun_mk (st := sLaw) l2 c2 k2) T⟩
end K38
open PySem PySem.W PyProof.Rows L2
set_option maxHeartbeats 0 in
theorem PySem.Challenge.cw_fourbind_k38_plans_made_holds : PySem.Challenge.rw_fourbind_k38_plans_made.Holds := by
  w_on; o_law; k_head; (case hw => w_witness2)
  k_fill
  refine VL.walk_V (l := PySem.Challenge.rw_fourbind_k38_plans_made) (k := 4) (x := "_law_script") rfl rfl ⟨rfl, by decide, by decide⟩ (fun w h Y => PySem.W.kIn_of Y) ?F
  case F =>
    intro w mg fa h KX G XP hmg
    refine' K38.fin KX G hmg (K38.Top.mk (mg_none_of KX G ?n_len) (mg_none_of KX G ?n_isinstance) (mg_none_of KX G ?n_max) (mg_none_of KX G ?n_list) (mg_none_of KX G ?n_reversed) (mg_none_of KX G ?n_range) (mg_none_of KX G ?n_repr) (mg_none_of KX G ?n_tuple) (mg_none_of KX G ?n_str) (mg_none_of KX G ?n_sorted) (mg_none_of KX G ?n_set) ⟨?pg_Plan, ?hd_Plan, ?po_Plan, ?sa_Plan⟩ (Fb.cn_in KX G ?mc_Plan ?me_Plan) (mg_of KX G ?mm_Plan) (Fb.noattr ?nn_Plan_known) (Fb.noattr ?nn_Plan_cells) ⟨_, _, Fb.funk_mk ?il_Plan___init__ ?ic_Plan___init__ ?ik_Plan___init__ (Fb.kw2_of ?kq1_Plan___init__ ?kq2_Plan___init__), ⟨?im_Plan___init__, ?ii_Plan___init__, ?if_Plan___init__, ?io_Plan___init__⟩⟩ ⟨_, _, fun_mk ?ml_Plan___eq__ ?mc2_Plan___eq__ ?mk2_Plan___eq__, ⟨?ma_Plan___eq__, ?mf_Plan___eq__, ?mp_Plan___eq__⟩⟩ ⟨_, _, fun_mk ?ml_Plan___repr__ ?mc2_Plan___repr__ ?mk2_Plan___repr__, ⟨?ma_Plan___repr__, ?mf_Plan___repr__, ?mp_Plan___repr__⟩⟩ ⟨_, _, fun_mk ?ml_Plan___len__ ?mc2_Plan___len__ ?mk2_Plan___len__, ⟨?ma_Plan___len__, ?mf_Plan___len__, ?mp_Plan___len__⟩⟩ (Fb.tup_in ?zl_Plan_known ?zz_Plan_known ?zv_Plan_known) (Fb.tup_in ?zl_Plan_cells ?zz_Plan_cells ?zv_Plan_cells) (VL.eqOk3 ⟨⟨?epg_Plan, ?ehd_Plan, ?epo_Plan, ?esa_Plan⟩, ?eha_Plan, ?ehn_Plan, ?etk_Plan, ?ehm_Plan, Fb.kit_own⟩ ?ec1_Plan ?ec2_Plan) ?nne_Plan (Fb.has_mk KX G ?da__law_deal ?dl__law_deal ?dc__law_deal ?dk__law_deal) (Fb.has_mk KX G ?da__law_draw ?dl__law_draw ?dc__law_draw ?dk__law_draw) (Fb.has_mk KX G ?da__law_row ?dl__law_row ?dc__law_row ?dk__law_row) (Fb.has_mk KX G ?da__law_written ?dl__law_written ?dc__law_written ?dk__law_written) (Fb.has_mk KX G ?da__law_plan_right ?dl__law_plan_right ?dc__law_plan_right ?dk__law_plan_right)) ?a2 ?l2 ?c2 ?k2
    (case mm_Plan => k_is)
    (case mc_Plan => k_is)
    (case me_Plan => rfl)
    (case ii_Plan___init__ => k_is)
    (case ma_Plan___eq__ => k_is)
    (case ma_Plan___repr__ => k_is)
    (case ma_Plan___len__ => k_is)
    (case da__law_deal => k_is)
    (case da__law_draw => k_is)
    (case da__law_row => k_is)
    (case da__law_written => k_is)
    (case da__law_plan_right => k_is)
    (case il_Plan___init__ => k_is)
    (case ml_Plan___eq__ => k_is)
    (case ml_Plan___repr__ => k_is)
    (case ml_Plan___len__ => k_is)
    (case dl__law_deal => k_is)
    (case dl__law_draw => k_is)
    (case dl__law_row => k_is)
    (case dl__law_written => k_is)
    (case dl__law_plan_right => k_is)
    (case n_len => k_is)
    (case n_isinstance => k_is)
    (case n_max => k_is)
    (case n_list => k_is)
    (case n_reversed => k_is)
    (case n_range => k_is)
    (case n_repr => k_is)
    (case n_tuple => k_is)
    (case n_str => k_is)
    (case n_sorted => k_is)
    (case n_set => k_is)
    (case pg_Plan => k_is)
    (case hd_Plan => k_is)
    (case po_Plan => k_is)
    (case sa_Plan => k_is)
    (case nn_Plan_known => k_is)
    (case nn_Plan_cells => k_is)
    (case ic_Plan___init__ => k_is)
    (case ik_Plan___init__ => k_is)
    (case kq1_Plan___init__ => k_is)
    (case kq2_Plan___init__ => k_is)
    (case im_Plan___init__ => k_is)
    (case if_Plan___init__ => k_is)
    (case io_Plan___init__ => k_is)
    (case mc2_Plan___eq__ => k_is)
    (case mk2_Plan___eq__ => k_is)
    (case mf_Plan___eq__ => k_is)
    (case mp_Plan___eq__ => k_is)
    (case mc2_Plan___repr__ => k_is)
    (case mk2_Plan___repr__ => k_is)
    (case mf_Plan___repr__ => k_is)
    (case mp_Plan___repr__ => k_is)
    (case mc2_Plan___len__ => k_is)
    (case mk2_Plan___len__ => k_is)
    (case mf_Plan___len__ => k_is)
    (case mp_Plan___len__ => k_is)
    (case zl_Plan_known => k_is)
    (case zz_Plan_known => decide)
    (case zv_Plan_known => rfl)
    (case zl_Plan_cells => k_is)
    (case zz_Plan_cells => decide)
    (case zv_Plan_cells => rfl)
    (case epg_Plan => k_is)
    (case ehd_Plan => k_is)
    (case epo_Plan => k_is)
    (case esa_Plan => k_is)
    (case eha_Plan => k_is)
    (case ehn_Plan => k_is)
    (case etk_Plan => k_is)
    (case ehm_Plan => k_is)
    (case ec1_Plan => k_is)
    (case ec2_Plan => k_is)
    (case nne_Plan => k_is)
    (case dc__law_deal => k_is)
    (case dk__law_deal => k_is)
    (case dc__law_draw => k_is)
    (case dk__law_draw => k_is)
    (case dc__law_row => k_is)
    (case dk__law_row => k_is)
    (case dc__law_written => k_is)
    (case dk__law_written => k_is)
    (case dc__law_plan_right => k_is)
    (case dk__law_plan_right => k_is)
    (case a2 => k_is)
    (case l2 => k_is)
    (case c2 => k_is)
    (case k2 => k_is)
