import PyProof.Rows.All
import Wide.All
import OpenK.AllK
import Wide.FinOn
import HandS.ForMost
import HandS.RaiseMore
import HandS.StrMore
import HandS.Rev
import HandS.Wide
import HandS.Walk
import HandS.Codes
import HandS.Ends
import HandS.Style
import HandS.IsInst
import HandS.WordsExc
import PySem.Challenge.RW_fourbind_k03_statements_and_bodies
set_option Elab.async false
set_option linter.all false
set_option maxRecDepth 100000
set_option maxHeartbeats 2000000
namespace Fb
open PySem PySem.Spec PyProof.Rows
/-! list(reversed(xs)), at the library's level -/
abbrev nilL : Obj := { cls := .type "list", data := .seq #[] }
section
variable {prog : Program} {w : World} {A : Around} {E : Value → Shared → Prop} {s : Shared}
abbrev FromEnd (items acc : Array Value) : Prop := ItemsOf (fun i v => items[items.size - 1 - i]? = some v) acc items.size
theorem ext_rev {it l S : Addr} {items : Array Value} {c0 : Nat} {R : Result → Shared → Prop} (hh : A.handled = none)
    (hit : s.heap.IsRevIter it l ((items.size : Int) - 1)) (hl : s.heap.IsList l items) (hne : l ≠ it) (hn : items.size ≤ sizeLine) (hSi : S ≠ it) (hSl : S ≠ l)
    (hS : s.heap.get? S = some { cls := .type "list", data := .seq #[] c0 })
    (hR : ∀ h' tk acc c, (∀ b o, b ≠ S → b ≠ it → s.heap.get? b = some o → h'.get? b = some o) →
      h'.get? S = some { cls := .type "list", dict := none, data := .seq acc c, slots := #[] } → FromEnd items acc → R (.ok (.ret .none)) { s with heap := h', toks := tk }) :
    wpAny (model prog w) A.in1 (Builtin.List.listExtendWith (.ref S) (.ref it) .none)
      (fun fin s' => match fin with | .done f => R (.ok f) s' | .again c' => c'.quiet = true ∧ codeAny (model prog w) A c' R s')
      (fun e s' => R (.error e) s') s := by
  have W := (Walks.listRev (prog := prog) (w := w) (A := A.in1) hh it l hne items).toS
  have nf : S ∉ [it, l] := by
    simp only [List.mem_cons, List.not_mem_nil, or_false, not_or]
    exact ⟨hSi, hSl⟩
  have hT : s.TypeIs (.ref it) "list_reverseiterator" := hit.typeIs
  have h1 : Builtin.List.listSameRef (.ref S) (.ref it) = false := by
    simp [Builtin.List.listSameRef, hSi]
  unfold Builtin.List.listExtendWith
  refine wpAny_bind <| wpAny_typeOf hT ?_
  rw [if_neg <| by rw [h1]; decide]
  refine wpAny_bind <| wpAny_pyIter_revIter hit ?_
  refine wpAny_bind <| wpAny_holding ?_
  unfold Builtin.List.listLengthHint
  refine wpAny_bind <| wpAny_specialOf hT RT.nolen_lri ?_
  show wpAny _ A.in1 (specialOf (Value.ref it) (Str.ofString "__length_hint__") >>= _) _ _ s
  refine wpAny_bind <| wpAny_specialOf hT RT.hint_lri ?_
  generalize e0 : ("list_reverseiterator.__length_hint__" : String) = i0
  wp_delta
  rw [show splitId i0 = some ("list_reverseiterator", "__length_hint__") by subst e0; decide +kernel]
  subst e0
  refine wpAny_bind <| wpAny_isInstance (b := true) hT (by rw [isSubtype_type]; kernel_rfl) ?_
  refine wpAny_pure ?_
  rw [if_neg <| by decide]
  have ez : ((items.size : Nat) : Int) - 1 - ((0 : Nat) : Int) = (items.size : Int) - 1 := by omega
  refine wpAny_pure ⟨plainId_quiet F.plain_extend_loop _, codeAny_extend_loopS W hn _ nf _ items.size 0 _ _ _ rfl (Nat.zero_le _)
    ⟨Nat.zero_le _, by rw [ez]; exact hit, hl⟩ hS (ItemsOf.nil _) fun s' acc' c' hm hS' hacc => ?_⟩
  rw [Moved.eq_with hm]
  refine hR s'.heap s'.toks acc' c' (fun b o b1 b2 e => hm.heap b o (fun z => ?_) e) hS' hacc
  rcases List.mem_cons.mp z with q | q
  · exact b1 q
  · exact b2 (List.mem_singleton.mp q)
theorem call_list_rev {it l : Addr} {items : Array Value} {Q : Value → Shared → Prop} (hh : A.handled = none)
    (hit : s.heap.IsRevIter it l ((items.size : Int) - 1)) (hl : s.heap.IsList l items) (hne : l ≠ it) (hn : items.size ≤ sizeLine)
    (hQ : ∀ h' tk acc c, (∀ b o, b ≠ it → s.heap.get? b = some o → h'.get? b = some o) →
      h'.get? s.heap.objs.size = some { cls := .type "list", dict := none, data := .seq acc c, slots := #[] } → FromEnd items acc → Q (.ref s.heap.objs.size) { s with heap := h', toks := tk }) :
    wpAny (model prog w) A (call (.type "list") [.ref it]) Q E s := by
  obtain ⟨oi, hoi, _⟩ := id hit
  obtain ⟨ol, hol, _⟩ := id hl
  refine callType_codes (Q₁ := fun obj s₁ => obj = .ref s.heap.objs.size ∧ s₁ = { s with heap := s.heap.push nilL }) PySem.F.called_list (PySem.F.typeCall_list_1 _) PySem.F.entry_list_init (code_list_new _ ⟨rfl, rfl⟩) fun obj s₁ h₁ => ?_
  obtain ⟨rfl, rfl⟩ := h₁
  have hS : (s.heap.push nilL).get? s.heap.objs.size = some nilL := Heap.get?_push_size _ rfl
  refine ⟨⟨_, hS, rfl⟩, PySem.F.args_list_init_2 _ _, ?_⟩
  show wpAny _ _ (do let old ← Builtin.List.listItems (.ref s.heap.objs.size); Builtin.List.listUpdate (.ref s.heap.objs.size) (fun _ => #[]); letGo old.toList.reverse; Builtin.List.listExtendWith (.ref s.heap.objs.size) (.ref it) .none) _ _ _
  refine wpAny_bind ?_
  unfold Builtin.List.listItems
  refine wpAny_bind <| wpAny_seqItems hS rfl <| wpAny_pure ?_
  show wpAny _ _ (updateSeq s.heap.objs.size (fun _ => #[]) >>= fun _ => letGo (#[] : Array Value).toList.reverse >>= fun _ => Builtin.List.listExtendWith (.ref s.heap.objs.size) (.ref it) .none) _ _ _
  refine wpAny_bind <| wpAny_updateSeq hS rfl ?_
  have hS2 := Heap.get?_update_self (Obj.mapSeq (fun _ => (#[] : Array Value))) hS rfl
  have ni : s.heap.objs.size ≠ it := Nat.ne_of_gt (Heap.lt_size hoi)
  have nl : s.heap.objs.size ≠ l := Nat.ne_of_gt (Heap.lt_size hol)
  have oth : ∀ b o, b ≠ s.heap.objs.size → s.heap.get? b = some o → ((s.heap.push nilL).update s.heap.objs.size (Obj.mapSeq (fun _ => (#[] : Array Value)))).get? b = some o :=
    fun b o hb e => (Heap.get?_update_other _ _ (Ne.symm hb)).trans (Heap.get?_push_of_some _ e)
  refine wpAny_bind <| wpAny_letGo ?_
  refine ext_rev (A := A.in1) (l := l) hh (hit.at fun o e => oth it o (Ne.symm ni) e) (hl.at fun o e => oth l o (Ne.symm nl) e) hne hn ni nl hS2 fun h' tk acc c hk hS' hacc => ⟨rfl, ?_⟩
  exact hQ h' tk acc c (fun b o hb e => hk b o (Nat.ne_of_lt (Heap.lt_size e)) hb (oth b o (Nat.ne_of_lt (Heap.lt_size e)) e)) hS' hacc
end
end Fb
namespace Fb
open PySem PySem.Spec PyProof.Rows L2
section
variable {X : Cx}
/-- list(reversed(e)), e a list -/
def tListRev (K : PySem.W.Frag) (te : TE) : TE := fun σ H Q => te σ H fun v H1 => ∃ (a : Addr) (xs : List V), v = .ref a ∧ SqL K H1 a xs ∧ ∀ q, H1 q = none → Q (.ref q) (upd H1 q (.lst xs.reverse))
theorem pe_listRev {e : Expr} {te : TE} {p p2 pos pos2 : Pos} (hc : X.calm = true) (hg : Gl X "list") (hm : X.mg "list" = none) (hg2 : Gl X "reversed") (hm2 : X.mg "reversed" = none) (he : PE X e te)
    (hs : starEach [e] X.env = (false, eval e X.env) :: starEach [] X.env := by rfl)
    (hs2 : starEach [.Call (.Name "reversed" p2) [e] [] pos2] X.env = (false, eval (.Call (.Name "reversed" p2) [e] [] pos2) X.env) :: starEach [] X.env := by rfl) :
    PE X (.Call (.Name "list" p) [.Call (.Name "reversed" p2) [e] [] pos2] [] pos) (tListRev X.K te) := by
  refine ⟨fun pins s σ H Q I h => ?_⟩
  refine Call_ (ld_blt I hg hm boot_list (callWith_type1 (args_cons (Call_ (ld_blt I hg2 hm2 boot_reversed (callWith_type1 (args_cons (thn (he.run pins s σ H _ I h) fun u s1 ⟨v, H1, I1, r1, q1⟩ => args_nil ?_) hs) hs rfl))) hs2) hs2 rfl))
  obtain ⟨a, xs, ev, hq, q⟩ := q1
  subst ev
  obtain rfl : u = Value.ref a := r1
  obtain ⟨its, rv, pl, hz⟩ := I1.list hq
  refine call_reversed_list pl.isList (args_nil ?_)
  have I2 : Inv X pins σ H1 { s1 with heap := s1.heap.push (revObj a ((its.toArray.size : Int) - 1)) } := I1.kept (t' := s1.toks) fun b o e => Heap.get?_push_of_some _ e
  obtain ⟨f0, f1, f2, f3, f4, f5⟩ := I1.fpOk (H' := H1) (b := s1.heap.objs.size) (Nat.le_refl _) (I1.hok.fresh (Nat.le_refl _))
  have hl := pl.isList
  obtain ⟨ol, hol, _⟩ := id hl
  have hne : a ≠ s1.heap.objs.size := Nat.ne_of_lt (Heap.lt_size hol)
  have hn : its.toArray.size ≤ sizeLine := by rw [List.size_toArray, ← rv.length]; exact hz
  refine call_list_rev (s := { s1 with heap := s1.heap.push (revObj a ((its.toArray.size : Int) - 1)) }) (I1.ok.hd hc) ⟨_, Heap.get?_push_size _ rfl, rfl, rfl⟩ (hl.push _) hne hn fun h' tk acc c hk hS' hacc => ?_
  have fr : H1 (s1.heap.objs.size + 1) = none := I1.hok.fresh (Nat.le_succ _)
  have sz : (s1.heap.push (revObj a ((its.toArray.size : Int) - 1))).objs.size = s1.heap.objs.size + 1 := by simp [Heap.push]
  have I3 := I2.laid (t' := tk) (a := s1.heap.objs.size + 1) (o := .lst xs.reverse)
    (h' := (s1.heap.push (revObj a ((its.toArray.size : Int) - 1))).push { cls := .type "list", dict := none, data := .seq acc c, slots := #[] })
    (fun b o e => Heap.get?_push_of_some _ e) (Nat.le_of_eq sz)
    (show ObjOk X.prog X.w _ _ _ (.lst xs.reverse) from ⟨by rw [List.length_reverse]; exact hz, acc.toList, c, RT.vals_rev rv hacc, by
      rw [← sz, Array.toArray_toList]
      exact Heap.get?_push_size _ rfl⟩)
  have nit : s1.heap.objs.size ≠ s1.heap.objs.size + 1 := Nat.ne_of_lt (Nat.lt_succ_self _)
  have I4 := I3.turned (t' := tk) (it := s1.heap.objs.size) (h' := h') (fun b o hb e => ?_) (by rw [upd_ne nit]; exact f0) f1 f3 f4 f5
  · refine ⟨.ref (s1.heap.objs.size + 1), _, I4, ?_, q _ fr⟩
    exact congrArg Value.ref sz
  · rcases Heap.get?_push_cases e with ⟨eb, eo⟩ | e2
    · subst eb
      subst eo
      exact hS'
    · exact hk b o hb e2
end
end Fb
set_option Elab.async false
set_option linter.all false
set_option maxRecDepth 100000
set_option maxHeartbeats 2000000
namespace Fb
open PySem PySem.Spec PyProof.Rows L2
/-! ### calls without arguments; repr of a plain value -/
section
variable {X : Cx} {k j : Nat} {x : Str} {sp : Sp} {dvs : List V} {p pos : Pos}
theorem pe_c0 (c : C8.Cal X.prog X.w X.K X.mg X.base k x sp dvs) (hr : Room j X.A) (hk : k ≤ j) (hg : Gl X x) (hdb : (x == ("__debug__" : Str)) = false := by decide) :
    PE X (.Call (.Name x p) [] [] pos) (tCall sp dvs E0 tNil) := by
  obtain ⟨f, fd, ps, ds, F, hm, kp, b, d⟩ := c.ex
  exact pe_call0 F (hr.mono hk) hg hm kp b d pass0 hdb
def tf (b : Bool) : Str := if b then "True" else "False"
def rRepr0 : List V → Hp → VK → Prop := fun xs H Q => (∃ b, xs = [.bl b] ∧ Q (.str (tf b)) H) ∨ ∃ i, xs = [.int i] ∧ i.natAbs.log2 < 1920 ∧ Q (.str (toString i)) H
theorem call_repr0 : CallR X (.builtin "repr") rRepr0 := by
  intro pins s σ H xs us Q I r h
  rcases h with ⟨b, rfl, q⟩ | h
  · obtain ⟨u, rfl, rx⟩ := vals1 r
    cases rx
    exact PySem.P.repr_of_bool ⟨.str _, H, I.tok _, ⟨_, rfl⟩, q⟩
  · obtain ⟨i, rfl, hz, q⟩ := h
    obtain ⟨u, rfl, t, rfl⟩ := vals1 r
    exact PySem.P.repr_of_int hz ⟨V.str _, H, I.tok _, ⟨_, rfl⟩, q⟩
end
/-! ### heaps -/
theorem same_new {H : Hp} {p : Addr} {o : HO} (h : H p = none) : Same H (upd H p o) := fun b x e => by
  rw [upd_ne (ne_of_none e h)]
  exact e
/-! ### the deal: a dict of three -/
def dealD (s n : Int) (l : Addr) : List (Key × V) := [(.inr "seed", .int s), (.inr "number", .int n), (.inr "left", .ref l)]
abbrev kx (x : Str) : Key := .inr x
theorem ne_sn : ¬ (kx "seed" = kx "number") := by decide +kernel
theorem ne_sl : ¬ (kx "seed" = kx "left") := by decide +kernel
theorem ne_nl : ¬ (kx "number" = kx "left") := by decide +kernel
section
variable {s n x : Int} {l d : Addr} {H : Hp}
theorem v_seed : valV (dealD s n l) (.inr "seed") = some (.int s) := valV_pos rfl
theorem v_number : valV (dealD s n l) (.inr "number") = some (.int n) := (valV_neg ne_sn).trans (valV_pos rfl)
theorem v_left : valV (dealD s n l) (.inr "left") = some (.ref l) := (valV_neg ne_sl).trans ((valV_neg ne_nl).trans (valV_pos rfl))
theorem p_seed : putK (dealD s n l) (.inr "seed") (.int x) = dealD x n l := by
  have a : ¬ (kx "number" = kx "seed") := fun e => ne_sn e.symm
  have b : ¬ (kx "left" = kx "seed") := fun e => ne_sl e.symm
  simp [putK, dealD, a, b]
theorem p_number : putK (dealD s n l) (.inr "number") (.int x) = dealD s x l := by
  have a := ne_sn
  have b : ¬ (kx "left" = kx "number") := fun e => ne_nl e.symm
  simp [putK, dealD, a, b]
theorem g_seed (h : H d = some (.dK (dealD s n l))) : DGet H d (.str "seed") (some (.int s)) := by
  have z := DGet.k (k := Sum.inr "seed") h
  rw [v_seed] at z
  exact z
theorem g_number (h : H d = some (.dK (dealD s n l))) : DGet H d (.str "number") (some (.int n)) := by
  have z := DGet.k (k := Sum.inr "number") h
  rw [v_number] at z
  exact z
theorem g_left (h : H d = some (.dK (dealD s n l))) : DGet H d (.str "left") (some (.ref l)) := by
  have z := DGet.k (k := Sum.inr "left") h
  rw [v_left] at z
  exact z
theorem u_seed (h : H d = some (.dK (dealD s n l))) : DPut H d (.str "seed") (.int x) (upd H d (.dK (dealD x n l))) := by
  refine .inl ⟨dealD s n l, .inr "seed", h, rfl, ?_, ?_⟩
  · show 3 < sizeLine
    exact small1000 (by decide)
  · rw [p_seed]
theorem u_number (h : H d = some (.dK (dealD s n l))) : DPut H d (.str "number") (.int x) (upd H d (.dK (dealD s x l))) := by
  refine .inl ⟨dealD s n l, .inr "number", h, rfl, ?_, ?_⟩
  · show 3 < sizeLine
    exact small1000 (by decide)
  · rw [p_number]
end
/-- a deal stands at d, its list at l -/
def DealX (H : Hp) (d l : Addr) (s n : Int) (ns : List Int) : Prop :=
  H d = some (.dK (dealD s n l)) ∧ H l = some (.lst (ns.map V.int)) ∧ 0 ≤ s ∧ s < 2147483648 ∧ 0 ≤ n ∧ ∀ x ∈ ns, 0 < x
def DealAt (H : Hp) (d l : Addr) : Prop := ∃ s n ns, DealX H d l s n ns
/-- all else stays -/
def Keep (d l : Addr) (H H' : Hp) : Prop := ∀ b o, H b = some o → b ≠ d → b ≠ l → H' b = some o
theorem Keep.refl (d l : Addr) (H : Hp) : Keep d l H H := fun _ _ e _ _ => e
theorem Keep.trans {d l : Addr} {H H1 H2 : Hp} (a : Keep d l H H1) (b : Keep d l H1 H2) : Keep d l H H2 := fun c o e h1 h2 => b c o (a c o e h1 h2) h1 h2
theorem Keep.of {d l : Addr} {H H' : Hp} (s : Same H H') : Keep d l H H' := fun b o e _ _ => s b o e
theorem Keep.upd {d l p : Addr} {H H' : Hp} {o : HO} (k : Keep d l H H') (hp : H p = none) : Keep d l H (upd H' p o) := fun b x e h1 h2 => by
  rw [upd_ne (ne_of_none e hp)]
  exact k b x e h1 h2
theorem Keep.at_d {d l : Addr} {H H' : Hp} {o : HO} (k : Keep d l H H') : Keep d l H (L2.upd H' d o) := fun b x e h1 h2 => by
  rw [upd_ne h1]
  exact k b x e h1 h2
theorem Keep.at_l {d l : Addr} {H H' : Hp} {o : HO} (k : Keep d l H H') : Keep d l H (L2.upd H' l o) := fun b x e h1 h2 => by
  rw [upd_ne h2]
  exact k b x e h1 h2
theorem DealX.ne {H : Hp} {d l : Addr} {s n : Int} {ns : List Int} (h : DealX H d l s n ns) : d ≠ l := ne_of h.1 h.2.1 (by intro z; cases z)
theorem DealX.same {H H' : Hp} {d l : Addr} {s n : Int} {ns : List Int} (h : DealX H d l s n ns) (e : Same H H') : DealX H' d l s n ns := ⟨e _ _ h.1, e _ _ h.2.1, h.2.2⟩
theorem DealAt.same {H H' : Hp} {d l : Addr} (h : DealAt H d l) (e : Same H H') : DealAt H' d l := let ⟨s, n, ns, z⟩ := h; ⟨s, n, ns, z.same e⟩
theorem DealAt.d_ne {H : Hp} {d l p : Addr} (h : DealAt H d l) (hp : H p = none) : p ≠ d := let ⟨_, _, _, z⟩ := h; (ne_of_none z.1 hp).symm
theorem DealAt.l_ne {H : Hp} {d l p : Addr} (h : DealAt H d l) (hp : H p = none) : p ≠ l := let ⟨_, _, _, z⟩ := h; (ne_of_none z.2.1 hp).symm
theorem DealAt.upd {H : Hp} {d l p : Addr} {o : HO} (h : DealAt H d l) (h1 : p ≠ d) (h2 : p ≠ l) : DealAt (L2.upd H p o) d l := let ⟨s, n, ns, z⟩ := h; ⟨s, n, ns, by rw [upd_ne h1.symm]; exact z.1, by rw [upd_ne h2.symm]; exact z.2.1, z.2.2⟩
/-- a draw below many -/
def spDraw : Sp := fun vs H Q _ => ∃ (d l : Addr) (many : Int), vs = [.ref d, .int many] ∧ DealAt H d l ∧ 0 < many ∧ many < 4611686018427387904 ∧
  ∀ (r : Int) (H' : Hp), 0 ≤ r → r < many → DealAt H' d l → Keep d l H H' → Q (.int r) H'
def spDeal (K : PySem.W.Frag) : Sp := fun vs H Q _ => ∃ (a : Addr) (ns : List Int), vs = [.ref a] ∧ SqL K H a (ns.map V.int) ∧ ns.length ≤ 63 ∧
  ∀ (d l : Addr) (H' : Hp), H d = none → H l = none → DealAt H' d l → Same H H' → Q (.ref d) H'
theorem merge_deal {s n : Int} {l : Addr} : mergeK [] (dealD s n l) = dealD s n l := by
  have a := ne_sn
  have b := ne_sl
  have c := ne_nl
  simp [mergeK, putK, dealD, a, b, c]
theorem cut_ints (ns : List Int) (lo hi : Option Int) : ∃ ms : List Int, cutV (ns.map V.int) lo hi = ms.map V.int ∧ ms.length ≤ ns.length := by
  refine ⟨(ns.drop (HT.sIx (ns.map V.int).length 0 lo)).take (HT.sIx (ns.map V.int).length (ns.map V.int).length hi - HT.sIx (ns.map V.int).length 0 lo), ?_, ?_⟩
  · rw [cutV, List.map_take, List.map_drop]
  · rw [List.length_take, List.length_drop]
    omega
theorem int_at {ns : List Int} {i : Nat} {x : V} (h : (ns.map V.int)[i]? = some x) : ∃ z, x = .int z ∧ z ∈ ns := by
  rw [List.getElem?_map] at h
  cases e : ns[i]? with
  | none =>
    rw [e] at h
    cases h
  | some z =>
    rw [e] at h
    exact ⟨z, (Option.some.inj h).symm, List.mem_of_getElem? e⟩
theorem snoc_ints (zs : List Int) (z : Int) : zs.map V.int ++ [V.int z] = (zs ++ [z]).map V.int := by
  rw [List.map_append]
  rfl
theorem divW {i j : Int} (h : 0 < j) (h2 : j < 4611686018427387904) : CDivW i j := wide_div (b := 64) h (by omega) (by decide) (by decide)
theorem mulS {i j : Int} (h : 0 ≤ i) (h2 : i < 4611686018427387904) : CMul i j := .inl ⟨by omega, by omega⟩
theorem mod_lo {a b : Int} (h : 0 < b) : 0 ≤ a % b := Int.emod_nonneg a (by omega)
theorem mod_hi {a b : Int} (h : 0 < b) : a % b < b := Int.emod_lt_of_pos a h
theorem nest (a b : Int) : (if b > a then b else a) = max a b := by
  by_cases h : b > a
  · rw [if_pos h]; omega
  · rw [if_neg h]; omega
end Fb
set_option Elab.async false
set_option linter.all false
set_option maxRecDepth 100000
set_option maxHeartbeats 2000000
namespace Fb
open PySem PySem.W PySem.Calls PyProof.Rows L2
/-- a def as the top has left it -/
def Has (K : PySem.W.Frag) (mg : Str → Option Value) (x : Str) (st : Stmt) : Prop := ∃ f fd, L2.Fun K x x st f fd ∧ mg x = some (.ref f)
def Cn (mg : Str → Option Value) (x : Str) (v : V) : Prop := ∃ u, mg x = some u ∧ RelV v u
theorem has_mk {K : PySem.W.Frag} {mg : Str → Option Value} {h : Heap} {x : Str} {st : Stmt} {f : Addr} {oc : Value} {od an : Option Addr} {sl : Array (Option Value)} {kV dc pm cd ct : Value} (X : K.In h) (G : h.Ns mainGlobals mg)
    (a : nsIn K mainGlobals x = some (some (.ref f))) (l : K.lookup f = some ⟨oc, od, .func (fnOf x x (defArgs st) (defBody st) (defScope st) .none kV dc pm an cd ct), sl⟩) (c : codeIn K cd x = true) (k : keepIn K (.ref f) = true) : Has K mg x st :=
  ⟨f, _, fun_mk l c k, mg_of X G a⟩
theorem rel_abs {u : Value} {v : V} (h : absV u = some v) : RelV v u := by
  cases u with
  | none => cases h; rfl
  | bool b => cases h; rfl
  | int i t => cases h; exact ⟨t, rfl⟩
  | str x t => cases h; exact ⟨t, rfl⟩
  | bytes b t => cases h; exact ⟨t, rfl⟩
  | float b t => cases h; exact ⟨t, rfl⟩
  | ref a => cases h; rfl
  | type n => cases h; rfl
  | _ => cases h
theorem vals_abs : ∀ {us : List Value} {vs : List V}, us.map absV = vs.map some → Vals vs us
  | [], [], _ => .nil
  | [], _ :: _, h => by cases h
  | _ :: _, [], h => by cases h
  | u :: us, v :: vs, h => by
    rw [List.map_cons, List.map_cons] at h
    injection h with h1 h2
    exact .cons (rel_abs h1) (vals_abs h2)
theorem tup_in {K : PySem.W.Frag} {a : Addr} {od : Option Addr} {its : Array Value} {n : Nat} {sl : Array (Option Value)} {xs : List V} (l : K.lookup a = some ⟨.type "tuple", od, .seq its n, sl⟩) (z : its.size ≤ 1000) (e : its.toList.map absV = xs.map some) (H : Hp) : SqT K H a xs :=
  .inr ⟨_, its, n, l, rfl, rfl, Nat.le_of_lt (small1000 z), vals_abs e⟩
theorem cn_in {K : PySem.W.Frag} {mg : Str → Option Value} {h : Heap} {x : Str} {u : Value} {v : V} (X : K.In h) (G : h.Ns mainGlobals mg) (a : nsIn K mainGlobals x = some (some u)) (e : absV u = some v) : Cn mg x v := ⟨u, mg_of X G a, rel_abs e⟩
theorem cn_loose {p : Program} {lv : List (Str × WData)} {mg : Str → Option Value} {h : Heap} {x : Str} {n : Int} (X : XL p lv mg h) (m : (x, WData.int n) ∈ lv) : Cn mg x (.int n) := by
  obtain ⟨v, a, r⟩ := X.2.val _ m
  cases r
  exact ⟨_, a, ⟨_, rfl⟩⟩
/-- the end of a law, with what the top has reckoned told -/
theorem walk_X {l : OpenLaw} {n k : Nat} {q : Program} {loose : List Str} {XP : (Str → Option Value) → Heap → Prop} {YP : World → Heap → Prop} {d : DefRec} {K : Params → Frag} {sp : World → Sp} {x : Str}
    (hn : l.most = some n) (hn2 : n ≤ sizeLine) (hdf : d.params.defaults = []) (hr : Room k callerA) (hY : ∀ (w : World) (h : Heap), YP w h → (K w.params).In h)
    (F : ∀ (w : World) (mg : Str → Option Value) (fa : Addr) (h : Heap), (K w.params).In h → h.Ns mainGlobals mg → XP mg h → mg d.name = some (.ref fa) →
      ∃ fd : FuncData, (∀ (s : Shared) (u : Value), BindsTo s fd ⟨[u], []⟩ [(x, u)]) ∧ ∀ base : Heap, (K w.params).In base → base.Ns mainGlobals mg → FnOk l.prog w (K w.params) mg base CX0 k fa fd [x] (sp w))
    (hsp : ∀ (w : World) (H : Hp) (a : Addr) (ns : List Int), ns.length ≤ n → SqL (K w.params) H a (ns.map V.int) → sp w [.ref a] H (fun v _ => v = .bl true) fun _ _ _ => False) :
    WalkO q loose XP YP l.row.toRowW d [] (fun f vs => PySem.call f vs) := by
  refine Att.attach_call hn hdf fun w s₀ s₁ mg mb fa o pm cd doc a vs ns G Y ho hd hcd hmg hobj hints hlen hg => ?_
  obtain ⟨fd, hb, hF⟩ := F w mg fa _ (hY w _ Y) G.T.g G.X hmg
  exact law_call (hY w _ Y) G.T.g G.T.b G.T.builtins G.T.nolimit hg hobj hints (Nat.le_trans hlen hn2) hr hF hb (fun H _ hS => hsp w H a ns hlen hS) fun H e s' z => z
end Fb
set_option Elab.async false
set_option linter.all false
set_option maxRecDepth 100000
set_option maxHeartbeats 2000000
namespace Fb
open PySem PySem.Spec PyProof.Rows L2
/-! ### a def that is called where nothing is being shown (no repr is under way) -/
structure FnG (P : Program) (w : World) (K : PySem.W.Frag) (mg : Str → Option Value) (base : Heap) (k : Nat) (f : Addr) (fd : FuncData) (ps : List Str) (sp : Sp) : Prop where
  len : ∀ vs H Q E, sp vs H Q E → vs.length = ps.length
  run : ∀ (A : Around) (outer : List Env) (s : Shared) (H : Hp) (args : Args) (us : List Value) (vs : List V) (Q : VK) (E : XK), A.guards = some [] → Room k A →
    Env0 P w K mg base A outer s H → BindsTo s fd args (ps.zip us) → Vals vs us → sp vs H Q E → codeAny (model P w) A (.call (.ref f) args) (CR CX0 outer P w H s Q E) s
section
variable {P : Program} {w : World} {K : PySem.W.Frag} {mg : Str → Option Value} {base : Heap}
theorem ok_G {x qual : Str} {st : Stmt} {f : Addr} {fd : FuncData} {N ps : List Str} {k : Nat} {sp : Sp} (F : L2.Fun K x qual st f fd) (S : FnScope N ps (defScope st)) (len : ∀ vs H Q E, sp vs H Q E → vs.length = ps.length)
    (walk : ∀ (cdv : Value) (A : Around) (outer : List Env) (s : Shared) (H : Hp) (vs : List V) (Q : VK) (E : XK), (A.deeper (envOfC qual (defScope st) s.heap.objs.size f cdv)).guards = some [] → Room k (A.deeper (envOfC qual (defScope st) s.heap.objs.size f cdv)) → sp vs H Q E →
      ∃ t, PSs (cxOf CX0 P w K mg base N qual (defScope st) f cdv A outer s H E).nox (defBody st) t ∧ t { nx := fun _ H' => Q .non H', rt := Q } (start N vs) H) : FnG P w K mg base (k + 1) f fd ps sp := by
  obtain ⟨oc, od, kV, dc, pm, an, cdv, ct, osl, rfl, lk, hcd⟩ := F.ex
  refine ⟨len, fun A outer s H args us vs Q E gd hr e0 hb r hs0 => ?_⟩
  have hl := len _ _ _ _ hs0
  have kIn : K.In s.heap := e0.mod.kin.keeps fun b o e => (e0.bs b o e).1
  have nolim : s.heap.NoLimit := e0.mod.nolimit.keeps fun b o e => (e0.bs b o e).1
  have kinds : ∀ y ∈ ps.zip us, (defScope st).names.lookup y.1 = some .local ∨ ((defScope st).names.lookup y.1 = some .cell ∧ ((cellsFrom (s.heap.objs.size + 1) (defScope st).names []).lookup y.1).isSome = true) := fun ⟨n, v⟩ hy => by
    rcases S.par n (List.of_mem_zip hy).1 with z | z
    · exact .inl z
    · exact .inr ⟨z, PySem.W.cellsFrom_some _ _ _ (.inl z)⟩
  refine codeAny_call_function hr.depth (kIn _ _ lk) rfl S.co S.gen rfl (PySem.W.codeRec_of kIn hcd) (hb _ _ _ _ ?_)
  refine wpAny_newFunctionEnv_cells S.kind kinds fun env he s1 y => ?_
  subst he
  refine ⟨nolim.keeps y.toInCall.keep, codeAny_func ?_⟩
  obtain ⟨t, ht, hq⟩ := walk cdv A outer s H vs Q E gd (hr.deeper _) hs0
  have I0 : Inv (cxOf CX0 P w K mg base N qual (defScope st) f cdv A outer s H E) [] (start N vs) H s1 := inv_start S hr.hd e0 hl r y
  refine wpAny_mono (ht.nox.run [] s1 (start N vs) H _ I0 hq) (fun fl s' z => ?_) fun e s' z => z
  have out : ∀ {σ' : L2.St} {H' : Hp} {v : V} {u : Value}, Inv (cxOf CX0 P w K mg base N qual (defScope st) f cdv A outer s H E) [] σ' H' s' → RelV v u → Q v H' → CE outer P w H s Q u s' := fun {σ' H' v u} J rv q => ⟨v, H', J.os, J.bare, J.base, J.hok, rv, q⟩
  cases fl with
  | ret u =>
    obtain ⟨v, σ', H', J, rv, q⟩ := z
    exact out J rv q
  | next =>
    obtain ⟨σ', H', J, q⟩ := z
    exact out (v := V.non) (u := Value.none) J rfl q
  | brk =>
    obtain ⟨_, _, _, q⟩ := z
    exact q.elim
  | cont =>
    obtain ⟨_, _, _, q⟩ := z
    exact q.elim
end
/-- a def under its name, where nothing is being shown -/
structure CalG (P : Program) (w : World) (K : PySem.W.Frag) (mg : Str → Option Value) (base : Heap) (k : Nat) (x : Str) (sp : Sp) : Prop where
  ex : ∃ (f : Addr) (fd : FuncData) (ps : List Str), FnG P w K mg base k f fd ps sp ∧ mg x = some (.ref f) ∧ PySem.W.keepIn K (.ref f) = true ∧ Binds K fd ps []
section
variable {X : Cx} {k j : Nat} {x : Str} {sp : Sp} {p pos : Pos} {e : Expr} {es : List Expr} {t : TA}
theorem pe_cG (c : CalG X.prog X.w X.K X.mg X.base k x sp) (gd : X.A.guards = some []) (hr : Room j X.A) (hk : k ≤ j) (hg : Gl X x) (ha : PA X (e :: es) t) (hdb : (x == ("__debug__" : Str)) = false := by decide)
    (he : starEach (e :: es) X.env = (false, eval e X.env) :: starEach es X.env := by rfl) (hpl : (backTo pos (starEach es X.env)).any (·.1) = false := by rfl) : PE X (.Call (.Name x p) (e :: es) [] pos) (tCall sp [] E0 t) := by
  obtain ⟨f, fd, ps, F, hm, kp, b⟩ := c.ex
  refine ⟨fun pins s σ H Q I h => ?_⟩
  refine wpAny_Call_Name_kw (ld_glob I hg hm ?_ hdb)
  refine PySem.W.callWith_K (h₀ := X.base) I.ok.mod.kin kp (thn (ha.run pos pins s σ H _ I h) fun us s1 ⟨vs, H1, I1, r, q⟩ => ⟨I1.kIn, ?_⟩) he hpl
  have q2 : sp vs H1 Q E0 := by have z : sp (vs ++ []) H1 Q E0 := q; rw [List.append_nil] at z; exact z
  have hl : us.length = ps.length := by rw [← r.length]; exact F.len _ _ _ _ q2
  refine wpAny_call (codeAny_mono (F.run X.A X.stack s1 H1 ⟨us, []⟩ us vs Q E0 gd (hr.mono hk) I1.env0 (by have z := b s1 us I1.kIn (by rw [List.append_nil]; exact hl); rw [List.append_nil] at z; exact z) r q2) fun r' s' hq => ?_)
  cases r' with
  | error e => exact hq.elim
  | ok fl =>
    cases fl with
    | ret u => exact I1.after hq
    | next => exact hq.elim
    | brk => exact hq.elim
    | cont => exact hq.elim
/-- repr of data at any depth -/
def rReprD (K : PySem.W.Frag) : List V → Hp → VK → Prop := fun xs H Q => ∃ (a : Addr) (d : PyData), xs = [.ref a] ∧ Dp K H (.ref a) d ∧ d.showable = true ∧ d.hasDict = false ∧ d.depth ≤ 60 ∧ d.shown.length ≤ sizeLine ∧ Q (.str d.shown) H
theorem call_reprD (gd : X.A.guards = some []) (hu : X.A.units + 64 < cLine) : CallR X (.builtin "repr") (rReprD X.K) := by
  intro pins s σ H xs us Q I r h
  obtain ⟨a, d, rfl, hd, h1, h2, h3, h4, q⟩ := h
  obtain ⟨u, rfl, rx⟩ := vals1 r
  obtain ⟨as, rd⟩ := Dp.reads I d _ _ hd rx
  obtain rfl : u = Value.ref a := rx
  refine repr_of_reads' (h₀ := s.heap) rd h1 (fun z => by rw [h2] at z; cases z) gd (by omega) (fun _ _ e => e) (fun h' u tk hk => ?_) h4
  exact ⟨V.str _, H, I.kept (t' := tk) hk, ⟨_, rfl⟩, q⟩
end
end Fb
namespace Fb
open PySem PySem.W PySem.Calls PyProof.Rows L2
/-- the law's own call, where nothing is being shown -/
theorem law_G {P : Program} {w : World} {K : Frag} {mg mb : Str → Option Value} {k : Nat} {fa a : Addr} {fd : FuncData} {x : Str} {sp : Sp} {s₁ : Shared} {vs : List Value} {ns : List Int}
    (KX : K.In s₁.heap) (hns : s₁.heap.Ns mainGlobals mg) (hb : s₁.heap.Ns builtinsNs mb) (hbb : ∀ x : Str, x ≠ "__name__" → mb x = bootBuiltins x) (hlim : s₁.heap.NoLimit) (hg : s₁.gens = #[])
    (ha : s₁.heap.get? a = some { cls := .type "list", data := .seq vs.toArray }) (hi : IntsAre vs ns) (hl : ns.length ≤ sizeLine) (hr : Room k callerA)
    (F : ∀ base : Heap, K.In base → base.Ns mainGlobals mg → FnG P w K mg base k fa fd [x] sp) (hbind : ∀ (s : Shared) (u : Value), BindsTo s fd ⟨[u], []⟩ [(x, u)])
    (hsp : ∀ H : Hp, SqL K H a (ns.map V.int) → sp [.ref a] H (fun v _ => v = .bl true) fun _ _ _ => False) :
    codeAny (model P w) callerA (.call (.ref fa) ⟨[.ref a], []⟩) (fun r s' => r = .ok (.ret (.bool true)) ∧ OldK s₁.heap s'.heap ∧ s'.os = s₁.os ∧ AllBare s'.gens) s₁ := by
  have rv := vals_ints hi
  have lv := hi.length
  have core : ∀ H : Hp, Only H → SqL K H a (ns.map V.int) → HOk P w H s₁.heap → (∀ b, H b ≠ none → b = a) → (H a ≠ none → K.lookup a = none) →
      codeAny (model P w) callerA (.call (.ref fa) ⟨[.ref a], []⟩) (fun r s' => r = .ok (.ret (.bool true)) ∧ OldK s₁.heap s'.heap ∧ s'.os = s₁.os ∧ AllBare s'.gens) s₁ := by
    intro H0 hO hS hok hA hK
    have tracked : ∀ {b : Addr} {u : HO}, H0 b = some u → b = a := fun {b u} q => hA b (by rw [q]; simp)
    have hid : ∀ {b : Addr} {o : Obj}, s₁.heap.get? b = some o → H0 b = none → (hidT s₁.heap H0).get? b = some o := fun e n => hidT_get e n
    have noD : ∀ {b : Addr} {o : Obj} {es : Array DictEntry} {ep : Nat}, s₁.heap.get? b = some o → o.data = .dict es ep → H0 b = none := fun {b o es ep} e dt => by
      cases q : H0 b with
      | none => rfl
      | some u =>
        obtain rfl := tracked q
        rw [ha] at e; cases e
        have z : Data.seq vs.toArray _ = Data.dict es ep := dt
        cases z
    have nsK : ∀ {b : Addr} {m : Str → Option Value}, s₁.heap.Ns b m → (hidT s₁.heap H0).Ns b m := fun {b m} ⟨o, es, ep, e, dt, r⟩ => ⟨o, es, ep, hid e (noD e dt), dt, r⟩
    have kIn : K.In (hidT s₁.heap H0) := fun b o e => hid (KX b o e) (by
      cases q : H0 b with
      | none => rfl
      | some u =>
        obtain rfl := tracked q
        rw [hK (by rw [q]; simp)] at e; cases e)
    have md : Mod K mg (hidT s₁.heap H0) := ⟨kIn, nsK hns, ⟨mb, nsK hb, hbb⟩, let ⟨mc, h1, h2⟩ := hlim; ⟨mc, nsK h1, h2⟩⟩
    have env : Env0 P w K mg (hidT s₁.heap H0) callerA [] s₁ H0 := ⟨rfl, md, fun b o e => of_hidT e, Nat.le_of_eq (hidT_size _ _), trivial, fun b z => absurd (show b ∈ ([] : List Addr) from z) (by simp), hok, .of_eq hg⟩
    refine codeAny_mono ((F _ kIn (nsK hns)).run callerA [] s₁ H0 ⟨[.ref a], []⟩ [.ref a] [.ref a] _ _ rfl hr env (hbind s₁ (.ref a)) (.cons rfl .nil) (hsp H0 hS)) fun r s' h => ?_
    cases r with
    | error e => exact h.elim
    | ok fl =>
      cases fl with
      | next => exact h.elim
      | brk => exact h.elim
      | cont => exact h.elim
      | ret u =>
        obtain ⟨v, H', os, bare, un, ok2, rl, q⟩ := h
        obtain rfl : v = .bl true := q
        obtain rfl : u = Value.bool true := rl
        refine ⟨rfl, OldK.of_keep fun b o e => ?_, os, bare⟩
        cases q : H0 b with
        | none => exact un.keep b o e q (fun z => absurd (show b ∈ ([] : List Addr) from z) (by simp)) (by simp)
        | some u =>
          rcases hO b with z | ⟨ob, xs, z⟩
          · rw [q] at z; cases z
          · obtain ⟨e1, _⟩ := hok b _ z
            obtain ⟨e2, _⟩ := ok2 b _ (un.frzs b ob _ z)
            rw [e] at e1; cases e1
            exact e2
  cases hk : K.lookup a with
  | some o =>
    have e := KX a o hk
    rw [ha] at e
    cases e
    exact core (fun _ => none) (fun _ => .inl rfl) (.inr ⟨_, vs.toArray, _, hk, rfl, rfl, rfl, by rw [List.size_toArray, lv]; exact hl, by simpa using rv⟩) (fun b u z => by have y : (none : Option HO) = some u := z; cases y) (fun b z => absurd rfl z) fun z => absurd rfl z
  | none =>
    refine core (fun b => if b = a then some (.frz { cls := .type "list", data := .seq vs.toArray } (.lst (ns.map V.int))) else none) (fun b => ?_) (.inl (.inr ⟨{ cls := .type "list", data := .seq vs.toArray }, if_pos rfl⟩)) (fun b u z => ?_) (fun b z => ?_) fun _ => hk
    · by_cases q : b = a
      · exact .inr ⟨_, _, if_pos q⟩
      · exact .inl (if_neg q)
    · by_cases q : b = a
      · have y := (if_pos q).symm.trans z
        cases y
        subst q
        exact ⟨ha, by rw [List.length_map]; exact hl, vs, _, rv, ha⟩
      · have y := (if_neg q).symm.trans z
        cases y
    · by_cases q : b = a
      · exact q
      · exact absurd (if_neg q) z
theorem walk_G {l : OpenLaw} {n k : Nat} {q : Program} {loose : List Str} {XP : (Str → Option Value) → Heap → Prop} {YP : World → Heap → Prop} {d : DefRec} {K : Params → Frag} {sp : World → Sp} {x : Str}
    (hn : l.most = some n) (hn2 : n ≤ sizeLine) (hdf : d.params.defaults = []) (hr : Room k callerA) (hY : ∀ (w : World) (h : Heap), YP w h → (K w.params).In h)
    (F : ∀ (w : World) (mg : Str → Option Value) (fa : Addr) (h : Heap), (K w.params).In h → h.Ns mainGlobals mg → XP mg h → mg d.name = some (.ref fa) →
      ∃ fd : FuncData, (∀ (s : Shared) (u : Value), BindsTo s fd ⟨[u], []⟩ [(x, u)]) ∧ ∀ base : Heap, (K w.params).In base → base.Ns mainGlobals mg → FnG l.prog w (K w.params) mg base k fa fd [x] (sp w))
    (hsp : ∀ (w : World) (H : Hp) (a : Addr) (ns : List Int), ns.length ≤ n → SqL (K w.params) H a (ns.map V.int) → sp w [.ref a] H (fun v _ => v = .bl true) fun _ _ _ => False) :
    WalkO q loose XP YP l.row.toRowW d [] (fun f vs => PySem.call f vs) := by
  refine Att.attach_call hn hdf fun w s₀ s₁ mg mb fa o pm cd doc a vs ns G Y ho hd hcd hmg hobj hints hlen hg => ?_
  obtain ⟨fd, hb, hF⟩ := F w mg fa _ (hY w _ Y) G.T.g G.X hmg
  exact law_G (hY w _ Y) G.T.g G.T.b G.T.builtins G.T.nolimit hg hobj hints (Nat.le_trans hlen hn2) hr hF hb (fun H hS => hsp w H a ns hlen hS)
end Fb
set_option Elab.async false
set_option linter.all false
set_option maxRecDepth 100000
set_option maxHeartbeats 2000000
namespace Fb
open PySem
/-! ### programs as trees; what is laid out of them -/
mutual
inductive Stm : Type
  | mk (w x : Str) (r : List PyData) (h : w = "let" ∨ w = "sum" ∨ w = "call")
  | no (w : Str) (r : List PyData) (h : w = "set" ∨ w = "tell" ∨ w = "give")
  | fn (x : Str) (ps : List Str) (b : Blk)
  | ite (a : PyData) (b1 b2 : Blk)
  | whl (a : PyData) (b : Blk)
  | tms (one : Bool) (x : Str) (a : PyData) (b : Blk)
inductive Blk : Type
  | nil
  | cons (s : Stm) (r : Blk)
end
def modeS (one : Bool) : Str := if one then "one" else "own"
mutual
def dS : Stm → PyData
  | .mk w x r _ => .tuple (.str w :: .str x :: r)
  | .no w r _ => .tuple (.str w :: r)
  | .fn x ps b => .tuple [.str "fn", .str x, .tuple (ps.map .str), .tuple (dB b)]
  | .ite a b1 b2 => .tuple [.str "if", a, .tuple (dB b1), .tuple (dB b2)]
  | .whl a b => .tuple [.str "while", a, .tuple (dB b)]
  | .tms one x a b => .tuple [.str "times", .str (modeS one), .str x, a, .tuple (dB b)]
def dB : Blk → List PyData
  | .nil => []
  | .cons s r => dS s :: dB r
end
/-! what its lists will have, at most -/
mutual
def wS : Stm → Nat
  | .mk .. => 2
  | .no .. => 1
  | .fn _ ps b => 4 + ps.length + wB b
  | .ite _ b1 b2 => 3 + wB b1 + wB b2
  | .whl _ b => 2 + wB b
  | .tms _ _ _ b => 4 + wB b
def wB : Blk → Nat
  | .nil => 0
  | .cons s r => wS s + wB r
end
theorem wS_pos (s : Stm) : 1 ≤ wS s := by
  cases s <;> simp only [wS] <;> omega
abbrev nD (n : Nat) : PyData := .int (n : Int)
def rowG (kind : Str) (k a : PyData) : PyData := .tuple [.str kind, k, a]
def rowM (x : Str) (k g : Nat) : PyData := .tuple [.str x, nD k, nD g]
def rowB (k : PyData) (ps : List Str) : PyData := .tuple [k, .tuple (ps.map .str)]
structure TS where
  pl : List (PyData × Nat × Nat)
  bd : List PyData
  gr : List PyData
  mm : List PyData
mutual
def layS : Stm → Nat → Nat → TS → TS
  | .mk w x r h, g, b, t => { t with pl := t.pl ++ [(dS (.mk w x r h), g, b)], mm := t.mm ++ [rowM x t.pl.length g] }
  | .no w r h, g, b, t => { t with pl := t.pl ++ [(dS (.no w r h), g, b)] }
  | .fn x ps blk, g, b, t => layB blk t.gr.length t.bd.length { pl := t.pl ++ [(dS (.fn x ps blk), g, b)], mm := t.mm ++ (rowM x t.pl.length g :: ps.map fun p => rowM p t.pl.length t.gr.length), bd := t.bd ++ [rowB (nD t.pl.length) ps], gr := t.gr ++ [rowG "body" (nD t.pl.length) (nD g)] }
  | .ite a b1 b2, g, b, t =>
    let t1 := layB b1 t.gr.length b { t with pl := t.pl ++ [(dS (.ite a b1 b2), g, b)], gr := t.gr ++ [rowG "one" (nD t.pl.length) (nD g)] }
    layB b2 t1.gr.length b { t1 with gr := t1.gr ++ [rowG "other" (nD t.pl.length) (nD g)] }
  | .whl a blk, g, b, t => layB blk t.gr.length b { t with pl := t.pl ++ [(dS (.whl a blk), g, b)], gr := t.gr ++ [rowG "while" (nD t.pl.length) (nD g)] }
  | .tms true x a blk, g, b, t => layB blk (t.gr.length + 1) b { t with pl := t.pl ++ [(dS (.tms true x a blk), g, b)], mm := t.mm ++ [rowM x t.pl.length t.gr.length], gr := t.gr ++ [rowG "head" (nD t.pl.length) (nD g)] ++ [rowG "times" (nD t.pl.length) (nD t.gr.length)] }
  | .tms false x a blk, g, b, t => layB blk t.gr.length b { t with pl := t.pl ++ [(dS (.tms false x a blk), g, b)], mm := t.mm ++ [rowM x t.pl.length t.gr.length], gr := t.gr ++ [rowG "times" (nD t.pl.length) (nD g)] }
def layB : Blk → Nat → Nat → TS → TS
  | .nil, _, _, t => t
  | .cons s r, g, b, t => layB r g b (layS s g b t)
end
/-! ### the pile -/
inductive Itm : Type
  | blk (kind : Str) (k a : PyData) (body : Nat) (b : Blk)
  | plc (s : Stm) (g b : Nat)
def runI : Itm → TS → TS
  | .blk kind k a body b, t => layB b t.gr.length body { t with gr := t.gr ++ [rowG kind k a] }
  | .plc s g b, t => layS s g b t
def runIs (l : List Itm) (t : TS) : TS := l.foldl (fun t i => runI i t) t
def plcs : Blk → Nat → Nat → List Itm
  | .nil, _, _ => []
  | .cons s r, g, b => .plc s g b :: plcs r g b
theorem run_plcs : ∀ (blk : Blk) (g b : Nat) (t : TS), runIs (plcs blk g b) t = layB blk g b t
  | .nil, _, _, _ => rfl
  | .cons s r, g, b, t => by
    show runIs (plcs r g b) (layS s g b t) = layB r g b (layS s g b t)
    exact run_plcs r g b _
theorem runIs_append (a b : List Itm) (t : TS) : runIs (a ++ b) t = runIs b (runIs a t) := List.foldl_append ..
/-- a statement met: what is laid at once, and the blocks that come -/
def metT : Stm → Nat → Nat → TS → TS
  | .mk w x r h, g, b, t => { t with pl := t.pl ++ [(dS (.mk w x r h), g, b)], mm := t.mm ++ [rowM x t.pl.length g] }
  | .no w r h, g, b, t => { t with pl := t.pl ++ [(dS (.no w r h), g, b)] }
  | .fn x ps blk, g, b, t => { t with pl := t.pl ++ [(dS (.fn x ps blk), g, b)], mm := t.mm ++ (rowM x t.pl.length g :: ps.map fun p => rowM p t.pl.length t.gr.length), bd := t.bd ++ [rowB (nD t.pl.length) ps] }
  | .ite a b1 b2, g, b, t => { t with pl := t.pl ++ [(dS (.ite a b1 b2), g, b)] }
  | .whl a blk, g, b, t => { t with pl := t.pl ++ [(dS (.whl a blk), g, b)] }
  | .tms true x a blk, g, b, t => { t with pl := t.pl ++ [(dS (.tms true x a blk), g, b)], mm := t.mm ++ [rowM x t.pl.length t.gr.length], gr := t.gr ++ [rowG "head" (nD t.pl.length) (nD g)] }
  | .tms false x a blk, g, b, t => { t with pl := t.pl ++ [(dS (.tms false x a blk), g, b)], mm := t.mm ++ [rowM x t.pl.length t.gr.length] }
def metI : Stm → Nat → Nat → TS → List Itm
  | .mk .., _, _, _ => []
  | .no .., _, _, _ => []
  | .fn x ps blk, g, b, t => [.blk "body" (nD t.pl.length) (nD g) t.bd.length blk]
  | .ite a b1 b2, g, b, t => [.blk "one" (nD t.pl.length) (nD g) b b1, .blk "other" (nD t.pl.length) (nD g) b b2]
  | .whl a blk, g, b, t => [.blk "while" (nD t.pl.length) (nD g) b blk]
  | .tms true x a blk, g, b, t => [.blk "times" (nD t.pl.length) (nD t.gr.length) b blk]
  | .tms false x a blk, g, b, t => [.blk "times" (nD t.pl.length) (nD g) b blk]
theorem run_met (s : Stm) (g b : Nat) (t : TS) : runIs (metI s g b t) (metT s g b t) = layS s g b t := by
  cases s with
  | mk w x r h => simp [metI, metT, layS, runIs]
  | no w r h => simp [metI, metT, layS, runIs]
  | fn x ps blk => simp [metI, metT, layS, runIs, runI]
  | ite a b1 b2 => simp [metI, metT, layS, runIs, runI]
  | whl a blk => simp [metI, metT, layS, runIs, runI]
  | tms one x a blk => cases one <;> simp [metI, metT, layS, runIs, runI]
def wI : Itm → Nat
  | .blk _ _ _ _ b => 1 + wB b
  | .plc s _ _ => wS s
theorem wI_pos (i : Itm) : 1 ≤ wI i := by
  cases i with
  | blk => simp only [wI]; omega
  | plc s => exact wS_pos s
def wIs (l : List Itm) : Nat := (l.map wI).sum
theorem wIs_cons (i : Itm) (l : List Itm) : wIs (i :: l) = wI i + wIs l := by simp [wIs]
theorem wIs_append (a b : List Itm) : wIs (a ++ b) = wIs a + wIs b := by simp [wIs]
theorem len_wIs : ∀ l : List Itm, l.length ≤ wIs l
  | [] => Nat.le_refl _
  | i :: r => by
    rw [wIs_cons, List.length_cons]
    have := len_wIs r
    have := wI_pos i
    omega
theorem w_plcs : ∀ (blk : Blk) (g b : Nat), wIs (plcs blk g b) = wB blk
  | .nil, _, _ => rfl
  | .cons s r, g, b => by
    show wIs (.plc s g b :: plcs r g b) = wS s + wB r
    rw [wIs_cons, w_plcs r]
    rfl
def TS.n (t : TS) : Nat := t.pl.length + t.bd.length + t.gr.length + t.mm.length
theorem w_met (s : Stm) (g b : Nat) (t : TS) : (metT s g b t).n + wIs (metI s g b t) ≤ t.n + wS s := by
  cases s with
  | mk w x r h => simp [metI, metT, TS.n, wIs, wI, wS]; omega
  | no w r h => simp [metI, metT, TS.n, wIs, wI, wS]; omega
  | fn x ps blk => simp [metI, metT, TS.n, wIs, wI, wS]; omega
  | ite a b1 b2 => simp [metI, metT, TS.n, wIs, wI, wS]; omega
  | whl a blk => simp [metI, metT, TS.n, wIs, wI, wS]; omega
  | tms one x a blk => cases one <;> simp [metI, metT, TS.n, wIs, wI, wS] <;> omega
/-! the measure falls -/
mutual
def zS : Stm → Nat
  | .mk .. => 1
  | .no .. => 1
  | .fn _ _ b => 2 + zB b
  | .ite _ b1 b2 => 3 + zB b1 + zB b2
  | .whl _ b => 2 + zB b
  | .tms _ _ _ b => 2 + zB b
def zB : Blk → Nat
  | .nil => 0
  | .cons s r => zS s + zB r
end
def zI : Itm → Nat
  | .blk _ _ _ _ b => 1 + zB b
  | .plc s _ _ => zS s
def zIs (l : List Itm) : Nat := (l.map zI).sum
theorem zIs_cons (i : Itm) (l : List Itm) : zIs (i :: l) = zI i + zIs l := by simp [zIs]
theorem zIs_append (a b : List Itm) : zIs (a ++ b) = zIs a + zIs b := by simp [zIs]
theorem z_plcs : ∀ (blk : Blk) (g b : Nat), zIs (plcs blk g b) = zB blk
  | .nil, _, _ => rfl
  | .cons s r, g, b => by
    show zIs (.plc s g b :: plcs r g b) = zS s + zB r
    rw [zIs_cons, z_plcs r]
    rfl
theorem z_met (s : Stm) (g b : Nat) (t : TS) : zIs (metI s g b t) + 1 = zS s := by
  cases s with
  | mk w x r h => simp [metI, zIs, zI, zS]
  | no w r h => simp [metI, zIs, zI, zS]
  | fn x ps blk => simp [metI, zIs, zI, zS]; omega
  | ite a b1 b2 => simp [metI, zIs, zI, zS]; omega
  | whl a blk => simp [metI, zIs, zI, zS]; omega
  | tms one x a blk => cases one <;> simp [metI, zIs, zI, zS] <;> omega
mutual
theorem w_layS : ∀ (s : Stm) (g b : Nat) (t : TS), (layS s g b t).n ≤ t.n + wS s
  | .mk w x r h, g, b, t => by simp [layS, TS.n, wS]; omega
  | .no w r h, g, b, t => by simp [layS, TS.n, wS]; omega
  | .fn x ps blk, g, b, t => by
    rw [layS]
    refine Nat.le_trans (w_layB blk _ _ _) ?_
    simp [TS.n, wS]; omega
  | .ite a b1 b2, g, b, t => by
    rw [layS]
    refine Nat.le_trans (w_layB b2 _ _ _) ?_
    have h := w_layB b1 t.gr.length b { t with pl := t.pl ++ [(dS (.ite a b1 b2), g, b)], gr := t.gr ++ [rowG "one" (nD t.pl.length) (nD g)] }
    simp [TS.n, wS] at h ⊢; omega
  | .whl a blk, g, b, t => by
    rw [layS]
    refine Nat.le_trans (w_layB blk _ _ _) ?_
    simp [TS.n, wS]; omega
  | .tms true x a blk, g, b, t => by
    rw [layS]
    refine Nat.le_trans (w_layB blk _ _ _) ?_
    simp [TS.n, wS]; omega
  | .tms false x a blk, g, b, t => by
    rw [layS]
    refine Nat.le_trans (w_layB blk _ _ _) ?_
    simp [TS.n, wS]; omega
theorem w_layB : ∀ (blk : Blk) (g b : Nat) (t : TS), (layB blk g b t).n ≤ t.n + wB blk
  | .nil, g, b, t => Nat.le_refl _
  | .cons s r, g, b, t => by
    rw [layB]
    have h1 := w_layB r g b (layS s g b t)
    have h2 := w_layS s g b t
    simp only [wB]
    omega
end
end Fb
set_option Elab.async false
set_option linter.all false
set_option maxRecDepth 100000
set_option maxHeartbeats 2000000
namespace Fb
open PySem PySem.Spec PyProof.Rows L2
/-! ### what may change -/
def Mod (S : List Addr) (H H' : Hp) : Prop := ∀ b o, H b = some o → b ∉ S → H' b = some o
theorem Mod.refl (S : List Addr) (H : Hp) : Mod S H H := fun _ _ e _ => e
theorem Mod.trans {S : List Addr} {H H1 H2 : Hp} (a : Mod S H H1) (b : Mod S H1 H2) : Mod S H H2 := fun c o e h => b c o (a c o e h) h
theorem Mod.of {S : List Addr} {H H' : Hp} (s : Same H H') : Mod S H H' := fun b o e _ => s b o e
theorem Mod.wide {S S' : List Addr} {H H' : Hp} (m : Mod S H H') (h : ∀ b ∈ S, b ∈ S') : Mod S' H H' := fun b o e z => m b o e fun q => z (h b q)
theorem Mod.put {S : List Addr} {H H' : Hp} {p : Addr} {o : HO} (m : Mod S H H') (h : p ∈ S ∨ H p = none) : Mod S H (L2.upd H' p o) := fun b x e z => by
  rcases h with h | h
  · rw [upd_ne (show b ≠ p from fun q => z (by rw [q]; exact h))]
    exact m b x e z
  · rw [upd_ne (ne_of_none e h)]
    exact m b x e z
theorem Mod.same {H H' : Hp} (m : Mod [] H H') : Same H H' := fun b o e => m b o e (by simp)
/-- what an object bears for ever -/
def Fix : HO → Prop
  | .tup _ => True
  | .frz _ _ => True
  | .ins _ _ _ => True
  | _ => False
def Ext (H H' : Hp) : Prop := ∀ b o, H b = some o → Fix o → H' b = some o
theorem Ext.refl (H : Hp) : Ext H H := fun _ _ e _ => e
theorem Ext.trans {H H1 H2 : Hp} (a : Ext H H1) (b : Ext H1 H2) : Ext H H2 := fun c o e f => b c o (a c o e f) f
theorem Same.ext {H H' : Hp} (s : Same H H') : Ext H H' := fun b o e _ => s b o e
theorem Mod.ext {S : List Addr} {H H' : Hp} (m : Mod S H H') (h : ∀ b ∈ S, ∀ o, H b = some o → ¬ Fix o) : Ext H H' := fun b o e f => m b o e fun q => h b q o e f
theorem no_lst {H : Hp} {a : Addr} {xs : List V} (h : H a = some (.lst xs)) : ∀ o, H a = some o → ¬ Fix o := fun o e => by
  rw [h] at e
  cases e
  exact id
theorem no_dk {H : Hp} {a : Addr} {xs : List (Key × V)} (h : H a = some (.dK xs)) : ∀ o, H a = some o → ¬ Fix o := fun o e => by
  rw [h] at e
  cases e
  exact id
theorem no_none {H : Hp} {a : Addr} (h : H a = none) : ∀ o, H a = some o → ¬ Fix o := fun o e => by
  rw [h] at e
  cases e
/-! ### data without lists stays -/
mutual
def noL : PyData → Bool
  | .none | .bool _ | .int _ | .str _ => true
  | .tuple xs => noLs xs
  | _ => false
def noLs : List PyData → Bool
  | [] => true
  | x :: xs => noL x && noLs xs
end
/-! tuples alone -/
def FixT : HO → Prop
  | .tup _ => True
  | .frz _ _ => True
  | _ => False
def ExtT (H H' : Hp) : Prop := ∀ b o, H b = some o → FixT o → H' b = some o
theorem Ext.t {H H' : Hp} (e : Ext H H') : ExtT H H' := fun b o h f => e b o h (by cases o <;> first | exact True.intro | exact f.elim)
theorem ExtT.trans {H H1 H2 : Hp} (a : ExtT H H1) (b : ExtT H1 H2) : ExtT H H2 := fun c o e f => b c o (a c o e f) f
theorem Mod.extT {S : List Addr} {H H' : Hp} (m : Mod S H H') (h : ∀ b ∈ S, ∀ o, H b = some o → ¬ FixT o) : ExtT H H' := fun b o e f => m b o e fun q => h b q o e f
theorem noT_ins {H : Hp} {a C dx : Addr} {fs : List (Str × V)} (h : H a = some (.ins C dx fs)) : ∀ o, H a = some o → ¬ FixT o := fun o e => by
  rw [h] at e
  cases e
  exact id
theorem noT_of {H : Hp} {a : Addr} (h : ∀ o, H a = some o → ¬ Fix o) : ∀ o, H a = some o → ¬ FixT o := fun o e f => h o e (by cases o <;> first | exact True.intro | exact f.elim)
theorem sqT_extT {K : PySem.W.Frag} {H H' : Hp} {a : Addr} {xs : List V} (e : ExtT H H') (h : SqT K H a xs) : SqT K H' a xs := by
  rcases h with (h | ⟨o, h⟩) | h
  · exact .inl (.inl (e _ _ h True.intro))
  · exact .inl (.inr ⟨o, e _ _ h True.intro⟩)
  · exact .inr h
mutual
theorem dp_extT {K : PySem.W.Frag} {H H' : Hp} (e : ExtT H H') : ∀ (d : PyData) (v : V), Dp K H v d → noL d = true → Dp K H' v d
  | .none, _, h, _ => by cases h; exact .non
  | .bool b, _, h, _ => by cases h; exact .bl b
  | .int i, _, h, _ => by cases h; exact .int i
  | .str x, _, h, _ => by cases h; exact .str x
  | .list _, _, _, n => by simp [noL] at n
  | .dict _, _, _, n => by simp [noL] at n
  | .tuple ds, _, h, n => by
    cases h with
    | tup a b => exact .tup (sqT_extT e a) (dps_extT e ds _ b (by simpa [noL] using n))
theorem dps_extT {K : PySem.W.Frag} {H H' : Hp} (e : ExtT H H') : ∀ (ds : List PyData) (vs : List V), DpAll K H vs ds → noLs ds = true → DpAll K H' vs ds
  | [], _, h, _ => by cases h; exact .nil
  | d :: ds, _, h, n => by
    cases h with
    | cons a b =>
      rw [noLs, Bool.and_eq_true] at n
      exact .cons (dp_extT e d _ a n.1) (dps_extT e ds _ b n.2)
end
theorem sqT_ext {K : PySem.W.Frag} {H H' : Hp} {a : Addr} {xs : List V} (e : Ext H H') (h : SqT K H a xs) : SqT K H' a xs := sqT_extT e.t h
theorem dp_ext {K : PySem.W.Frag} {H H' : Hp} (e : Ext H H') (d : PyData) (v : V) (h : Dp K H v d) (n : noL d = true) : Dp K H' v d := dp_extT e.t d v h n
theorem dps_ext {K : PySem.W.Frag} {H H' : Hp} (e : Ext H H') (ds : List PyData) (vs : List V) (h : DpAll K H vs ds) (n : noLs ds = true) : DpAll K H' vs ds := dps_extT e.t ds vs h n
theorem dps_len {K : PySem.W.Frag} {H : Hp} : ∀ {vs : List V} {ds : List PyData}, DpAll K H vs ds → vs.length = ds.length
  | _, _, .nil => rfl
  | _, _, .cons _ t => by rw [List.length_cons, List.length_cons, dps_len t]
theorem dps_snoc {K : PySem.W.Frag} {H : Hp} {v : V} {d : PyData} : ∀ {vs : List V} {ds : List PyData}, DpAll K H vs ds → Dp K H v d → DpAll K H (vs ++ [v]) (ds ++ [d])
  | _, _, .nil, h => .cons h .nil
  | _, _, .cons a t, h => .cons a (dps_snoc t h)
theorem dps_app {K : PySem.W.Frag} {H : Hp} {ws : List V} {es : List PyData} (h : DpAll K H ws es) : ∀ {vs : List V} {ds : List PyData}, DpAll K H vs ds → DpAll K H (vs ++ ws) (ds ++ es)
  | _, _, .nil => h
  | _, _, .cons a t => .cons a (dps_app h t)
theorem dps_at {K : PySem.W.Frag} {H : Hp} : ∀ {vs : List V} {ds : List PyData} {i : Nat} {v : V}, DpAll K H vs ds → vs[i]? = some v → ∃ d, ds[i]? = some d ∧ Dp K H v d
  | _, _, 0, _, .cons a _, h => ⟨_, rfl, by cases h; exact a⟩
  | _, _, i + 1, _, .cons _ t, h => dps_at (i := i) t h
  | _, _, _, _, .nil, h => by cases h
theorem dps_strs {K : PySem.W.Frag} {H : Hp} : ∀ ps : List Str, DpAll K H (ps.map V.str) (ps.map PyData.str)
  | [] => .nil
  | p :: r => .cons (.str p) (dps_strs r)
theorem strs_of {K : PySem.W.Frag} {H : Hp} : ∀ {ps : List Str} {vs : List V}, DpAll K H vs (ps.map PyData.str) → vs = ps.map V.str
  | [], _, .nil => rfl
  | p :: r, _, .cons a t => by
    cases a
    rw [strs_of t]
    rfl
/-! ### sizes of what is shown -/
structure Sh (d : PyData) (n m : Nat) : Prop where
  sw : d.showable = true
  nd : d.hasDict = false
  dp : d.depth ≤ m
  ln : d.shown.length ≤ n
theorem sh_none (n m : Nat) (h : 4 ≤ n) : Sh .none n m := ⟨rfl, rfl, Nat.zero_le _, Nat.le_trans (by decide +kernel : (PyData.shown .none).length ≤ 4) h⟩
theorem sh_int {i : Int} {n m : Nat} (h : i.natAbs < 1000000000000) (hn : 13 ≤ n) : Sh (.int i) n m := by
  refine ⟨?_, rfl, Nat.zero_le _, Nat.le_trans (PyData.shown_int_le h) hn⟩
  show decide (i.natAbs.log2 < 1920) = true
  exact decide_eq_true (Nat.lt_of_lt_of_le (PySem.Flt.log2_lt_of (k := 40) (by decide) (Nat.lt_of_lt_of_le h (by decide))) (by decide))
theorem sh_str {x : Str} {k n m : Nat} (h : x.length ≤ k) (hc : ∀ c ∈ x.cps.toList, c < 128) (hn : 10 * k + 2 ≤ n) : Sh (.str x) n m :=
  ⟨rfl, rfl, Nat.zero_le _, Nat.le_trans (StrLaws.reprText_len x fun c z => Nat.lt_trans (hc c z) (by decide)) (by omega)⟩
structure ShA (ds : List PyData) (n m : Nat) : Prop where
  sw : PyData.showableAll ds = true
  nd : PyData.hasDictAll ds = false
  dp : PyData.depthAll ds ≤ m
  ln : ((PyData.shownAll ds).map (·.length)).sum + 2 * ds.length ≤ n
theorem sha_nil (n m : Nat) : ShA [] n m := ⟨rfl, rfl, Nat.zero_le _, Nat.zero_le _⟩
theorem sha_cons {d : PyData} {ds : List PyData} {a b m : Nat} (h : Sh d a m) (t : ShA ds b m) : ShA (d :: ds) (a + 2 + b) m := by
  refine ⟨?_, ?_, ?_, ?_⟩
  · rw [PyData.showableAll, h.sw, t.sw]; rfl
  · rw [PyData.hasDictAll, h.nd, t.nd]; rfl
  · rw [PyData.depthAll]; exact Nat.max_le.mpr ⟨h.dp, t.dp⟩
  · rw [PyData.shownAll, List.map_cons, List.sum_cons, List.length_cons]
    have := h.ln
    have := t.ln
    omega
theorem ShA.mono {ds : List PyData} {a b m m' : Nat} (h : ShA ds a m) (h1 : a ≤ b) (h2 : m ≤ m') : ShA ds b m' := ⟨h.sw, h.nd, Nat.le_trans h.dp h2, Nat.le_trans h.ln h1⟩
theorem Sh.mono {d : PyData} {a b m m' : Nat} (h : Sh d a m) (h1 : a ≤ b) (h2 : m ≤ m') : Sh d b m' := ⟨h.sw, h.nd, Nat.le_trans h.dp h2, Nat.le_trans h.ln h1⟩
theorem sha_all {a m : Nat} : ∀ {ds : List PyData}, (∀ d ∈ ds, Sh d a m) → ShA ds (ds.length * (a + 2)) m
  | [], _ => sha_nil _ _
  | d :: ds, h => (sha_cons (h d List.mem_cons_self) (sha_all fun e z => h e (List.mem_cons_of_mem _ z))).mono (by rw [List.length_cons, Nat.succ_mul]; omega) (Nat.le_refl _)
theorem shown_len : ∀ ds : List PyData, (PyData.shownAll ds).length = ds.length
  | [] => rfl
  | _ :: r => by rw [PyData.shownAll, List.length_cons, List.length_cons, shown_len r]
theorem sh_tup {ds : List PyData} {n m : Nat} (h : ShA ds n m) : Sh (.tuple ds) (n + 3) (m + 1) := by
  refine ⟨h.sw, h.nd, Nat.succ_le_succ h.dp, ?_⟩
  have z := tupleText_len_le (PyData.shownAll ds)
  rw [shown_len] at z
  have := h.ln
  show (tupleText (PyData.shownAll ds)).length ≤ _
  omega
theorem sh_lst {ds : List PyData} {n m : Nat} (h : ShA ds n m) : Sh (.list ds) (n + 3) (m + 1) := by
  refine ⟨h.sw, h.nd, Nat.succ_le_succ h.dp, ?_⟩
  have z := listText_len_le (PyData.shownAll ds)
  rw [shown_len] at z
  have := h.ln
  show (listText (PyData.shownAll ds)).length ≤ _
  omega
/-! ### good statements -/
def nm (x : Str) : Prop := x.length ≤ 20 ∧ ∀ c ∈ x.cps.toList, c < 128
def Lf (d : PyData) : Prop := noL d = true ∧ Sh d 202 0
mutual
def goodS : Stm → Prop
  | .mk _ x r _ => nm x ∧ noLs r = true ∧ ShA r 1300 1
  | .no _ r _ => noLs r = true ∧ ShA r 1300 1
  | .fn x ps b => nm x ∧ ps.length ≤ 4 ∧ (∀ p ∈ ps, nm p) ∧ goodB b
  | .ite a b1 b2 => Lf a ∧ goodB b1 ∧ goodB b2
  | .whl a b => Lf a ∧ goodB b
  | .tms _ x a b => nm x ∧ Lf a ∧ goodB b
def goodB : Blk → Prop
  | .nil => True
  | .cons s r => goodS s ∧ goodB r
end
theorem noLs_all : ∀ {ds : List PyData}, (∀ d ∈ ds, noL d = true) → noLs ds = true
  | [], _ => rfl
  | d :: ds, h => by
    rw [noLs, h d List.mem_cons_self, noLs_all fun e z => h e (List.mem_cons_of_mem _ z)]
    rfl
theorem noLs_strs (ps : List Str) : noLs (ps.map PyData.str) = true := noLs_all fun d h => by
  obtain ⟨x, _, rfl⟩ := List.mem_map.mp h
  rfl
mutual
theorem noL_dS : ∀ s : Stm, goodS s → noL (dS s) = true
  | .mk w x r h, g => by
    rw [goodS] at g
    rw [dS, noL, noLs, noLs, g.2.1]
    rfl
  | .no w r h, g => by
    rw [goodS] at g
    rw [dS, noL, noLs, g.1]
    rfl
  | .fn x ps b, g => by
    rw [goodS] at g
    simp only [dS, noL, noLs, noLs_strs, noL_dB b g.2.2.2, Bool.and_true]
  | .ite a b1 b2, g => by
    rw [goodS] at g
    simp only [dS, noL, noLs, g.1.1, noL_dB b1 g.2.1, noL_dB b2 g.2.2, Bool.and_true]
  | .whl a b, g => by
    rw [goodS] at g
    simp only [dS, noL, noLs, g.1.1, noL_dB b g.2, Bool.and_true]
  | .tms one x a b, g => by
    rw [goodS] at g
    simp only [dS, noL, noLs, g.2.1.1, noL_dB b g.2.2, Bool.and_true]
theorem noL_dB : ∀ b : Blk, goodB b → noLs (dB b) = true
  | .nil, _ => rfl
  | .cons s r, g => by
    rw [goodB] at g
    rw [dB, noLs, noL_dS s g.1, noL_dB r g.2]
    rfl
end
theorem noL_blk {b : Blk} (g : goodB b) : noL (.tuple (dB b)) = true := by
  rw [noL]
  exact noL_dB b g
end Fb
set_option Elab.async false
set_option linter.all false
set_option maxRecDepth 100000
set_option maxHeartbeats 2000000
namespace Fb
open PySem PySem.Spec PyProof.Rows L2
section
variable {K : PySem.W.Frag} {H : Hp} {v : V}
theorem view_tup {ds : List PyData} (h : Dp K H v (.tuple ds)) : ∃ a vs, v = .ref a ∧ SqT K H a vs ∧ DpAll K H vs ds := by
  cases h with
  | tup a b => exact ⟨_, _, rfl, a, b⟩
theorem view_mk {w x : Str} {r : List PyData} {h0} (h : Dp K H v (dS (.mk w x r h0))) : ∃ a rs, v = .ref a ∧ SqT K H a (.str w :: .str x :: rs) ∧ DpAll K H rs r := by
  rw [dS] at h
  obtain ⟨a, vs, rfl, q, z⟩ := view_tup h
  cases z with
  | cons z1 z => cases z1; cases z with
    | cons z2 z => cases z2; exact ⟨a, _, rfl, q, z⟩
theorem view_no {w : Str} {r : List PyData} {h0} (h : Dp K H v (dS (.no w r h0))) : ∃ a rs, v = .ref a ∧ SqT K H a (.str w :: rs) ∧ DpAll K H rs r := by
  rw [dS] at h
  obtain ⟨a, vs, rfl, q, z⟩ := view_tup h
  cases z with
  | cons z1 z => cases z1; exact ⟨a, _, rfl, q, z⟩
theorem view_fn {x : Str} {ps : List Str} {b : Blk} (h : Dp K H v (dS (.fn x ps b))) : ∃ a pa ba, v = .ref a ∧ SqT K H a [.str "fn", .str x, .ref pa, .ref ba] ∧ SqT K H pa (ps.map V.str) ∧ Dp K H (.ref ba) (.tuple (dB b)) := by
  rw [dS] at h
  obtain ⟨a, vs, rfl, q, z⟩ := view_tup h
  cases z with
  | cons z1 z => cases z1; cases z with
    | cons z2 z => cases z2; cases z with
      | cons z3 z =>
        obtain ⟨pa, us, rfl, q3, y3⟩ := view_tup z3
        cases strs_of y3
        cases z with
        | cons z4 z =>
          obtain ⟨ba, ws, rfl, q4, y4⟩ := view_tup z4
          cases z
          exact ⟨a, pa, ba, rfl, q, q3, z4⟩
theorem view_ite {c : PyData} {b1 b2 : Blk} (h : Dp K H v (dS (.ite c b1 b2))) : ∃ a u p1 p2, v = .ref a ∧ SqT K H a [.str "if", u, .ref p1, .ref p2] ∧ Dp K H (.ref p1) (.tuple (dB b1)) ∧ Dp K H (.ref p2) (.tuple (dB b2)) := by
  rw [dS] at h
  obtain ⟨a, vs, rfl, q, z⟩ := view_tup h
  cases z with
  | cons z1 z => cases z1; cases z with
    | cons z2 z => cases z with
      | cons z3 z =>
        obtain ⟨p1, us, rfl, q3, y3⟩ := view_tup z3
        cases z with
        | cons z4 z =>
          obtain ⟨p2, ws, rfl, q4, y4⟩ := view_tup z4
          cases z
          exact ⟨a, _, p1, p2, rfl, q, z3, z4⟩
theorem view_whl {c : PyData} {b : Blk} (h : Dp K H v (dS (.whl c b))) : ∃ a u p, v = .ref a ∧ SqT K H a [.str "while", u, .ref p] ∧ Dp K H (.ref p) (.tuple (dB b)) := by
  rw [dS] at h
  obtain ⟨a, vs, rfl, q, z⟩ := view_tup h
  cases z with
  | cons z1 z => cases z1; cases z with
    | cons z2 z => cases z with
      | cons z3 z =>
        obtain ⟨p, us, rfl, q3, y3⟩ := view_tup z3
        cases z
        exact ⟨a, _, p, rfl, q, z3⟩
theorem view_tms {one : Bool} {x : Str} {c : PyData} {b : Blk} (h : Dp K H v (dS (.tms one x c b))) : ∃ a u p, v = .ref a ∧ SqT K H a [.str "times", .str (modeS one), .str x, u, .ref p] ∧ Dp K H (.ref p) (.tuple (dB b)) := by
  rw [dS] at h
  obtain ⟨a, vs, rfl, q, z⟩ := view_tup h
  cases z with
  | cons z1 z => cases z1; cases z with
    | cons z2 z => cases z2; cases z with
      | cons z3 z => cases z3; cases z with
        | cons z4 z => cases z with
          | cons z5 z =>
            obtain ⟨p, us, rfl, q5, y5⟩ := view_tup z5
            cases z
            exact ⟨a, _, p, rfl, q, z5⟩
end
/-! rules that name the written part (for blocks of comprehensions) -/
theorem pe_fldK {X : Cx} (K0 : PySem.W.Frag) (hK : X.K = K0) {e : Expr} {ta : TE} {f : Str} {pos : Pos} (he : PE X e ta) (hb : attributeBase e f X.env (eval e X.env) = eval e X.env) : PE X (.Attribute e f pos) (tFld K0 ta f) := by
  subst hK
  exact pe_fld he hb
theorem pg_tupK {X : Cx} (K0 : PySem.W.Frag) (hK : X.K = K0) {es : List Expr} {k : Nat} {pos : Pos} {n : Nat} {t : TGs} (hc : X.calm = true) (h : PGs X es t) (hn : (assignEach es X.env).length = n := by rfl) (hst : (assignEach es X.env).findIdx? (·.1) = none := by rfl) : PG X (.Tuple es k pos) (gTup K0 n t) := by
  subst hK
  exact pg_tup hc h hn hst
theorem ixL {X : Cx} (K0 : PySem.W.Frag) (hK : X.K = K0) : IxR X (rIxL K0) := by
  subst hK
  exact ix_list
theorem ixT {X : Cx} (K0 : PySem.W.Frag) (hK : X.K = K0) : IxR X (rIxT K0) := by
  subst hK
  exact ix_tup
/-- the word of a statement -/
def wordS : Stm → Str
  | .mk w .. => w
  | .no w .. => w
  | .fn .. => "fn"
  | .ite .. => "if"
  | .whl .. => "while"
  | .tms .. => "times"
theorem view_any {K : PySem.W.Frag} {H : Hp} {v : V} {s : Stm} (h : Dp K H v (dS s)) : ∃ a xs, v = .ref a ∧ SqT K H a xs ∧ xs[0]? = some (.str (wordS s)) := by
  cases s with
  | mk w x r h0 =>
    obtain ⟨a, rs, e, q, _⟩ := view_mk h
    exact ⟨a, _, e, q, rfl⟩
  | no w r h0 =>
    obtain ⟨a, rs, e, q, _⟩ := view_no h
    exact ⟨a, _, e, q, rfl⟩
  | fn x ps b =>
    obtain ⟨a, _, _, e, q, _⟩ := view_fn h
    exact ⟨a, _, e, q, rfl⟩
  | ite c b1 b2 =>
    obtain ⟨a, _, _, _, e, q, _⟩ := view_ite h
    exact ⟨a, _, e, q, rfl⟩
  | whl c b =>
    obtain ⟨a, _, _, e, q, _⟩ := view_whl h
    exact ⟨a, _, e, q, rfl⟩
  | tms one x c b =>
    obtain ⟨a, _, _, e, q, _⟩ := view_tms h
    exact ⟨a, _, e, q, rfl⟩
/-! which word it is -/
abbrev mkW : List Str := ["let", "sum", "call"]
theorem mkW_in {w : Str} (h : w = "let" ∨ w = "sum" ∨ w = "call") : inV (.str w) (mkW.map V.str) = true := by
  rcases h with e | e | e <;> (subst e; decide +kernel)
theorem mkW_ne {w : Str} (h : w = "let" ∨ w = "sum" ∨ w = "call") : ¬ w = "fn" ∧ ¬ w = "if" ∧ ¬ w = "while" ∧ ¬ w = "times" := by
  rcases h with e | e | e <;> (subst e; decide +kernel)
theorem noW_in {w : Str} (h : w = "set" ∨ w = "tell" ∨ w = "give") : inV (.str w) (mkW.map V.str) = false := by
  rcases h with e | e | e <;> (subst e; decide +kernel)
theorem noW_ne {w : Str} (h : w = "set" ∨ w = "tell" ∨ w = "give") : ¬ w = "fn" ∧ ¬ w = "if" ∧ ¬ w = "while" ∧ ¬ w = "times" := by
  rcases h with e | e | e <;> (subst e; decide +kernel)
/-! what a statement makes; its blocks -/
def madeD : Stm → Nat → Nat → Nat → List PyData
  | .mk _ x _ _, k, g, _ => [rowM x k g]
  | .fn x ps _, k, g, f => rowM x k g :: ps.map fun p => rowM p k f
  | .tms _ x _ _, k, _, f => [rowM x k f]
  | _, _, _, _ => []
def blks : Stm → List (Str × Blk)
  | .fn _ _ b => [("body", b)]
  | .ite _ b1 b2 => [("one", b1), ("other", b2)]
  | .whl _ b => [("while", b)]
  | .tms _ _ _ b => [("times", b)]
  | _ => []
def kbD (q : Str × Blk) : PyData := .tuple [.str q.1, .tuple (dB q.2)]
def isOne : Stm → Bool
  | .tms true .. => true
  | _ => false
def isFn : Stm → Bool
  | .fn .. => true
  | _ => false
def arnd (s : Stm) (g f : Nat) : Nat := if isOne s then f else g
def bodN (s : Stm) (b n : Nat) : Nat := if isFn s then n else b
theorem metI_eq (s : Stm) (g b : Nat) (t : TS) : metI s g b t = (blks s).map fun q => .blk q.1 (nD t.pl.length) (nD (arnd s g t.gr.length)) (bodN s b t.bd.length) q.2 := by
  cases s with
  | tms one x c b => cases one <;> rfl
  | _ => rfl
theorem metT_pl (s : Stm) (g b : Nat) (t : TS) : (metT s g b t).pl = t.pl ++ [(dS s, g, b)] := by
  cases s with
  | tms one x c b => cases one <;> rfl
  | _ => rfl
theorem metT_mm (s : Stm) (g b : Nat) (t : TS) : (metT s g b t).mm = t.mm ++ madeD s t.pl.length g t.gr.length := by
  cases s with
  | tms one x c b => cases one <;> rfl
  | mk w x r h => rfl
  | fn x ps b => rfl
  | no w r h => exact (List.append_nil _).symm
  | ite c b1 b2 => exact (List.append_nil _).symm
  | whl c b => exact (List.append_nil _).symm
def bdD : Stm → Nat → List PyData
  | .fn _ ps _, k => [rowB (nD k) ps]
  | _, _ => []
def grD : Stm → Nat → Nat → List PyData
  | .tms true .., k, g => [rowG "head" (nD k) (nD g)]
  | _, _, _ => []
theorem metT_bd (s : Stm) (g b : Nat) (t : TS) : (metT s g b t).bd = t.bd ++ bdD s t.pl.length := by
  cases s with
  | fn x ps b => rfl
  | tms one x c b => cases one <;> exact (List.append_nil _).symm
  | _ => exact (List.append_nil _).symm
theorem metT_gr (s : Stm) (g b : Nat) (t : TS) : (metT s g b t).gr = t.gr ++ grD s t.pl.length g := by
  cases s with
  | tms one x c b =>
    cases one
    · exact (List.append_nil _).symm
    · rfl
  | _ => exact (List.append_nil _).symm
theorem madeD_len (s : Stm) (k g f : Nat) : (madeD s k g f).length ≤ wS s := by
  cases s with
  | tms one x c b => simp [madeD, wS]; omega
  | mk w x r h => simp [madeD, wS]
  | fn x ps b => simp [madeD, wS]; omega
  | no w r h => simp [madeD]
  | ite c b1 b2 => simp [madeD]
  | whl c b => simp [madeD]
theorem goodB_blks {s : Stm} (g : goodS s) : ∀ q ∈ blks s, goodB q.2 := by
  cases s with
  | mk w x r h => intro q z; cases z
  | no w r h => intro q z; cases z
  | fn x ps b =>
    rw [goodS] at g
    intro q z
    rw [List.mem_singleton.mp z]
    exact g.2.2.2
  | ite c b1 b2 =>
    rw [goodS] at g
    intro q z
    simp only [blks, List.mem_cons, List.not_mem_nil, or_false] at z
    rcases z with e | e
    · rw [e]; exact g.2.1
    · rw [e]; exact g.2.2
  | whl c b =>
    rw [goodS] at g
    intro q z
    rw [List.mem_singleton.mp z]
    exact g.2
  | tms one x c b =>
    rw [goodS] at g
    intro q z
    rw [List.mem_singleton.mp z]
    exact g.2.2
end Fb
set_option Elab.async false
set_option linter.all false
set_option maxRecDepth 100000
set_option maxHeartbeats 2000000
namespace Fb
open PySem PySem.Spec PyProof.Rows L2
mutual
def nS : Stm → Nat
  | .mk .. => 1
  | .no .. => 1
  | .fn _ _ b => 1 + nB b
  | .ite _ b1 b2 => 1 + nB b1 + nB b2
  | .whl _ b => 1 + nB b
  | .tms _ _ _ b => 1 + nB b
def nB : Blk → Nat
  | .nil => 0
  | .cons s r => nS s + nB r
end
mutual
theorem w9S : ∀ s : Stm, goodS s → wS s ≤ 9 * nS s
  | .mk .., _ => by simp only [wS, nS]; omega
  | .no .., _ => by simp only [wS, nS]; omega
  | .fn _ ps b, g => by
    rw [goodS] at g
    have := w9B b g.2.2.2
    simp only [wS, nS]; omega
  | .ite _ b1 b2, g => by
    rw [goodS] at g
    have := w9B b1 g.2.1
    have := w9B b2 g.2.2
    simp only [wS, nS]; omega
  | .whl _ b, g => by
    rw [goodS] at g
    have := w9B b g.2
    simp only [wS, nS]; omega
  | .tms _ _ _ b, g => by
    rw [goodS] at g
    have := w9B b g.2.2
    simp only [wS, nS]; omega
theorem w9B : ∀ b : Blk, goodB b → wB b ≤ 9 * nB b
  | .nil, _ => Nat.le_refl _
  | .cons s r, g => by
    rw [goodB] at g
    have := w9S s g.1
    have := w9B r g.2
    simp only [wB, nB]; omega
end
/-! ### some more rules -/
section
variable {X : Cx}
theorem mul_ok {z : Str} {n : Int} (h : n = 0 ∨ n = 1) : PySem.MulOk z n := by
  rcases h with rfl | rfl
  · exact ⟨by decide, fun a => absurd (by decide) a, fun a => absurd (by decide) a⟩
  · exact ⟨by decide, fun _ b => by simp at b, fun _ b => by simp at b⟩
theorem mul_is {z : Str} {n : Int} (h : n = 0 ∨ n = 1) : Txt.mul z n = if n = 1 then z else Str.empty := by
  rcases h with rfl | rfl
  · rfl
  · simp [Txt.mul]
theorem op_mul_s01 : OpR X (binaryOp .Mult) (fun x y H Q => ∃ (z : Str) (n : Int), x = .str z ∧ y = .int n ∧ (n = 0 ∨ n = 1) ∧ Q (.str (if n = 1 then z else Str.empty)) H) := by
  intro pins s σ H x y v u Q I rx ry h
  obtain ⟨z, n, rfl, rfl, hn, q⟩ := h
  obtain ⟨t, rfl⟩ := rx
  obtain ⟨t2, rfl⟩ := ry
  refine SB.mul (mul_ok hn) fun t' k => ?_
  rw [mul_is hn]
  exact ⟨.str _, H, I.tok _, ⟨_, rfl⟩, q⟩
theorem lenK (K0 : PySem.W.Frag) (hK : X.K = K0) : CallR X (.builtin "len") (fun xs H Q => ∃ p ys, xs = [.ref p] ∧ (SqL K0 H p ys ∨ SqT K0 H p ys) ∧ Q (.int ys.length) H) := by
  subst hK
  exact call_len_seq
theorem inK (K0 : PySem.W.Frag) (hK : X.K = K0) : OpR X (compareOp .In) (rIn K0 false) := by
  subst hK
  exact op_in_seq
end
/-! ### a block that grows behind -/
def snoc : Blk → Stm → Blk
  | .nil, s => .cons s .nil
  | .cons x r, s => .cons x (snoc r s)
theorem dB_snoc : ∀ (b : Blk) (s : Stm), dB (snoc b s) = dB b ++ [dS s]
  | .nil, s => by rw [snoc, dB, dB, dB]; rfl
  | .cons x r, s => by rw [snoc, dB, dB, dB_snoc r s]; rfl
theorem goodB_snoc : ∀ {b : Blk} {s : Stm}, goodB b → goodS s → goodB (snoc b s)
  | .nil, s, _, h => by rw [snoc, goodB, goodB]; exact ⟨h, True.intro⟩
  | .cons x r, s, g, h => by
    rw [goodB] at g
    rw [snoc, goodB]
    exact ⟨g.1, goodB_snoc g.2 h⟩
theorem nB_snoc : ∀ (b : Blk) (s : Stm), nB (snoc b s) = nB b + nS s
  | .nil, s => by rw [snoc, nB, nB, nB]; omega
  | .cons x r, s => by rw [snoc, nB, nB, nB_snoc r s]; omega
/-! ### the world of names -/
def wD (ln : Addr) (m : Nat) : List (Key × V) := [(.inr "names", .ref ln), (.inr "left", .int (m : Int))]
theorem ne_nl2 : ¬ (kx "names" = kx "left") := by decide +kernel
section
variable {ln wd : Addr} {m x : Nat} {H : Hp}
theorem gw_names (h : H wd = some (.dK (wD ln m))) : DGet H wd (.str "names") (some (.ref ln)) := by
  have z := DGet.k (k := kx "names") h
  rw [show valV (wD ln m) (kx "names") = some (.ref ln) from valV_pos rfl] at z
  exact z
theorem gw_left (h : H wd = some (.dK (wD ln m))) : DGet H wd (.str "left") (some (.int (m : Int))) := by
  have z := DGet.k (k := kx "left") h
  rw [show valV (wD ln m) (kx "left") = some (.int (m : Int)) from (valV_neg ne_nl2).trans (valV_pos rfl)] at z
  exact z
theorem uw_left (h : H wd = some (.dK (wD ln m))) : DPut H wd (.str "left") (.int (x : Int)) (L2.upd H wd (.dK (wD ln x))) := by
  refine .inl ⟨wD ln m, .inr "left", h, rfl, ?_, ?_⟩
  · show 2 < sizeLine
    exact small1000 (by decide)
  · have a := ne_nl2
    have e : putK (wD ln m) (.inr "left") (.int (x : Int)) = wD ln x := by simp [putK, wD, a]
    rw [e]
end
theorem merge_w {ln : Addr} {m : Nat} : mergeK [] (wD ln m) = wD ln m := by
  have a := ne_nl2
  simp [mergeK, putK, wD, a]
structure GenAt (H : Hp) (d l wd ln : Addr) (ns : List Str) (m : Nat) : Prop where
  dl : DealAt H d l
  wa : H wd = some (.dK (wD ln m))
  na : H ln = some (.lst (ns.map V.str))
  n0 : 0 < ns.length
  n1 : ns.length ≤ 100
  gd : ∀ x ∈ ns, nm x
  e1 : wd ≠ d
  e2 : ln ≠ l
theorem GenAt.dealt {H H' : Hp} {d l wd ln : Addr} {ns : List Str} {m : Nat} (g : GenAt H d l wd ln ns m) (D : DealAt H' d l) (k : Keep d l H H') : GenAt H' d l wd ln ns m := by
  obtain ⟨s, n, xs, z⟩ := g.dl
  have a1 : wd ≠ l := ne_of g.wa z.2.1 (by intro q; cases q)
  have a2 : ln ≠ d := ne_of g.na z.1 (by intro q; cases q)
  exact ⟨D, k _ _ g.wa g.e1 a1, k _ _ g.na a2 g.e2, g.n0, g.n1, g.gd, g.e1, g.e2⟩
theorem GenAt.same {H H' : Hp} {d l wd ln : Addr} {ns : List Str} {m : Nat} (g : GenAt H d l wd ln ns m) (s : Same H H') : GenAt H' d l wd ln ns m :=
  ⟨g.dl.same s, s _ _ g.wa, s _ _ g.na, g.n0, g.n1, g.gd, g.e1, g.e2⟩
/-- another object changes -/
theorem GenAt.upd {H : Hp} {d l wd ln p : Addr} {ns : List Str} {m : Nat} {o : HO} (g : GenAt H d l wd ln ns m) (h : p ∉ [d, l, wd, ln]) : GenAt (L2.upd H p o) d l wd ln ns m := by
  simp only [List.mem_cons, List.not_mem_nil, or_false, not_or] at h
  exact ⟨g.dl.upd h.1 h.2.1, by rw [upd_ne (Ne.symm h.2.2.1)]; exact g.wa, by rw [upd_ne (Ne.symm h.2.2.2)]; exact g.na, g.n0, g.n1, g.gd, g.e1, g.e2⟩
theorem GenAt.fresh {H : Hp} {d l wd ln p : Addr} {ns : List Str} {m : Nat} (g : GenAt H d l wd ln ns m) (h : H p = none) : p ∉ [d, l, wd, ln] := by
  simp only [List.mem_cons, List.not_mem_nil, or_false, not_or]
  exact ⟨g.dl.d_ne h, g.dl.l_ne h, (ne_of_none g.wa h).symm, (ne_of_none g.na h).symm⟩
theorem GenAt.left {H : Hp} {d l wd ln : Addr} {ns : List Str} {m x : Nat} (g : GenAt H d l wd ln ns m) : GenAt (L2.upd H wd (.dK (wD ln x))) d l wd ln ns x := by
  obtain ⟨s, n, xs, z⟩ := g.dl
  have a1 : wd ≠ l := ne_of g.wa z.2.1 (by intro q; cases q)
  have a3 : ln ≠ wd := ne_of g.na g.wa (by intro q; cases q)
  exact ⟨⟨s, n, xs, by rw [upd_ne g.e1.symm]; exact z.1, by rw [upd_ne a1.symm]; exact z.2.1, z.2.2⟩, upd_same, by rw [upd_ne a3]; exact g.na, g.n0, g.n1, g.gd, g.e1, g.e2⟩
theorem Keep.mod {d l wd : Addr} {H H' : Hp} (k : Keep d l H H') : Mod [d, l, wd] H H' := fun b o e h => by
  simp only [List.mem_cons, List.not_mem_nil, or_false, not_or] at h
  exact k b o e h.1 h.2.1
theorem GenAt.ext {H H' : Hp} {d l wd ln : Addr} {ns : List Str} {m : Nat} (g : GenAt H d l wd ln ns m) (k : Mod [d, l, wd] H H') : Ext H H' := by
  obtain ⟨s, n, xs, z⟩ := g.dl
  refine k.ext fun b hb => ?_
  simp only [List.mem_cons, List.not_mem_nil, or_false] at hb
  rcases hb with e | e | e <;> subst e
  · exact no_dk z.1
  · exact no_lst z.2.1
  · exact no_dk g.wa
theorem Keep.ext {d l : Addr} {H H' : Hp} (D : DealAt H d l) (k : Keep d l H H') : Ext H H' := fun b o e f => by
  obtain ⟨s, n, xs, z⟩ := D
  exact k b o e (fun q => no_dk z.1 o (by rw [← q]; exact e) f) (fun q => no_lst z.2.1 o (by rw [← q]; exact e) f)
/-! ### atoms -/
def At (v : V) (d : PyData) : Prop := (∃ x, v = .str x ∧ d = .str x ∧ nm x) ∨ ∃ n : Int, v = .int n ∧ d = .int n ∧ 0 ≤ n ∧ n < 1000000000
theorem At.dp {K : PySem.W.Frag} {H : Hp} {v : V} {d : PyData} (h : At v d) : Dp K H v d := by
  rcases h with ⟨x, rfl, rfl, _⟩ | ⟨n, rfl, rfl, _⟩
  · exact .str x
  · exact .int n
theorem nm_sh {x : Str} {n m : Nat} (h : nm x) (hn : 202 ≤ n) : Sh (.str x) n m := sh_str h.1 h.2 hn
theorem At.lf {v : V} {d : PyData} (h : At v d) : Lf d := by
  rcases h with ⟨x, rfl, rfl, hx⟩ | ⟨n, rfl, rfl, h0, h1⟩
  · exact ⟨rfl, nm_sh hx (Nat.le_refl _)⟩
  · exact ⟨rfl, sh_int (by omega) (by decide)⟩
theorem Lf.sh {d : PyData} {m : Nat} (h : Lf d) : Sh d 202 m := h.2.mono (Nat.le_refl _) (Nat.zero_le _)
/-! ### what is shown of a statement -/
theorem sh_ps {ps : List Str} (h : ps.length ≤ 4) (g : ∀ p ∈ ps, nm p) : Sh (.tuple (ps.map PyData.str)) 819 1 := by
  refine (sh_tup (sha_all (a := 202) (m := 0) fun d z => ?_)).mono ?_ (Nat.le_refl _)
  · obtain ⟨x, hx, rfl⟩ := List.mem_map.mp z
    exact nm_sh (g x hx) (Nat.le_refl _)
  · rw [List.length_map]
    have : ps.length * (202 + 2) ≤ 4 * (202 + 2) := Nat.mul_le_mul_right _ h
    omega
theorem sh_word {x : Str} {n m : Nat} (h : nm x) (h2 : x.length ≤ 5) (hn : 52 ≤ n) : Sh (.str x) n m := sh_str h2 h.2 hn
theorem nm_words : ∀ x ∈ (["let", "sum", "call", "set", "tell", "give", "fn", "if", "while", "times", "one", "own", "body", "other", "head"] : List Str), x.length ≤ 5 ∧ ∀ c ∈ x.cps.toList, c < 128 := by decide +kernel
theorem sh_w {x : Str} {m : Nat} (h : x ∈ (["let", "sum", "call", "set", "tell", "give", "fn", "if", "while", "times", "one", "own", "body", "other", "head"] : List Str)) : Sh (.str x) 52 m := sh_str (nm_words x h).1 (nm_words x h).2 (by decide)
theorem Sh.deep {d : PyData} {n m : Nat} (h : Sh d n m) : Sh d n d.depth := ⟨h.sw, h.nd, Nat.le_refl _, h.ln⟩
mutual
theorem shS : ∀ s : Stm, goodS s → ∃ m, Sh (dS s) (1602 * nS s - 2) m
  | .mk w x r h, g => by
    rw [goodS] at g
    have hw : w ∈ (["let", "sum", "call", "set", "tell", "give", "fn", "if", "while", "times", "one", "own", "body", "other", "head"] : List Str) := by rcases h with e | e | e <;> (subst e; decide +kernel)
    rw [dS]
    exact ⟨_, (sh_tup (sha_cons (sh_w hw) (sha_cons (nm_sh g.1 (Nat.le_refl _)) g.2.2))).mono (by simp only [nS]; omega) (Nat.le_refl _)⟩
  | .no w r h, g => by
    rw [goodS] at g
    have hw : w ∈ (["let", "sum", "call", "set", "tell", "give", "fn", "if", "while", "times", "one", "own", "body", "other", "head"] : List Str) := by rcases h with e | e | e <;> (subst e; decide +kernel)
    rw [dS]
    exact ⟨_, (sh_tup (sha_cons (sh_w hw) g.2)).mono (by simp only [nS]; omega) (Nat.le_refl _)⟩
  | .fn x ps b, g => by
    rw [goodS] at g
    obtain ⟨m, hm⟩ := shB b g.2.2.2
    rw [dS]
    refine ⟨(m + 1) + 1 + 1, (sh_tup (m := m + 1 + 1) (sha_cons (sh_w (by decide +kernel)) (sha_cons (nm_sh g.1 (Nat.le_refl _)) (sha_cons ((sh_ps g.2.1 g.2.2.1).mono (Nat.le_refl _) (by omega)) (sha_cons ((sh_tup hm).mono (Nat.le_refl _) (by omega)) (sha_nil 0 _)))))).mono (by simp only [nS]; omega) (Nat.le_refl _)⟩
  | .ite a b1 b2, g => by
    rw [goodS] at g
    obtain ⟨m1, h1⟩ := shB b1 g.2.1
    obtain ⟨m2, h2⟩ := shB b2 g.2.2
    rw [dS]
    refine ⟨m1 + m2 + 1 + 1, (sh_tup (m := m1 + m2 + 1) (sha_cons (sh_w (by decide +kernel)) (sha_cons g.1.sh (sha_cons ((sh_tup h1).mono (Nat.le_refl _) (by omega)) (sha_cons ((sh_tup h2).mono (Nat.le_refl _) (by omega)) (sha_nil 0 _)))))).mono (by simp only [nS]; omega) (Nat.le_refl _)⟩
  | .whl a b, g => by
    rw [goodS] at g
    obtain ⟨m, hm⟩ := shB b g.2
    rw [dS]
    refine ⟨m + 1 + 1, (sh_tup (m := m + 1) (sha_cons (sh_w (by decide +kernel)) (sha_cons g.1.sh (sha_cons ((sh_tup hm).mono (Nat.le_refl _) (by omega)) (sha_nil 0 _))))).mono (by simp only [nS]; omega) (Nat.le_refl _)⟩
  | .tms one x a b, g => by
    rw [goodS] at g
    obtain ⟨m, hm⟩ := shB b g.2.2
    have hw : modeS one ∈ (["let", "sum", "call", "set", "tell", "give", "fn", "if", "while", "times", "one", "own", "body", "other", "head"] : List Str) := by cases one <;> decide +kernel
    rw [dS]
    refine ⟨m + 1 + 1, (sh_tup (m := m + 1) (sha_cons (sh_w (by decide +kernel)) (sha_cons (sh_w hw) (sha_cons (nm_sh g.1 (Nat.le_refl _)) (sha_cons g.2.1.sh (sha_cons ((sh_tup hm).mono (Nat.le_refl _) (by omega)) (sha_nil 0 _))))))).mono (by simp only [nS]; omega) (Nat.le_refl _)⟩
theorem shB : ∀ b : Blk, goodB b → ∃ m, ShA (dB b) (1602 * nB b) m
  | .nil, _ => ⟨0, sha_nil _ _⟩
  | .cons s r, g => by
    rw [goodB] at g
    obtain ⟨m1, h1⟩ := shS s g.1
    obtain ⟨m2, h2⟩ := shB r g.2
    have : 1 ≤ nS s := by cases s <;> simp only [nS] <;> omega
    rw [dB]
    refine ⟨m1 + m2, (sha_cons (h1.mono (Nat.le_refl _) (Nat.le_add_right _ _)) (h2.mono (Nat.le_refl _) (Nat.le_add_left _ _))).mono ?_ (Nat.le_refl _)⟩
    simp only [nB]
    omega
end
end Fb
set_option Elab.async false
set_option linter.all false
set_option maxRecDepth 100000
set_option maxHeartbeats 2000000
namespace Fb
open PySem PySem.Spec PyProof.Rows L2
/-! ### blocks as lists; heights -/
def stms : Blk → List Stm
  | .nil => []
  | .cons s r => s :: stms r
theorem dB_stms : ∀ b : Blk, dB b = (stms b).map dS
  | .nil => rfl
  | .cons s r => by rw [dB, stms, List.map_cons, dB_stms r]
def layL (l : List Stm) (g b : Nat) (t : Fb.TS) : Fb.TS := l.foldl (fun t s => layS s g b t) t
theorem layB_stms : ∀ (blk : Blk) (g b : Nat) (t : Fb.TS), layB blk g b t = layL (stms blk) g b t
  | .nil, _, _, _ => rfl
  | .cons s r, g, b, t => by
    rw [layB, layB_stms r]
    rfl
theorem layL_snoc (l : List Stm) (s : Stm) (g b : Nat) (t : Fb.TS) : layL (l ++ [s]) g b t = layS s g b (layL l g b t) := by
  unfold layL
  rw [List.foldl_append]
  rfl
def wL (l : List Stm) : Nat := (l.map wS).sum
theorem wL_snoc (l : List Stm) (s : Stm) : wL (l ++ [s]) = wL l + wS s := by simp [wL]
theorem wB_stms : ∀ b : Blk, wB b = wL (stms b)
  | .nil => rfl
  | .cons s r => by
    rw [wB, stms, wB_stms r]
    simp [wL]
theorem w_layL : ∀ (l : List Stm) (g b : Nat) (t : Fb.TS), (layL l g b t).n ≤ t.n + wL l
  | [], _, _, _ => Nat.le_refl _
  | s :: r, g, b, t => by
    have h1 := w_layL r g b (layS s g b t)
    have h2 := w_layS s g b t
    have e : wL (s :: r) = wS s + wL r := by simp [wL]
    rw [e]
    show (layL r g b (layS s g b t)).n ≤ _
    omega
theorem wL_take (l : List Stm) (i : Nat) : wL (l.take i) ≤ wL l := by
  have h : wL l = wL (l.take i) + wL (l.drop i) := by
    unfold wL
    rw [← List.sum_append_nat, ← List.map_append, List.take_append_drop]
  omega
theorem good_stms : ∀ {b : Blk}, goodB b → ∀ s ∈ stms b, goodS s
  | .nil, _, _, h => by cases h
  | .cons x r, g, s, h => by
    rw [goodB] at g
    rcases List.mem_cons.mp h with e | e
    · rw [e]; exact g.1
    · exact good_stms g.2 s e
mutual
def hS : Stm → Nat
  | .mk .. => 0
  | .no .. => 0
  | .fn _ _ b => 1 + hB b
  | .ite _ b1 b2 => 1 + max (hB b1) (hB b2)
  | .whl _ b => 1 + hB b
  | .tms _ _ _ b => 1 + hB b
def hB : Blk → Nat
  | .nil => 0
  | .cons s r => max (hS s) (hB r)
end
theorem hB_mem : ∀ {b : Blk} {s : Stm}, s ∈ stms b → hS s ≤ hB b
  | .nil, _, h => by cases h
  | .cons x r, s, h => by
    rw [hB]
    rcases List.mem_cons.mp h with e | e
    · rw [e]; exact Nat.le_max_left _ _
    · exact Nat.le_trans (hB_mem e) (Nat.le_max_right _ _)
mutual
theorem hS_dep : ∀ s : Stm, 2 * hS s ≤ (dS s).depth
  | .mk .. => Nat.zero_le _
  | .no .. => Nat.zero_le _
  | .fn x ps b => by
    have := hB_dep b
    simp only [hS, dS, PyData.depth, PyData.depthAll]
    omega
  | .ite c b1 b2 => by
    have := hB_dep b1
    have := hB_dep b2
    simp only [hS, dS, PyData.depth, PyData.depthAll]
    omega
  | .whl c b => by
    have := hB_dep b
    simp only [hS, dS, PyData.depth, PyData.depthAll]
    omega
  | .tms one x c b => by
    have := hB_dep b
    simp only [hS, dS, PyData.depth, PyData.depthAll]
    omega
theorem hB_dep : ∀ b : Blk, 2 * hB b ≤ PyData.depthAll (dB b)
  | .nil => Nat.zero_le _
  | .cons s r => by
    have := hS_dep s
    have := hB_dep r
    rw [dB]
    simp only [hB, PyData.depthAll]
    omega
end
/-! ### rows that stay -/
def Rw (K : PySem.W.Frag) (H : Hp) (l : Addr) (ds : List PyData) : Prop := ∃ vs, H l = some (.lst vs) ∧ DpAll K H vs ds ∧ noLs ds = true
theorem Rw.mod {K : PySem.W.Frag} {H H' : Hp} {l : Addr} {ds : List PyData} (h : Rw K H l ds) (e : Ext H H') (k : ∀ o, H l = some o → H' l = some o) : Rw K H' l ds := by
  obtain ⟨vs, h1, h2, h3⟩ := h
  exact ⟨vs, k _ h1, dps_ext e _ _ h2 h3, h3⟩
/-! ### the dict of lists -/
def fD (ls la lb lg lm : Addr) : List (Key × V) := [(.inr "statements", .ref ls), (.inr "at", .ref la), (.inr "bodies", .ref lb), (.inr "grounds", .ref lg), (.inr "makings", .ref lm)]
theorem fk01 : ¬ (kx "statements" = kx "at") := by decide +kernel
theorem fk02 : ¬ (kx "statements" = kx "bodies") := by decide +kernel
theorem fk03 : ¬ (kx "statements" = kx "grounds") := by decide +kernel
theorem fk04 : ¬ (kx "statements" = kx "makings") := by decide +kernel
theorem fk12 : ¬ (kx "at" = kx "bodies") := by decide +kernel
theorem fk13 : ¬ (kx "at" = kx "grounds") := by decide +kernel
theorem fk14 : ¬ (kx "at" = kx "makings") := by decide +kernel
theorem fk23 : ¬ (kx "bodies" = kx "grounds") := by decide +kernel
theorem fk24 : ¬ (kx "bodies" = kx "makings") := by decide +kernel
theorem fk34 : ¬ (kx "grounds" = kx "makings") := by decide +kernel
theorem gf_st {H : Hp} {fd ls la lb lg lm : Addr} (h : H fd = some (.dK (fD ls la lb lg lm))) : DGet H fd (.str "statements") (some (.ref ls)) := by
  have z := DGet.k (k := kx "statements") h
  rw [show valV (fD ls la lb lg lm) (kx "statements") = some (.ref ls) from valV_pos rfl] at z
  exact z
theorem gf_at_ {H : Hp} {fd ls la lb lg lm : Addr} (h : H fd = some (.dK (fD ls la lb lg lm))) : DGet H fd (.str "at") (some (.ref la)) := by
  have z := DGet.k (k := kx "at") h
  rw [show valV (fD ls la lb lg lm) (kx "at") = some (.ref la) from (valV_neg fk01).trans (valV_pos rfl)] at z
  exact z
theorem gf_bd {H : Hp} {fd ls la lb lg lm : Addr} (h : H fd = some (.dK (fD ls la lb lg lm))) : DGet H fd (.str "bodies") (some (.ref lb)) := by
  have z := DGet.k (k := kx "bodies") h
  rw [show valV (fD ls la lb lg lm) (kx "bodies") = some (.ref lb) from (valV_neg fk02).trans ((valV_neg fk12).trans (valV_pos rfl))] at z
  exact z
theorem gf_gr {H : Hp} {fd ls la lb lg lm : Addr} (h : H fd = some (.dK (fD ls la lb lg lm))) : DGet H fd (.str "grounds") (some (.ref lg)) := by
  have z := DGet.k (k := kx "grounds") h
  rw [show valV (fD ls la lb lg lm) (kx "grounds") = some (.ref lg) from (valV_neg fk03).trans ((valV_neg fk13).trans ((valV_neg fk23).trans (valV_pos rfl)))] at z
  exact z
theorem gf_mm {H : Hp} {fd ls la lb lg lm : Addr} (h : H fd = some (.dK (fD ls la lb lg lm))) : DGet H fd (.str "makings") (some (.ref lm)) := by
  have z := DGet.k (k := kx "makings") h
  rw [show valV (fD ls la lb lg lm) (kx "makings") = some (.ref lm) from (valV_neg fk04).trans ((valV_neg fk14).trans ((valV_neg fk24).trans ((valV_neg fk34).trans (valV_pos rfl))))] at z
  exact z
theorem merge_f {ls la lb lg lm : Addr} : mergeK [] (fD ls la lb lg lm) = fD ls la lb lg lm := by
  have a01 := fk01
  have a02 := fk02
  have a03 := fk03
  have a04 := fk04
  have a12 := fk12
  have a13 := fk13
  have a14 := fk14
  have a23 := fk23
  have a24 := fk24
  have a34 := fk34
  simp [mergeK, putK, fD, a01, a02, a03, a04, a12, a13, a14, a23, a24, a34]
structure FoundAt (K : PySem.W.Frag) (H : Hp) (fd ls la lb lg lm : Addr) (t : Fb.TS) : Prop where
  di : H fd = some (.dK (fD ls la lb lg lm))
  st : Rw K H ls (t.pl.map (·.1))
  at_ : Rw K H la (t.pl.map fun e => nD e.2.2)
  bd : Rw K H lb (t.bd)
  gr : Rw K H lg (t.gr)
  mm : Rw K H lm (t.mm)
  nd : [ls, la, lb, lg, lm].Nodup
section
variable {K : PySem.W.Frag} {H H' : Hp} {fd ls la lb lg lm : Addr} {t : Fb.TS}
theorem FoundAt.nes (h : FoundAt K H fd ls la lb lg lm t) : (ls ≠ la ∧ ls ≠ lb ∧ ls ≠ lg ∧ ls ≠ lm) ∧ (la ≠ lb ∧ la ≠ lg ∧ la ≠ lm) ∧ (lb ≠ lg ∧ lb ≠ lm) ∧ lg ≠ lm := by
  have z := h.nd
  simp only [List.nodup_cons, List.mem_cons, List.not_mem_nil, or_false, not_or, List.nodup_nil, and_true, not_false_eq_true] at z
  exact z
theorem FoundAt.same (h : FoundAt K H fd ls la lb lg lm t) (s : Same H H') : FoundAt K H' fd ls la lb lg lm t :=
  ⟨s _ _ h.di, h.st.mod (Same.ext s) (fun o => s _ o), h.at_.mod (Same.ext s) (fun o => s _ o), h.bd.mod (Same.ext s) (fun o => s _ o), h.gr.mod (Same.ext s) (fun o => s _ o), h.mm.mod (Same.ext s) (fun o => s _ o), h.nd⟩
theorem FoundAt.ext5 (h : FoundAt K H fd ls la lb lg lm t) (m : Mod [ls, la, lb, lg, lm] H H') : Ext H H' := by
  obtain ⟨v0, h0, _⟩ := h.st
  obtain ⟨v1, h1, _⟩ := h.at_
  obtain ⟨v2, h2, _⟩ := h.bd
  obtain ⟨v3, h3, _⟩ := h.gr
  obtain ⟨v4, h4, _⟩ := h.mm
  refine m.ext fun b hb => ?_
  simp only [List.mem_cons, List.not_mem_nil, or_false] at hb
  rcases hb with e | e | e | e | e <;> subst e
  · exact no_lst h0
  · exact no_lst h1
  · exact no_lst h2
  · exact no_lst h3
  · exact no_lst h4
theorem FoundAt.up_st (h : FoundAt K H fd ls la lb lg lm t) (m : Mod [ls] H H') {ds : List PyData} (r : Rw K H' ls ds) : H' fd = some (.dK (fD ls la lb lg lm)) ∧ Rw K H' ls ds ∧ Rw K H' la (t.pl.map fun e => nD e.2.2) ∧ Rw K H' lb (t.bd) ∧ Rw K H' lg (t.gr) ∧ Rw K H' lm (t.mm) := by
  obtain ⟨⟨n01, n02, n03, n04⟩, ⟨n12, n13, n14⟩, ⟨n23, n24⟩, n34⟩ := h.nes
  obtain ⟨v, hv, _⟩ := h.st
  have e : Ext H H' := m.ext fun b hb => by rw [List.mem_singleton.mp hb]; exact no_lst hv
  have k : ∀ {x : Addr}, x ≠ ls → ∀ o, H x = some o → H' x = some o := fun hx o q => m _ o q (by simpa using hx)
  have nf : fd ≠ ls := ne_of h.di hv (by intro z; cases z)
  exact ⟨k nf _ h.di, r, h.at_.mod e (k n01.symm), h.bd.mod e (k n02.symm), h.gr.mod e (k n03.symm), h.mm.mod e (k n04.symm)⟩
theorem FoundAt.up_at_ (h : FoundAt K H fd ls la lb lg lm t) (m : Mod [la] H H') {ds : List PyData} (r : Rw K H' la ds) : H' fd = some (.dK (fD ls la lb lg lm)) ∧ Rw K H' ls (t.pl.map (·.1)) ∧ Rw K H' la ds ∧ Rw K H' lb (t.bd) ∧ Rw K H' lg (t.gr) ∧ Rw K H' lm (t.mm) := by
  obtain ⟨⟨n01, n02, n03, n04⟩, ⟨n12, n13, n14⟩, ⟨n23, n24⟩, n34⟩ := h.nes
  obtain ⟨v, hv, _⟩ := h.at_
  have e : Ext H H' := m.ext fun b hb => by rw [List.mem_singleton.mp hb]; exact no_lst hv
  have k : ∀ {x : Addr}, x ≠ la → ∀ o, H x = some o → H' x = some o := fun hx o q => m _ o q (by simpa using hx)
  have nf : fd ≠ la := ne_of h.di hv (by intro z; cases z)
  exact ⟨k nf _ h.di, h.st.mod e (k n01), r, h.bd.mod e (k n12.symm), h.gr.mod e (k n13.symm), h.mm.mod e (k n14.symm)⟩
theorem FoundAt.up_bd (h : FoundAt K H fd ls la lb lg lm t) (m : Mod [lb] H H') {ds : List PyData} (r : Rw K H' lb ds) : H' fd = some (.dK (fD ls la lb lg lm)) ∧ Rw K H' ls (t.pl.map (·.1)) ∧ Rw K H' la (t.pl.map fun e => nD e.2.2) ∧ Rw K H' lb ds ∧ Rw K H' lg (t.gr) ∧ Rw K H' lm (t.mm) := by
  obtain ⟨⟨n01, n02, n03, n04⟩, ⟨n12, n13, n14⟩, ⟨n23, n24⟩, n34⟩ := h.nes
  obtain ⟨v, hv, _⟩ := h.bd
  have e : Ext H H' := m.ext fun b hb => by rw [List.mem_singleton.mp hb]; exact no_lst hv
  have k : ∀ {x : Addr}, x ≠ lb → ∀ o, H x = some o → H' x = some o := fun hx o q => m _ o q (by simpa using hx)
  have nf : fd ≠ lb := ne_of h.di hv (by intro z; cases z)
  exact ⟨k nf _ h.di, h.st.mod e (k n02), h.at_.mod e (k n12), r, h.gr.mod e (k n23.symm), h.mm.mod e (k n24.symm)⟩
theorem FoundAt.up_gr (h : FoundAt K H fd ls la lb lg lm t) (m : Mod [lg] H H') {ds : List PyData} (r : Rw K H' lg ds) : H' fd = some (.dK (fD ls la lb lg lm)) ∧ Rw K H' ls (t.pl.map (·.1)) ∧ Rw K H' la (t.pl.map fun e => nD e.2.2) ∧ Rw K H' lb (t.bd) ∧ Rw K H' lg ds ∧ Rw K H' lm (t.mm) := by
  obtain ⟨⟨n01, n02, n03, n04⟩, ⟨n12, n13, n14⟩, ⟨n23, n24⟩, n34⟩ := h.nes
  obtain ⟨v, hv, _⟩ := h.gr
  have e : Ext H H' := m.ext fun b hb => by rw [List.mem_singleton.mp hb]; exact no_lst hv
  have k : ∀ {x : Addr}, x ≠ lg → ∀ o, H x = some o → H' x = some o := fun hx o q => m _ o q (by simpa using hx)
  have nf : fd ≠ lg := ne_of h.di hv (by intro z; cases z)
  exact ⟨k nf _ h.di, h.st.mod e (k n03), h.at_.mod e (k n13), h.bd.mod e (k n23), r, h.mm.mod e (k n34.symm)⟩
theorem FoundAt.up_mm (h : FoundAt K H fd ls la lb lg lm t) (m : Mod [lm] H H') {ds : List PyData} (r : Rw K H' lm ds) : H' fd = some (.dK (fD ls la lb lg lm)) ∧ Rw K H' ls (t.pl.map (·.1)) ∧ Rw K H' la (t.pl.map fun e => nD e.2.2) ∧ Rw K H' lb (t.bd) ∧ Rw K H' lg (t.gr) ∧ Rw K H' lm ds := by
  obtain ⟨⟨n01, n02, n03, n04⟩, ⟨n12, n13, n14⟩, ⟨n23, n24⟩, n34⟩ := h.nes
  obtain ⟨v, hv, _⟩ := h.mm
  have e : Ext H H' := m.ext fun b hb => by rw [List.mem_singleton.mp hb]; exact no_lst hv
  have k : ∀ {x : Addr}, x ≠ lm → ∀ o, H x = some o → H' x = some o := fun hx o q => m _ o q (by simpa using hx)
  have nf : fd ≠ lm := ne_of h.di hv (by intro z; cases z)
  exact ⟨k nf _ h.di, h.st.mod e (k n04), h.at_.mod e (k n14), h.bd.mod e (k n24), h.gr.mod e (k n34), r⟩
end
/-- a new tuple, and a list that gets it -/
theorem rw_push {K : PySem.W.Frag} {H : Hp} {l p : Addr} {vs xs : List V} {ds : List PyData} {d : PyData} (h1 : H l = some (.lst vs)) (h2 : DpAll K H vs ds) (h3 : noLs ds = true) (np : H p = none) (nd : noL d = true)
    (hd : Dp K (L2.upd (L2.upd H p (.tup xs)) l (.lst (vs ++ [.ref p]))) (.ref p) d) : Rw K (L2.upd (L2.upd H p (.tup xs)) l (.lst (vs ++ [.ref p]))) l (ds ++ [d]) := by
  have ne : l ≠ p := ne_of_none h1 np
  have e1 : Ext H (L2.upd H p (.tup xs)) := Same.ext (same_new np)
  have hl : (L2.upd H p (.tup xs)) l = some (.lst vs) := same_new np _ _ h1
  have e2 : Ext (L2.upd H p (.tup xs)) (L2.upd (L2.upd H p (.tup xs)) l (.lst (vs ++ [.ref p]))) := fun b x e f => by
    rw [upd_ne (show b ≠ l from fun z => no_lst hl x (by rw [← z]; exact e) f)]
    exact e
  refine ⟨_, upd_same, dps_snoc (dps_ext (e1.trans e2) _ _ h2 h3) hd, ?_⟩
  have z : ∀ (a : List PyData), noLs a = true → noLs (a ++ [d]) = true := fun a => by
    induction a with
    | nil => intro _; rw [List.nil_append, noLs, nd]; rfl
    | cons x r ih =>
      intro q
      rw [noLs, Bool.and_eq_true] at q
      rw [List.cons_append, noLs, q.1, ih q.2]
      rfl
  exact z ds h3
end Fb
set_option Elab.async false
set_option linter.all false
set_option maxRecDepth 100000
set_option maxHeartbeats 2000000
namespace Fb
open PySem PySem.Spec PyProof.Rows L2
theorem noattr {K : PySem.W.Frag} {C : Addr} {f : Str} (h : PySem.W.findIn K (.ref C) f = some none) : NoAttr K C f := h
theorem kit_self {K : PySem.W.Frag} {C : Addr} : PySem.W.kitOne K (.ref C) (.ref C) = some true := by
  unfold PySem.W.kitOne
  rw [if_pos (by simp)]
theorem kit_no {K : PySem.W.Frag} {a b : Addr} {r : Bool} (ne : (Value.ref a == Value.ref b) = false) (h1 : PySem.W.isClsIn K b = true) (h2 : PySem.W.typeIn K (.ref b) = some (.type "type")) (h3 : PySem.W.subIn K (.ref a) (.ref b) = some r) : PySem.W.kitOne K (.ref a) (.ref b) = some r := by
  unfold PySem.W.kitOne
  rw [if_neg (by rw [ne]; exact Bool.false_ne_true)]
  unfold PySem.W.kitCls
  have h1' : (PySem.W.clsIn K b).isSome = true := h1
  simp only [h1', h2, Bool.true_and]
  rw [if_pos (by simp), h3]
def RowsOk (t : Fb.TS) : Prop := (∀ d ∈ t.gr, Sh d 900 2) ∧ (∀ d ∈ t.mm, Sh d 900 2) ∧ ∀ d ∈ t.bd, Sh d 900 2
theorem sh_nD {n m k : Nat} (h : n ≤ 1000000) (hk : 13 ≤ k) : Sh (nD n) k m := sh_int (by omega) hk
theorem sh_rowG {s : Str} {k a : PyData} (hs : s ∈ (["let", "sum", "call", "set", "tell", "give", "fn", "if", "while", "times", "one", "own", "body", "other", "head"] : List Str)) (hk : Sh k 13 1) (ha : Sh a 13 1) : Sh (rowG s k a) 900 2 :=
  (sh_tup (sha_cons (sh_w hs) (sha_cons hk (sha_cons ha (sha_nil 0 1))))).mono (by decide) (by decide)
theorem sh_rowM {x : Str} {k g : Nat} (hx : nm x) (hk : k ≤ 1000000) (hg : g ≤ 1000000) : Sh (rowM x k g) 900 2 :=
  (sh_tup (m := 1) (sha_cons (nm_sh (n := 202) hx (Nat.le_refl _)) (sha_cons (sh_nD (k := 13) hk (Nat.le_refl _)) (sha_cons (sh_nD (k := 13) hg (Nat.le_refl _)) (sha_nil 0 1))))).mono (by decide) (by decide)
theorem sh_rowB {k : PyData} {ps : List Str} (hk : Sh k 13 1) (h : ps.length ≤ 4) (g : ∀ p ∈ ps, nm p) : Sh (rowB k ps) 900 2 :=
  (sh_tup (m := 1) (sha_cons hk (sha_cons (sh_ps h g) (sha_nil 0 1)))).mono (by decide) (by decide)
theorem all_snoc {ds : List PyData} {d : PyData} (h : ∀ e ∈ ds, Sh e 900 2) (hd : Sh d 900 2) : ∀ e ∈ ds ++ [d], Sh e 900 2 := fun e z => by
  rcases List.mem_append.mp z with q | q
  · exact h e q
  · rw [List.mem_singleton.mp q]; exact hd
theorem all_app {a b : List PyData} (h : ∀ e ∈ a, Sh e 900 2) (k : ∀ e ∈ b, Sh e 900 2) : ∀ e ∈ a ++ b, Sh e 900 2 := fun e z => by
  rcases List.mem_append.mp z with q | q
  · exact h e q
  · exact k e q
mutual
theorem rowsS : ∀ (s : Stm) (g b : Nat) (t : Fb.TS), goodS s → g ≤ 100000 → t.n + wS s ≤ 100000 → RowsOk t → RowsOk (layS s g b t)
  | .mk w x r h, g, b, t, gs, hg, hn, hr => by
    rw [goodS] at gs
    rw [layS]
    simp only [TS.n] at hn
    exact ⟨hr.1, all_snoc hr.2.1 (sh_rowM gs.1 (by omega) (by omega)), hr.2.2⟩
  | .no w r h, g, b, t, gs, hg, hn, hr => by
    rw [layS]
    exact hr
  | .fn x ps blk, g, b, t, gs, hg, hn, hr => by
    rw [goodS] at gs
    rw [layS]
    simp only [TS.n, wS] at hn
    refine rowsB blk _ _ _ gs.2.2.2 (by omega) (by simp only [TS.n, List.length_append, List.length_cons, List.length_nil, List.length_map]; omega) ⟨all_snoc hr.1 (sh_rowG (by decide +kernel) (sh_nD (by omega) (Nat.le_refl _)) (sh_nD (by omega) (Nat.le_refl _))), ?_, all_snoc hr.2.2 (sh_rowB (sh_nD (by omega) (Nat.le_refl _)) gs.2.1 gs.2.2.1)⟩
    refine all_app hr.2.1 fun e z => ?_
    rcases List.mem_cons.mp z with q | q
    · rw [q]; exact sh_rowM gs.1 (by omega) (by omega)
    · obtain ⟨y, hy, rfl⟩ := List.mem_map.mp q
      exact sh_rowM (gs.2.2.1 y hy) (by omega) (by omega)
  | .ite c b1 b2, g, b, t, gs, hg, hn, hr => by
    rw [goodS] at gs
    rw [layS]
    simp only [TS.n, wS] at hn
    have w1 := w_layB b1 t.gr.length b { t with pl := t.pl ++ [(dS (.ite c b1 b2), g, b)], gr := t.gr ++ [rowG "one" (nD t.pl.length) (nD g)] }
    have r1 := rowsB b1 t.gr.length b { t with pl := t.pl ++ [(dS (.ite c b1 b2), g, b)], gr := t.gr ++ [rowG "one" (nD t.pl.length) (nD g)] } gs.2.1 (by omega) (by simp only [TS.n, List.length_append, List.length_cons, List.length_nil]; omega) ⟨all_snoc hr.1 (sh_rowG (by decide +kernel) (sh_nD (by omega) (Nat.le_refl _)) (sh_nD (by omega) (Nat.le_refl _))), hr.2.1, hr.2.2⟩
    simp only [TS.n, List.length_append, List.length_cons, List.length_nil] at w1
    refine rowsB b2 _ _ _ gs.2.2 ?_ ?_ ⟨all_snoc r1.1 (sh_rowG (by decide +kernel) (sh_nD (by omega) (Nat.le_refl _)) (sh_nD (by omega) (Nat.le_refl _))), r1.2.1, r1.2.2⟩
    · omega
    · simp only [TS.n, List.length_append, List.length_cons, List.length_nil]
      omega
  | .whl c blk, g, b, t, gs, hg, hn, hr => by
    rw [goodS] at gs
    rw [layS]
    simp only [TS.n, wS] at hn
    exact rowsB blk _ _ _ gs.2 (by omega) (by simp only [TS.n, List.length_append, List.length_cons, List.length_nil]; omega) ⟨all_snoc hr.1 (sh_rowG (by decide +kernel) (sh_nD (by omega) (Nat.le_refl _)) (sh_nD (by omega) (Nat.le_refl _))), hr.2.1, hr.2.2⟩
  | .tms true x c blk, g, b, t, gs, hg, hn, hr => by
    rw [goodS] at gs
    rw [layS]
    simp only [TS.n, wS] at hn
    exact rowsB blk _ _ _ gs.2.2 (by omega) (by simp only [TS.n, List.length_append, List.length_cons, List.length_nil]; omega) ⟨all_snoc (all_snoc hr.1 (sh_rowG (by decide +kernel) (sh_nD (by omega) (Nat.le_refl _)) (sh_nD (by omega) (Nat.le_refl _)))) (sh_rowG (by decide +kernel) (sh_nD (by omega) (Nat.le_refl _)) (sh_nD (by omega) (Nat.le_refl _))), all_snoc hr.2.1 (sh_rowM gs.1 (by omega) (by omega)), hr.2.2⟩
  | .tms false x c blk, g, b, t, gs, hg, hn, hr => by
    rw [goodS] at gs
    rw [layS]
    simp only [TS.n, wS] at hn
    exact rowsB blk _ _ _ gs.2.2 (by omega) (by simp only [TS.n, List.length_append, List.length_cons, List.length_nil]; omega) ⟨all_snoc hr.1 (sh_rowG (by decide +kernel) (sh_nD (by omega) (Nat.le_refl _)) (sh_nD (by omega) (Nat.le_refl _))), all_snoc hr.2.1 (sh_rowM gs.1 (by omega) (by omega)), hr.2.2⟩
theorem rowsB : ∀ (blk : Blk) (g b : Nat) (t : Fb.TS), goodB blk → g ≤ 100000 → t.n + wB blk ≤ 100000 → RowsOk t → RowsOk (layB blk g b t)
  | .nil, g, b, t, _, _, _, hr => hr
  | .cons s r, g, b, t, gb, hg, hn, hr => by
    rw [goodB] at gb
    rw [layB]
    simp only [wB] at hn
    have w1 := w_layS s g b t
    exact rowsB r g b _ gb.2 hg (by omega) (rowsS s g b t gb.1 hg (by omega) hr)
end
/-- a list of good rows is shown -/
theorem sh_rows {ds : List PyData} (h : ∀ d ∈ ds, Sh d 900 2) (n : ds.length ≤ 1000) : Sh (.list ds) 1000000 3 := by
  refine (sh_lst (sha_all h)).mono ?_ (Nat.le_refl _)
  have : ds.length * (900 + 2) ≤ 1000 * (900 + 2) := Nat.mul_le_mul_right _ n
  omega
end Fb
set_option Elab.async false
set_option linter.all false
set_option maxRecDepth 100000
set_option maxHeartbeats 2000000
namespace Fb
open PySem PySem.Spec PyProof.Rows L2
/-! ### the statements in reading order: how many, how they are shown -/
mutual
theorem lenS : ∀ (s : Stm) (g b : Nat) (t : Fb.TS), (layS s g b t).pl.length = t.pl.length + nS s
  | .mk w x r h, g, b, t => by simp [layS, nS]
  | .no w r h, g, b, t => by simp [layS, nS]
  | .fn x ps blk, g, b, t => by
    rw [layS, lenB blk]
    simp only [nS, List.length_append, List.length_cons, List.length_nil]
    omega
  | .ite c b1 b2, g, b, t => by
    rw [layS, lenB b2, lenB b1]
    simp only [nS, List.length_append, List.length_cons, List.length_nil]
    omega
  | .whl c blk, g, b, t => by
    rw [layS, lenB blk]
    simp only [nS, List.length_append, List.length_cons, List.length_nil]
    omega
  | .tms true x c blk, g, b, t => by
    rw [layS, lenB blk]
    simp only [nS, List.length_append, List.length_cons, List.length_nil]
    omega
  | .tms false x c blk, g, b, t => by
    rw [layS, lenB blk]
    simp only [nS, List.length_append, List.length_cons, List.length_nil]
    omega
theorem lenB : ∀ (blk : Blk) (g b : Nat) (t : Fb.TS), (layB blk g b t).pl.length = t.pl.length + nB blk
  | .nil, g, b, t => rfl
  | .cons s r, g, b, t => by
    rw [layB, lenB r, lenS s]
    simp only [nB]
    omega
end
def PlOk (t : Fb.TS) : Prop := ∀ e ∈ t.pl, Sh e.1 96118 40 ∧ e.2.2 ≤ 100000
theorem pl_snoc {l : List (PyData × Nat × Nat)} {d : PyData} {g b : Nat} (h : ∀ e ∈ l, Sh e.1 96118 40 ∧ e.2.2 ≤ 100000) (hd : Sh d 96118 40) (hb : b ≤ 100000) : ∀ e ∈ l ++ [(d, g, b)], Sh e.1 96118 40 ∧ e.2.2 ≤ 100000 := fun e z => by
  rcases List.mem_append.mp z with q | q
  · exact h e q
  · rw [List.mem_singleton.mp q]; exact ⟨hd, hb⟩
theorem sh_stm {s : Stm} (g : goodS s) (n : nS s ≤ 60) (d : (dS s).depth ≤ 40) : Sh (dS s) 96118 40 := by
  obtain ⟨m, h⟩ := shS s g
  exact h.deep.mono (by omega) d
mutual
theorem plS : ∀ (s : Stm) (g b : Nat) (t : Fb.TS), goodS s → nS s ≤ 60 → (dS s).depth ≤ 40 → b ≤ 100000 → t.n + wS s ≤ 100000 → PlOk t → PlOk (layS s g b t)
  | .mk w x r h, g, b, t, gs, hn, hd, hb, hw, hp => by
    rw [layS]
    exact pl_snoc hp (sh_stm gs hn hd) hb
  | .no w r h, g, b, t, gs, hn, hd, hb, hw, hp => by
    rw [layS]
    exact pl_snoc hp (sh_stm gs hn hd) hb
  | .fn x ps blk, g, b, t, gs, hn, hd, hb, hw, hp => by
    have s0 := sh_stm gs hn hd
    rw [goodS] at gs
    rw [layS]
    simp only [nS] at hn
    simp only [dS, PyData.depth, PyData.depthAll] at hd
    simp only [TS.n, wS] at hw
    exact plB blk _ _ _ gs.2.2.2 (by omega) (by omega) (by omega) (by simp only [TS.n, List.length_append, List.length_cons, List.length_nil, List.length_map]; omega) (pl_snoc hp s0 hb)
  | .ite c b1 b2, g, b, t, gs, hn, hd, hb, hw, hp => by
    have s0 := sh_stm gs hn hd
    rw [goodS] at gs
    rw [layS]
    simp only [nS] at hn
    simp only [dS, PyData.depth, PyData.depthAll] at hd
    simp only [TS.n, wS] at hw
    have w1 := w_layB b1 t.gr.length b { t with pl := t.pl ++ [(dS (.ite c b1 b2), g, b)], gr := t.gr ++ [rowG "one" (nD t.pl.length) (nD g)] }
    simp only [TS.n, List.length_append, List.length_cons, List.length_nil] at w1
    refine plB b2 _ _ _ gs.2.2 (by omega) (by omega) hb ?_ (plB b1 _ _ _ gs.2.1 (by omega) (by omega) hb (by simp only [TS.n, List.length_append, List.length_cons, List.length_nil]; omega) (pl_snoc hp s0 hb))
    simp only [TS.n, List.length_append, List.length_cons, List.length_nil]
    omega
  | .whl c blk, g, b, t, gs, hn, hd, hb, hw, hp => by
    have s0 := sh_stm gs hn hd
    rw [goodS] at gs
    rw [layS]
    simp only [nS] at hn
    simp only [dS, PyData.depth, PyData.depthAll] at hd
    simp only [TS.n, wS] at hw
    exact plB blk _ _ _ gs.2 (by omega) (by omega) hb (by simp only [TS.n, List.length_append, List.length_cons, List.length_nil]; omega) (pl_snoc hp s0 hb)
  | .tms true x c blk, g, b, t, gs, hn, hd, hb, hw, hp => by
    have s0 := sh_stm gs hn hd
    rw [goodS] at gs
    rw [layS]
    simp only [nS] at hn
    simp only [dS, PyData.depth, PyData.depthAll] at hd
    simp only [TS.n, wS] at hw
    exact plB blk _ _ _ gs.2.2 (by omega) (by omega) hb (by simp only [TS.n, List.length_append, List.length_cons, List.length_nil]; omega) (pl_snoc hp s0 hb)
  | .tms false x c blk, g, b, t, gs, hn, hd, hb, hw, hp => by
    have s0 := sh_stm gs hn hd
    rw [goodS] at gs
    rw [layS]
    simp only [nS] at hn
    simp only [dS, PyData.depth, PyData.depthAll] at hd
    simp only [TS.n, wS] at hw
    exact plB blk _ _ _ gs.2.2 (by omega) (by omega) hb (by simp only [TS.n, List.length_append, List.length_cons, List.length_nil]; omega) (pl_snoc hp s0 hb)
theorem plB : ∀ (blk : Blk) (g b : Nat) (t : Fb.TS), goodB blk → nB blk ≤ 60 → PyData.depthAll (dB blk) ≤ 40 → b ≤ 100000 → t.n + wB blk ≤ 100000 → PlOk t → PlOk (layB blk g b t)
  | .nil, g, b, t, _, _, _, _, _, hp => hp
  | .cons s r, g, b, t, gb, hn, hd, hb, hw, hp => by
    rw [goodB] at gb
    rw [layB]
    simp only [wB] at hw
    simp only [nB] at hn
    simp only [dB, PyData.depthAll] at hd
    have w1 := w_layS s g b t
    exact plB r g b _ gb.2 (by omega) (by omega) hb (by omega) (plS s g b t gb.1 (by omega) (by omega) hb (by omega) hp)
end
theorem sh_nums {l : List (PyData × Nat × Nat)} (h : ∀ e ∈ l, Sh e.1 96118 40 ∧ e.2.2 ≤ 100000) (n : l.length ≤ 60) : Sh (.list (l.map fun e => nD e.2.2)) 1000 1 := by
  refine (sh_lst (sha_all (a := 13) (m := 0) fun d z => ?_)).mono ?_ (Nat.le_refl _)
  · obtain ⟨e, he, rfl⟩ := List.mem_map.mp z
    exact sh_nD (by have := (h e he).2; omega) (Nat.le_refl _)
  · rw [List.length_map]
    have : l.length * (13 + 2) ≤ 60 * (13 + 2) := Nat.mul_le_mul_right _ n
    omega
theorem sh_stms {l : List (PyData × Nat × Nat)} (h : ∀ e ∈ l, Sh e.1 96118 40 ∧ e.2.2 ≤ 100000) (n : l.length ≤ 60) : Sh (.list (l.map (·.1))) 6000000 41 := by
  have h1 : ∀ d ∈ l.map (·.1), Sh d 96118 40 := fun d z => by
    obtain ⟨e, he, rfl⟩ := List.mem_map.mp z
    exact (h e he).1
  have h2 := sha_all h1
  have h3 := sh_lst h2
  have n2 : (l.map (·.1)).length ≤ 60 := by rw [List.length_map]; exact n
  generalize (l.map (·.1)).length = k at h3 n2
  have h4 : k * (96118 + 2) + 3 ≤ 6000000 := by omega
  exact h3.mono h4 (by omega)
end Fb
set_option Elab.async false
set_option linter.all false
set_option maxRecDepth 100000
set_option maxHeartbeats 4000000
namespace K03
open PySem PySem.Spec PyProof.Rows L2 Fb
def top (i : Nat) : Stmt := PySem.Challenge.pw_fourbind_k03_statements_and_bodies.main.body.getD i (.Pass ⟨0, 0, 0, 0⟩)
abbrev sBInit : Stmt := inClass (top 1) 0
abbrev sPInit : Stmt := inClass (top 2) 0
abbrev sTInit : Stmt := inClass (top 3) 0
abbrev sEnter : Stmt := inClass (top 3) 1
abbrev sMeet : Stmt := inClass (top 3) 2
abbrev s_blocks_of : Stmt := top 4
abbrev s_made_by : Stmt := top 5
abbrev s_statements : Stmt := top 6
abbrev s_body_at : Stmt := top 7
abbrev s_bodies : Stmt := top 8
abbrev s_l_deal : Stmt := top 10
abbrev s_l_draw : Stmt := top 11
abbrev s_l_words : Stmt := top 12
abbrev s_l_any_atom : Stmt := top 13
abbrev s_l_any_flat : Stmt := top 14
abbrev s_l_any_statement : Stmt := top 15
abbrev s_l_any_block : Stmt := top 16
abbrev s_l_any_program : Stmt := top 17
abbrev s_l_laid : Stmt := top 18
abbrev s_l_lay_inner : Stmt := top 19
abbrev s_l_lay_fn : Stmt := top 20
abbrev s_l_lay : Stmt := top 21
abbrev s_l_due : Stmt := top 22
abbrev s_l_right : Stmt := top 23
structure Top (K : PySem.W.Frag) (mg : Str → Option Value) (CB CP CT : Addr) : Prop where
  n_len : mg "len" = none
  n_isinstance : mg "isinstance" = none
  n_max : mg "max" = none
  n_list : mg "list" = none
  n_reversed : mg "reversed" = none
  n_range : mg "range" = none
  n_int : mg "int" = none
  n_repr : mg "repr" = none
  n_tuple : mg "tuple" = none
  n_all : mg "all" = none
  clB : Cls K CB
  c_Block : Cn mg "Block" (.ref CB)
  m_Block : mg "Block" = some (.ref CB)
  nB_kind : NoAttr K CB "kind"
  nB_k : NoAttr K CB "k"
  nB_around : NoAttr K CB "around"
  nB_body : NoAttr K CB "body"
  nB_inside : NoAttr K CB "inside"
  h_BInit : ∃ f fd, L2.Fun K "__init__" "Block.__init__" sBInit f fd ∧ Mk K CB f
  clP : Cls K CP
  c_Place : Cn mg "Place" (.ref CP)
  m_Place : mg "Place" = some (.ref CP)
  nP_statement : NoAttr K CP "statement"
  nP_ground : NoAttr K CP "ground"
  nP_body : NoAttr K CP "body"
  h_PInit : ∃ f fd, L2.Fun K "__init__" "Place.__init__" sPInit f fd ∧ Mk K CP f
  clT : Cls K CT
  c_Tree : Cn mg "Tree" (.ref CT)
  m_Tree : mg "Tree" = some (.ref CT)
  nT_places : NoAttr K CT "places"
  nT_body_rows : NoAttr K CT "body_rows"
  nT_ground_rows : NoAttr K CT "ground_rows"
  nT_making_rows : NoAttr K CT "making_rows"
  h_TInit : ∃ f fd, L2.Fun K "__init__" "Tree.__init__" sTInit f fd ∧ Mk K CT f
  h_enter : ∃ f fd, L2.Fun K "enter" "Tree.enter" sEnter f fd ∧ Meth K CT "enter" f
  h_meet : ∃ f fd, L2.Fun K "meet" "Tree.meet" sMeet f fd ∧ Meth K CT "meet" f
  iB : C8.InsC K CB
  iP : C8.InsC K CP
  pB : PySem.W.kitOne K (.ref CP) (.ref CB) = some false
  h_blocks_of : Has K mg "blocks_of" s_blocks_of
  h_made_by : Has K mg "made_by" s_made_by
  h_statements : Has K mg "statements" s_statements
  h_body_at : Has K mg "body_at" s_body_at
  h_bodies : Has K mg "bodies" s_bodies
  h_l_deal : Has K mg "_law_deal" s_l_deal
  h_l_draw : Has K mg "_law_draw" s_l_draw
  h_l_words : Has K mg "_law_words" s_l_words
  h_l_any_atom : Has K mg "_law_any_atom" s_l_any_atom
  h_l_any_flat : Has K mg "_law_any_flat" s_l_any_flat
  h_l_any_statement : Has K mg "_law_any_statement" s_l_any_statement
  h_l_any_block : Has K mg "_law_any_block" s_l_any_block
  h_l_any_program : Has K mg "_law_any_program" s_l_any_program
  h_l_laid : Has K mg "_law_laid" s_l_laid
  h_l_lay_inner : Has K mg "_law_lay_inner" s_l_lay_inner
  h_l_lay_fn : Has K mg "_law_lay_fn" s_l_lay_fn
  h_l_lay : Has K mg "_law_lay" s_l_lay
  h_l_due : Has K mg "_law_due" s_l_due
  h_l_right : Has K mg "_law_right" s_l_right

/-! ### heaps of trees -/
def bF (kind k a body ins : V) : List (Str × V) := [("kind", kind), ("k", k), ("around", a), ("body", body), ("inside", ins)]
def pF (st g b : V) : List (Str × V) := [("statement", st), ("ground", g), ("body", b)]
def tF (lp lb lg lm : Addr) : List (Str × V) := [("places", .ref lp), ("body_rows", .ref lb), ("ground_rows", .ref lg), ("making_rows", .ref lm)]
theorem upd_upd {H : Hp} {p : Addr} {o o' : HO} : L2.upd (L2.upd H p o) p o' = L2.upd H p o' := by
  funext b
  by_cases e : b = p
  · rw [e, upd_same, upd_same]
  · rw [upd_ne e, upd_ne e, upd_ne e]
def spInit (C : Addr) (n : Nat) (F : List V → List (Str × V)) : Sp := fun vs H Q _ => ∃ (p dx : Addr) (args : List V), vs = .ref p :: args ∧ args.length = n ∧ H p = some (.ins C dx []) ∧ Q .non (L2.upd H p (.ins C dx (F args)))
def FB : List V → List (Str × V)
  | [a, b, c, d, e] => bF a b c d e
  | _ => []
def FP : List V → List (Str × V)
  | [a, b, c] => pF a b c
  | _ => []
theorem same_make {C : Addr} {H : Hp} {x dx : Addr} {o o' : HO} (hx : H x = none) (hd : H dx = none) : Same H (L2.upd (L2.upd (L2.upd H dx (.own x)) x o) x o') := fun b z e => by
  rw [upd_ne (ne_of_none e hx), upd_ne (ne_of_none e hx), upd_ne (ne_of_none e hd)]
  exact e
/-- C(..) of a class whose __init__ stores its arguments -/
theorem use_make {C : Addr} {n : Nat} {F : List V → List (Str × V)} {H : Hp} {Q : VK} {E : XK} (args : List V) (hn : args.length = n) (h : ∀ x dx H2, H x = none → Same H H2 → H2 x = some (.ins C dx (F args)) → Q (.ref x) H2) :
    ∀ x dx, H x = none → H dx = none → dx ≠ x → spInit C n F (.ref x :: (args ++ [])) (L2.upd (L2.upd H dx (.own x)) x (.ins C dx [])) (fun v H2 => v = .non ∧ Q (.ref x) H2) E := by
  intro x dx hx hd ne
  rw [List.append_nil]
  exact ⟨x, dx, args, rfl, hn, upd_same, rfl, h x dx _ hx (same_make (C := C) hx hd) upd_same⟩
theorem fne {a b : Str} (h : ¬ a = b := by decide +kernel) : ¬ a = b := h
section
variable {P : Program} {w : World} {K : PySem.W.Frag} {mg : Str → Option Value} {base : Heap} {CB CP CT : Addr}
theorem scBInit : FnScope ["self", "kind", "k", "around", "body", "inside"] ["self", "kind", "k", "around", "body", "inside"] (defScope sBInit) := ⟨rfl, rfl, rfl, by decide +kernel, rfl, by decide +kernel, by decide +kernel⟩
theorem mk_block (T : Top K mg CB CP CT) : C8.Mak P w K mg base 1 "Block" CB (spInit CB 5 FB) [] := by
  obtain ⟨f, fd, F, M⟩ := T.h_BInit
  refine ⟨f, fd, ["self", "kind", "k", "around", "body", "inside"], [], M, ?_, T.m_Block, F.binds (fun _ _ _ _ _ _ us hl => match us, hl with | [_, _, _, _, _, _], _ => rfl), .nil⟩
  refine F.ok scBInit (fun vs H Q E h => ?_) (fun cdv A outer s H vs Q E hr h => ?_)
  · obtain ⟨p, dx, args, rfl, e, _⟩ := h
    show args.length + 1 = 6
    rw [e]
  · obtain ⟨p, dx, args, rfl, e, hp, k⟩ := h
    obtain ⟨a, b, c, d, g, rfl⟩ : ∃ a b c d g, args = [a, b, c, d, g] := by
      match args, e with
      | [a, b, c, d, g], _ => exact ⟨a, b, c, d, g, rfl⟩
    refine ⟨_, (pss_cons (ps_fld (pv 0) (pv 1) rfl)
  (pss_cons (ps_fld (pv 0) (pv 2) rfl)
  (pss_cons (ps_fld (pv 0) (pv 3) rfl)
  (pss_cons (ps_fld (pv 0) (pv 4) rfl)
  (pss_one (ps_fld (pv 0) (pv 5) rfl)))))), ?_⟩
    refine ⟨_, rfl, _, rfl, p, CB, dx, _, rfl, hp, T.clB, T.nB_kind, (by decide), _, rfl, _, rfl, p, CB, dx, _, rfl, upd_same, T.clB, T.nB_k, (by show 1 < 1000; decide), _, rfl, _, rfl, p, CB, dx, _, rfl, upd_same, T.clB, T.nB_around, ?_, _, rfl, _, rfl, p, CB, dx, _, rfl, upd_same, T.clB, T.nB_body, ?_, _, rfl, _, rfl, p, CB, dx, _, rfl, upd_same, T.clB, T.nB_inside, ?_, ?_⟩
    all_goals
      have n1 : ¬ ("kind" : Str) = "k" := by decide +kernel
      have n2 : ¬ ("kind" : Str) = "around" := by decide +kernel
      have n3 : ¬ ("k" : Str) = "around" := by decide +kernel
      have n4 : ¬ ("kind" : Str) = "body" := by decide +kernel
      have n5 : ¬ ("k" : Str) = "body" := by decide +kernel
      have n6 : ¬ ("around" : Str) = "body" := by decide +kernel
      have n7 : ¬ ("kind" : Str) = "inside" := by decide +kernel
      have n8 : ¬ ("k" : Str) = "inside" := by decide +kernel
      have n9 : ¬ ("around" : Str) = "inside" := by decide +kernel
      have n10 : ¬ ("body" : Str) = "inside" := by decide +kernel
    · simp [putF, n1]
    · simp [putF, n1, n2, n3]
    · simp [putF, n1, n2, n3, n4, n5, n6]
    · show Q .non _
      simp only [putF, n1, n2, n3, n4, n5, n6, n7, n8, n9, n10, if_false, upd_upd]
      exact k
theorem scPInit : FnScope ["self", "statement", "ground", "body"] ["self", "statement", "ground", "body"] (defScope sPInit) := ⟨rfl, rfl, rfl, by decide +kernel, rfl, by decide +kernel, by decide +kernel⟩
theorem mk_place (T : Top K mg CB CP CT) : C8.Mak P w K mg base 1 "Place" CP (spInit CP 3 FP) [] := by
  obtain ⟨f, fd, F, M⟩ := T.h_PInit
  refine ⟨f, fd, ["self", "statement", "ground", "body"], [], M, ?_, T.m_Place, F.binds (fun _ _ _ _ _ _ us hl => match us, hl with | [_, _, _, _], _ => rfl), .nil⟩
  refine F.ok scPInit (fun vs H Q E h => ?_) (fun cdv A outer s H vs Q E hr h => ?_)
  · obtain ⟨p, dx, args, rfl, e, _⟩ := h
    show args.length + 1 = 4
    rw [e]
  · obtain ⟨p, dx, args, rfl, e, hp, k⟩ := h
    obtain ⟨a, b, c, rfl⟩ : ∃ a b c, args = [a, b, c] := by
      match args, e with
      | [a, b, c], _ => exact ⟨a, b, c, rfl⟩
    refine ⟨_, (pss_cons (ps_fld (pv 0) (pv 1) rfl)
  (pss_cons (ps_fld (pv 0) (pv 2) rfl)
  (pss_one (ps_fld (pv 0) (pv 3) rfl)))), ?_⟩
    refine ⟨_, rfl, _, rfl, p, CP, dx, _, rfl, hp, T.clP, T.nP_statement, (by decide), _, rfl, _, rfl, p, CP, dx, _, rfl, upd_same, T.clP, T.nP_ground, (by show 1 < 1000; decide), _, rfl, _, rfl, p, CP, dx, _, rfl, upd_same, T.clP, T.nP_body, ?_, ?_⟩
    all_goals
      have n1 : ¬ ("statement" : Str) = "ground" := by decide +kernel
      have n2 : ¬ ("statement" : Str) = "body" := by decide +kernel
      have n3 : ¬ ("ground" : Str) = "body" := by decide +kernel
    · simp [putF, n1]
    · show Q .non _
      simp only [putF, n1, n2, n3, if_false, upd_upd]
      exact k
/-! ### blocks_of, made_by -/
def spBlocks (K : PySem.W.Frag) : Sp := fun vs H Q _ => ∃ (v : V) (s : Stm), vs = [v] ∧ Dp K H v (dS s) ∧ goodS s ∧ ∀ p H' us, H p = none → H' p = some (.lst us) → DpAll K H' us ((blks s).map kbD) → Same H H' → Q (.ref p) H'
def spMade (K : PySem.W.Frag) : Sp := fun vs H Q _ => ∃ (v : V) (s : Stm) (k g f : Nat), vs = [v, .int k, .int g, .int f] ∧ Dp K H v (dS s) ∧ goodS s ∧ ∀ p H' us, H p = none → H' p = some (.lst us) → DpAll K H' us (madeD s k g f) → Same H H' → Q (.ref p) H'
theorem str_of {x y : Str} (h : decide (V.str x = V.str y) = true) : x = y := V.str.inj (of_decide_eq_true h)
theorem strT {A B : Prop} {x y : Str} (h : x = y) (a : A) : if decide (V.str x = V.str y) = true then A else B := by
  rw [if_pos (decide_eq_true (congrArg V.str h))]
  exact a
theorem strF {A B : Prop} {x y : Str} (h : ¬ x = y) (b : B) : if decide (V.str x = V.str y) = true then A else B := by
  rw [if_neg (fun z => h (str_of z))]
  exact b
theorem boolT {A B : Prop} {c : Bool} (h : c = true) (a : A) : if c = true then A else B := by
  rw [if_pos h]
  exact a
theorem boolF {A B : Prop} {c : Bool} (h : c = false) (b : B) : if c = true then A else B := by
  rw [if_neg (by rw [h]; exact Bool.false_ne_true)]
  exact b
theorem fit {n : Nat} (h : n ≤ 1000) : n ≤ sizeLine := Nat.le_of_lt (small1000 h)
theorem sq_same {H H' : Hp} {a : Addr} {xs : List V} (e : Same H H') (h : SqT K H a xs) : SqT K H' a xs := sqT_ext (Same.ext e) h
theorem scBlocks : FnScope ["statement", "word"] ["statement"] (defScope s_blocks_of) := ⟨rfl, rfl, rfl, by decide +kernel, rfl, by decide +kernel, by decide +kernel⟩
theorem ok_blocks (T : Top K mg CB CP CT) : C8.Cal P w K mg base 1 "blocks_of" (spBlocks K) [] := by
  obtain ⟨f, fd, F, gm⟩ := T.h_blocks_of
  refine ⟨f, fd, ["statement"], [], ?_, gm, F.kp, F.binds (fun _ _ _ _ _ _ us hl => match us, hl with | [_], _ => rfl), .nil⟩
  refine F.ok scBlocks (fun vs H Q E h => ?_) (fun cdv A outer s H vs Q E hr h => ?_)
  · obtain ⟨v, s, rfl, _⟩ := h
    rfl
  · obtain ⟨v, s, rfl, hd, hg, k⟩ := h
    refine ⟨_, (pss_cons (ps_set (i := 1) scBlocks.nd rfl (Or.inl rfl) (pe_ix ix_tup (pv 0) pe_int (fun _ _ => rfl)))
  (pss_cons (ps_if (pt_cmpR op_eq (pv 1) pe_str (nomark _))
    (pss_one (ps_ret (pe_lst (pa_cons (pe_tup (pa_cons pe_str (pa_cons (pe_ix ix_tup (pv 0) pe_int (fun _ _ => rfl)) pa_nil))) pa_nil))))
    pss_nil)
  (pss_cons (ps_if (pt_cmpR op_eq (pv 1) pe_str (nomark _))
    (pss_one (ps_ret (pe_lst (pa_cons (pe_tup (pa_cons pe_str (pa_cons (pe_ix ix_tup (pv 0) pe_int (fun _ _ => rfl)) pa_nil))) (pa_cons (pe_tup (pa_cons pe_str (pa_cons (pe_ix ix_tup (pv 0) pe_int (fun _ _ => rfl)) pa_nil))) pa_nil)))))
    pss_nil)
  (pss_cons (ps_if (pt_cmpR op_eq (pv 1) pe_str (nomark _))
    (pss_one (ps_ret (pe_lst (pa_cons (pe_tup (pa_cons pe_str (pa_cons (pe_ix ix_tup (pv 0) pe_int (fun _ _ => rfl)) pa_nil))) pa_nil))))
    pss_nil)
  (pss_cons (ps_if (pt_cmpR op_eq (pv 1) pe_str (nomark _))
    (pss_one (ps_ret (pe_lst (pa_cons (pe_tup (pa_cons pe_str (pa_cons (pe_ix ix_tup (pv 0) pe_int (fun _ _ => rfl)) pa_nil))) pa_nil))))
    pss_nil)
  (pss_one (ps_ret (pe_lst pa_nil)))))))), ?_⟩
    have gB := goodB_blks hg
    cases s with
    | mk w0 x r h0 =>
      obtain ⟨a, rs, rfl, q, _⟩ := view_mk hd
      have n := mkW_ne h0
      refine ⟨_, rfl, a, _, _, _, rfl, rfl, q, atI_nat (j := 0) rfl, ?_⟩
      refine ⟨_, rfl, rfl, _, rfl, strF n.1 ?_⟩
      refine ⟨_, rfl, rfl, _, rfl, strF n.2.1 ?_⟩
      refine ⟨_, rfl, rfl, _, rfl, strF n.2.2.1 ?_⟩
      refine ⟨_, rfl, rfl, _, rfl, strF n.2.2.2 ?_⟩
      exact ⟨fit (by decide), fun p np => k p _ _ np upd_same .nil (same_new np)⟩
    | no w0 r h0 =>
      obtain ⟨a, rs, rfl, q, _⟩ := view_no hd
      have n := noW_ne h0
      refine ⟨_, rfl, a, _, _, _, rfl, rfl, q, atI_nat (j := 0) rfl, ?_⟩
      refine ⟨_, rfl, rfl, _, rfl, strF n.1 ?_⟩
      refine ⟨_, rfl, rfl, _, rfl, strF n.2.1 ?_⟩
      refine ⟨_, rfl, rfl, _, rfl, strF n.2.2.1 ?_⟩
      refine ⟨_, rfl, rfl, _, rfl, strF n.2.2.2 ?_⟩
      exact ⟨fit (by decide), fun p np => k p _ _ np upd_same .nil (same_new np)⟩
    | fn x ps b =>
      obtain ⟨a, pa, ba, rfl, q, qp, hb⟩ := view_fn hd
      refine ⟨_, rfl, a, _, _, _, rfl, rfl, q, atI_nat (j := 0) rfl, ?_⟩
      refine ⟨_, rfl, rfl, _, rfl, strT rfl ?_⟩
      refine ⟨_, rfl, a, _, _, _, rfl, rfl, q, atI_nat (j := 3) rfl, fit (show 2 ≤ 1000 by decide), fun t nt => ⟨fit (show 1 ≤ 1000 by decide), fun p np => ?_⟩⟩
      have s1 : Same H (L2.upd H t (.tup [.str "body", .ref ba])) := same_new nt
      have s2 : Same H (L2.upd (L2.upd H t (.tup [.str "body", .ref ba])) p (.lst [.ref t])) := s1.trans (same_new np)
      refine k p _ _ (s1.free np) upd_same (.cons (.tup (SqT.of (xs := [.str "body", .ref ba]) ?_) (.cons (.str _) (.cons (dp_ext (Same.ext s2) _ _ hb (noL_blk (gB ("body", b) List.mem_cons_self))) .nil))) .nil) s2
      rw [upd_ne (ne_of_none upd_same np), upd_same]
    | ite c b1 b2 =>
      obtain ⟨a, u, p1, p2, rfl, q, h1, h2⟩ := view_ite hd
      refine ⟨_, rfl, a, _, _, _, rfl, rfl, q, atI_nat (j := 0) rfl, ?_⟩
      refine ⟨_, rfl, rfl, _, rfl, strF (by decide +kernel) ?_⟩
      refine ⟨_, rfl, rfl, _, rfl, strT rfl ?_⟩
      refine ⟨_, rfl, a, _, _, _, rfl, rfl, q, atI_nat (j := 2) rfl, fit (show 2 ≤ 1000 by decide), fun t nt => ?_⟩
      have s1 : Same H (L2.upd H t (.tup [.str "one", .ref p1])) := same_new nt
      refine ⟨_, rfl, a, _, _, _, rfl, rfl, sq_same s1 q, atI_nat (j := 3) rfl, fit (show 2 ≤ 1000 by decide), fun t2 nt2 => ⟨fit (show 2 ≤ 1000 by decide), fun p np => ?_⟩⟩
      have s2 : Same (L2.upd H t (.tup [.str "one", .ref p1])) (L2.upd (L2.upd H t (.tup [.str "one", .ref p1])) t2 (.tup [.str "other", .ref p2])) := same_new nt2
      have s3 : Same H (L2.upd (L2.upd (L2.upd H t (.tup [.str "one", .ref p1])) t2 (.tup [.str "other", .ref p2])) p (.lst [.ref t, .ref t2])) := s1.trans (s2.trans (same_new np))
      refine k p _ _ ((s1.trans s2).free np) upd_same (.cons (.tup (SqT.of (xs := [.str "one", .ref p1]) ?_) (.cons (.str _) (.cons (dp_ext (Same.ext s3) _ _ h1 (noL_blk (gB ("one", b1) List.mem_cons_self))) .nil))) (.cons (.tup (SqT.of (xs := [.str "other", .ref p2]) ?_) (.cons (.str _) (.cons (dp_ext (Same.ext s3) _ _ h2 (noL_blk (gB ("other", b2) (List.mem_cons_of_mem _ List.mem_cons_self)))) .nil))) .nil)) s3
      · exact (s2.trans (same_new np)) _ _ upd_same
      · exact (same_new np) _ _ upd_same
    | whl c b =>
      obtain ⟨a, u, ba, rfl, q, hb⟩ := view_whl hd
      refine ⟨_, rfl, a, _, _, _, rfl, rfl, q, atI_nat (j := 0) rfl, ?_⟩
      refine ⟨_, rfl, rfl, _, rfl, strF (by decide +kernel) ?_⟩
      refine ⟨_, rfl, rfl, _, rfl, strF (by decide +kernel) ?_⟩
      refine ⟨_, rfl, rfl, _, rfl, strT rfl ?_⟩
      refine ⟨_, rfl, a, _, _, _, rfl, rfl, q, atI_nat (j := 2) rfl, fit (show 2 ≤ 1000 by decide), fun t nt => ⟨fit (show 1 ≤ 1000 by decide), fun p np => ?_⟩⟩
      have s1 : Same H (L2.upd H t (.tup [.str "while", .ref ba])) := same_new nt
      have s2 : Same H (L2.upd (L2.upd H t (.tup [.str "while", .ref ba])) p (.lst [.ref t])) := s1.trans (same_new np)
      refine k p _ _ (s1.free np) upd_same (.cons (.tup (SqT.of (xs := [.str "while", .ref ba]) ?_) (.cons (.str _) (.cons (dp_ext (Same.ext s2) _ _ hb (noL_blk (gB ("while", b) List.mem_cons_self))) .nil))) .nil) s2
      exact (same_new np) _ _ upd_same
    | tms one x c b =>
      obtain ⟨a, u, ba, rfl, q, hb⟩ := view_tms hd
      refine ⟨_, rfl, a, _, _, _, rfl, rfl, q, atI_nat (j := 0) rfl, ?_⟩
      refine ⟨_, rfl, rfl, _, rfl, strF (by decide +kernel) ?_⟩
      refine ⟨_, rfl, rfl, _, rfl, strF (by decide +kernel) ?_⟩
      refine ⟨_, rfl, rfl, _, rfl, strF (by decide +kernel) ?_⟩
      refine ⟨_, rfl, rfl, _, rfl, strT rfl ?_⟩
      refine ⟨_, rfl, a, _, _, _, rfl, rfl, q, atI_nat (j := 4) rfl, fit (show 2 ≤ 1000 by decide), fun t nt => ⟨fit (show 1 ≤ 1000 by decide), fun p np => ?_⟩⟩
      have s1 : Same H (L2.upd H t (.tup [.str "times", .ref ba])) := same_new nt
      have s2 : Same H (L2.upd (L2.upd H t (.tup [.str "times", .ref ba])) p (.lst [.ref t])) := s1.trans (same_new np)
      refine k p _ _ (s1.free np) upd_same (.cons (.tup (SqT.of (xs := [.str "times", .ref ba]) ?_) (.cons (.str _) (.cons (dp_ext (Same.ext s2) _ _ hb (noL_blk (gB ("times", b) List.mem_cons_self))) .nil))) .nil) s2
      exact (same_new np) _ _ upd_same
end
end K03
set_option Elab.async false
set_option linter.all false
set_option maxRecDepth 100000
set_option maxHeartbeats 4000000
namespace K03
open PySem PySem.Spec PyProof.Rows L2 Fb
/-! ### fields -/
theorem lk_ne {a b : Str} {v : V} {r : List (Str × V)} (h : (a == b) = false) : List.lookup a ((b, v) :: r) = List.lookup a r := by rw [List.lookup_cons, h]
theorem lk_eq {a : Str} {v : V} {r : List (Str × V)} : List.lookup a ((a, v) :: r) = some v := by simp
section
variable {a b c d e : V} {lp lb lg lm : Addr}
theorem bF_kind : (bF a b c d e).lookup ("kind" : Str) = some a := lk_eq
theorem bF_k : (bF a b c d e).lookup ("k" : Str) = some b := (lk_ne (by decide +kernel)).trans lk_eq
theorem bF_around : (bF a b c d e).lookup ("around" : Str) = some c := (lk_ne (by decide +kernel)).trans ((lk_ne (by decide +kernel)).trans lk_eq)
theorem bF_body : (bF a b c d e).lookup ("body" : Str) = some d := (lk_ne (by decide +kernel)).trans ((lk_ne (by decide +kernel)).trans ((lk_ne (by decide +kernel)).trans lk_eq))
theorem bF_inside : (bF a b c d e).lookup ("inside" : Str) = some e := (lk_ne (by decide +kernel)).trans ((lk_ne (by decide +kernel)).trans ((lk_ne (by decide +kernel)).trans ((lk_ne (by decide +kernel)).trans lk_eq)))
theorem pF_statement : (pF a b c).lookup ("statement" : Str) = some a := lk_eq
theorem pF_ground : (pF a b c).lookup ("ground" : Str) = some b := (lk_ne (by decide +kernel)).trans lk_eq
theorem pF_body : (pF a b c).lookup ("body" : Str) = some c := (lk_ne (by decide +kernel)).trans ((lk_ne (by decide +kernel)).trans lk_eq)
theorem tF_places : (tF lp lb lg lm).lookup ("places" : Str) = some (.ref lp) := lk_eq
theorem tF_bodies : (tF lp lb lg lm).lookup ("body_rows" : Str) = some (.ref lb) := (lk_ne (by decide +kernel)).trans lk_eq
theorem tF_grounds : (tF lp lb lg lm).lookup ("ground_rows" : Str) = some (.ref lg) := (lk_ne (by decide +kernel)).trans ((lk_ne (by decide +kernel)).trans lk_eq)
theorem tF_makings : (tF lp lb lg lm).lookup ("making_rows" : Str) = some (.ref lm) := (lk_ne (by decide +kernel)).trans ((lk_ne (by decide +kernel)).trans ((lk_ne (by decide +kernel)).trans lk_eq))
theorem tF_no {m : Str} (h1 : (m == ("places" : Str)) = false) (h2 : (m == ("body_rows" : Str)) = false) (h3 : (m == ("ground_rows" : Str)) = false) (h4 : (m == ("making_rows" : Str)) = false) : (tF lp lb lg lm).lookup m = none := (lk_ne h1).trans ((lk_ne h2).trans ((lk_ne h3).trans (lk_ne h4)))
end
/-! ### what stands in a heap -/
section
variable {K : PySem.W.Frag} {CB CP CT : Addr}
theorem ext_put {H : Hp} {D : Addr} {us : List V} {o : HO} (h : H D = some (.lst us)) : Ext H (L2.upd H D o) := fun b x e f => by
  rw [upd_ne (show b ≠ D from fun z => no_lst h x (by rw [← z]; exact e) f)]
  exact e
theorem ext_new {H : Hp} {p : Addr} {o : HO} (h : H p = none) : Ext H (L2.upd H p o) := Same.ext (same_new h)
def Sc (v : V) (d : PyData) : Prop := (v = .non ∧ d = .none) ∨ ∃ n : Nat, v = .int n ∧ d = nD n
theorem Sc.dp {H : Hp} {v : V} {d : PyData} (h : Sc v d) : Dp K H v d := by
  rcases h with ⟨rfl, rfl⟩ | ⟨n, rfl, rfl⟩
  · exact .non
  · exact .int _
def ItAt (K : PySem.W.Frag) (CB CP : Addr) (H : Hp) (v : V) : Itm → Prop
  | .blk kind k a body b => ∃ q dx kV aV pb, v = .ref q ∧ H q = some (.ins CB dx (bF (.str kind) kV aV (.int (body : Int)) (.ref pb))) ∧ Sc kV k ∧ Sc aV a ∧ Dp K H (.ref pb) (.tuple (dB b)) ∧ goodB b
  | .plc s g b => ∃ q dx p, v = .ref q ∧ H q = some (.ins CP dx (pF (.ref p) (.int (g : Int)) (.int (b : Int)))) ∧ Dp K H (.ref p) (dS s) ∧ goodS s
theorem ItAt.ext {H H' : Hp} {v : V} {i : Itm} (e : Ext H H') (h : ItAt K CB CP H v i) : ItAt K CB CP H' v i := by
  cases i with
  | blk kind k a body b =>
    obtain ⟨q, dx, kV, aV, pb, h1, h2, h3, h4, h5, h6⟩ := h
    exact ⟨q, dx, kV, aV, pb, h1, e _ _ h2 True.intro, h3, h4, dp_ext e _ _ h5 (noL_blk h6), h6⟩
  | plc s g b =>
    obtain ⟨q, dx, p, h1, h2, h3, h4⟩ := h
    exact ⟨q, dx, p, h1, e _ _ h2 True.intro, dp_ext e _ _ h3 (noL_dS s h4), h4⟩
inductive ItAll (K : PySem.W.Frag) (CB CP : Addr) (H : Hp) : List V → List Itm → Prop
  | nil : ItAll K CB CP H [] []
  | cons {v : V} {vs : List V} {i : Itm} {is : List Itm} : ItAt K CB CP H v i → ItAll K CB CP H vs is → ItAll K CB CP H (v :: vs) (i :: is)
theorem ItAll.ext {H H' : Hp} (e : Ext H H') : ∀ {vs : List V} {is : List Itm}, ItAll K CB CP H vs is → ItAll K CB CP H' vs is
  | _, _, .nil => .nil
  | _, _, .cons a t => .cons (a.ext e) (ItAll.ext e t)
theorem ItAll.snoc {H : Hp} {v : V} {i : Itm} (h : ItAt K CB CP H v i) : ∀ {vs : List V} {is : List Itm}, ItAll K CB CP H vs is → ItAll K CB CP H (vs ++ [v]) (is ++ [i])
  | _, _, .nil => .cons h .nil
  | _, _, .cons a t => .cons a (ItAll.snoc h t)
theorem ItAll.app {H : Hp} {ws : List V} {js : List Itm} (h : ItAll K CB CP H ws js) : ∀ {vs : List V} {is : List Itm}, ItAll K CB CP H vs is → ItAll K CB CP H (vs ++ ws) (is ++ js)
  | _, _, .nil => h
  | _, _, .cons a t => .cons a (ItAll.app h t)
theorem ItAll.len {H : Hp} : ∀ {vs : List V} {is : List Itm}, ItAll K CB CP H vs is → vs.length = is.length
  | _, _, .nil => rfl
  | _, _, .cons _ t => by rw [List.length_cons, List.length_cons, ItAll.len t]
/-- the places told -/
def PlAt (K : PySem.W.Frag) (CP : Addr) (H : Hp) (v : V) (e : PyData × Nat × Nat) : Prop := ∃ q dx p, v = .ref q ∧ H q = some (.ins CP dx (pF (.ref p) (.int (e.2.1 : Int)) (.int (e.2.2 : Int)))) ∧ Dp K H (.ref p) e.1 ∧ noL e.1 = true
inductive PlAll (K : PySem.W.Frag) (CP : Addr) (H : Hp) : List V → List (PyData × Nat × Nat) → Prop
  | nil : PlAll K CP H [] []
  | cons {v : V} {vs : List V} {e : PyData × Nat × Nat} {es : List (PyData × Nat × Nat)} : PlAt K CP H v e → PlAll K CP H vs es → PlAll K CP H (v :: vs) (e :: es)
theorem PlAll.ext {H H' : Hp} (x : Ext H H') : ∀ {vs : List V} {es : List (PyData × Nat × Nat)}, PlAll K CP H vs es → PlAll K CP H' vs es
  | _, _, .nil => .nil
  | _, _, .cons ⟨q, dx, p, h1, h2, h3, h4⟩ t => .cons ⟨q, dx, p, h1, x _ _ h2 True.intro, dp_ext x _ _ h3 h4, h4⟩ (PlAll.ext x t)
theorem PlAll.snoc {H : Hp} {v : V} {e : PyData × Nat × Nat} (h : PlAt K CP H v e) : ∀ {vs : List V} {es : List (PyData × Nat × Nat)}, PlAll K CP H vs es → PlAll K CP H (vs ++ [v]) (es ++ [e])
  | _, _, .nil => .cons h .nil
  | _, _, .cons a t => .cons a (PlAll.snoc h t)
theorem PlAll.len {H : Hp} : ∀ {vs : List V} {es : List (PyData × Nat × Nat)}, PlAll K CP H vs es → vs.length = es.length
  | _, _, .nil => rfl
  | _, _, .cons _ t => by rw [List.length_cons, List.length_cons, PlAll.len t]
/-- rows that stay -/
def Rows (K : PySem.W.Frag) (H : Hp) (l : Addr) (ds : List PyData) : Prop := ∃ vs, H l = some (.lst vs) ∧ DpAll K H vs ds ∧ noLs ds = true
structure TreeAt (K : PySem.W.Frag) (CP CT : Addr) (H : Hp) (sf lp lb lg lm : Addr) (t : Fb.TS) : Prop where
  ob : ∃ dx, H sf = some (.ins CT dx (tF lp lb lg lm))
  pl : ∃ vs, H lp = some (.lst vs) ∧ PlAll K CP H vs t.pl
  bd : Rows K H lb t.bd
  gr : Rows K H lg t.gr
  mm : Rows K H lm t.mm
  nd : [lp, lb, lg, lm].Nodup
theorem Rows.mod {H H' : Hp} {l : Addr} {ds : List PyData} (h : Rows K H l ds) (e : Ext H H') (k : ∀ o, H l = some o → H' l = some o) : Rows K H' l ds := by
  obtain ⟨vs, h1, h2, h3⟩ := h
  exact ⟨vs, k _ h1, dps_ext e _ _ h2 h3, h3⟩
theorem TreeAt.same {H H' : Hp} {self lp lb lg lm : Addr} {t : Fb.TS} (h : TreeAt K CP CT H self lp lb lg lm t) (s : Same H H') : TreeAt K CP CT H' self lp lb lg lm t := by
  obtain ⟨⟨dx, h1⟩, ⟨vs, h2, h2'⟩, h3, h4, h5, h6⟩ := h
  exact ⟨⟨dx, s _ _ h1⟩, ⟨vs, s _ _ h2, h2'.ext (Same.ext s)⟩, h3.mod (Same.ext s) (fun o => s _ o), h4.mod (Same.ext s) (fun o => s _ o), h5.mod (Same.ext s) (fun o => s _ o), h6⟩
theorem noLs_app {a b : List PyData} (h1 : noLs a = true) (h2 : noLs b = true) : noLs (a ++ b) = true := by
  induction a with
  | nil => exact h2
  | cons x r ih =>
    rw [noLs, Bool.and_eq_true] at h1
    rw [List.cons_append, noLs, h1.1, ih h1.2]
    rfl
theorem noL_rowG {kind : Str} {k a : PyData} {kV aV : V} (h1 : Sc kV k) (h2 : Sc aV a) : noL (rowG kind k a) = true := by
  rcases h1 with ⟨_, rfl⟩ | ⟨n, _, rfl⟩ <;> rcases h2 with ⟨_, rfl⟩ | ⟨m, _, rfl⟩ <;> rfl
theorem noLs_made (s : Stm) (k g f : Nat) : noLs (madeD s k g f) = true := by
  refine noLs_all fun d h => ?_
  cases s with
  | mk w x r h0 => rw [List.mem_singleton.mp h]; rfl
  | no w r h0 => cases h
  | fn x ps b =>
    rcases List.mem_cons.mp h with e | e
    · rw [e]; rfl
    · obtain ⟨y, _, rfl⟩ := List.mem_map.mp e
      rfl
  | ite c b1 b2 => cases h
  | whl c b => cases h
  | tms one x c b => rw [List.mem_singleton.mp h]; rfl
end
section
variable {P : Program} {w : World} {K : PySem.W.Frag} {mg : Str → Option Value} {base : Heap} {CB CP CT : Addr}
theorem dp_row {H : Hp} {t : Addr} {x : Str} {k g : Nat} (h : H t = some (.tup [.str x, .int (k : Int), .int (g : Int)])) : Dp K H (.ref t) (rowM x k g) := .tup (SqT.of h) (.cons (.str _) (.cons (.int _) (.cons (.int _) .nil)))
theorem take_snoc {α : Type} {xs : List α} {i : Nat} {c : α} (h : xs[i]? = some c) : xs.take (i + 1) = xs.take i ++ [c] := by
  rw [List.take_add_one, h]
  rfl
theorem scMade : FnScope ["statement", "k", "ground", "following", "word", "name"] ["statement", "k", "ground", "following"] (defScope s_made_by) := ⟨rfl, rfl, rfl, by decide +kernel, rfl, by decide +kernel, by decide +kernel⟩
theorem flat3 : (mkW.map V.str).all flatV = true := by decide +kernel
theorem ok_made (T : Top K mg CB CP CT) : C8.Cal P w K mg base 1 "made_by" (spMade K) [] := by
  obtain ⟨f, fd, F, gm⟩ := T.h_made_by
  refine ⟨f, fd, ["statement", "k", "ground", "following"], [], ?_, gm, F.kp, F.binds (fun _ _ _ _ _ _ us hl => match us, hl with | [_, _, _, _], _ => rfl), .nil⟩
  refine F.ok scMade (fun vs H Q E h => ?_) (fun cdv A outer s H vs Q E hr h => ?_)
  · obtain ⟨v, s, k, g, f, rfl, _⟩ := h
    rfl
  · obtain ⟨v, s, kN, gN, fN, rfl, hd, hg, k⟩ := h
    refine ⟨_, (pss_cons (ps_set (i := 4) scMade.nd rfl (Or.inl rfl) (pe_ix ix_tup (pv 0) pe_int (fun _ _ => rfl)))
  (pss_cons (ps_if (pt_cmpR op_in_seq (pv 4) (pe_tup (pa_cons pe_str (pa_cons pe_str (pa_cons pe_str pa_nil)))) (by rfl))
    (pss_one (ps_ret (pe_lst (pa_cons (pe_tup (pa_cons (pe_ix ix_tup (pv 0) pe_int (fun _ _ => rfl)) (pa_cons (pv 1) (pa_cons (pv 2) pa_nil)))) pa_nil))))
    pss_nil)
  (pss_cons (ps_if (pt_cmpR op_eq (pv 4) pe_str (nomark _))
    (pss_one (ps_ret (pe_op op_cat (pe_lst (pa_cons (pe_tup (pa_cons (pe_ix ix_tup (pv 0) pe_int (fun _ _ => rfl)) (pa_cons (pv 1) (pa_cons (pv 2) pa_nil)))) pa_nil)) (pe_lc (own := [("name", 5)]) rfl scMade.nd (pi_tup (pe_ix ix_tup (pv 0) pe_int (fun _ _ => rfl))) (blkOk_by (own := [("name", 5)]) (N := ["statement", "k", "ground", "following", "word", "name"]) (sc := defScope s_made_by) (by decide +kernel)) (fun _ _ _ _ _ => (pg_name (i := 5) scMade.nd rfl (Or.inl rfl))) (fun _ _ _ _ _ => pts_nil) (fun _ _ _ _ _ => (pe_tup (pa_cons (pv 5) (pa_cons (pv 1) (pa_cons (pv 3) pa_nil)))))))))
    pss_nil)
  (pss_cons (ps_if (pt_cmpR op_eq (pv 4) pe_str (nomark _))
    (pss_one (ps_ret (pe_lst (pa_cons (pe_tup (pa_cons (pe_ix ix_tup (pv 0) pe_int (fun _ _ => rfl)) (pa_cons (pv 1) (pa_cons (pv 3) pa_nil)))) pa_nil))))
    pss_nil)
  (pss_one (ps_ret (pe_lst pa_nil))))))), ?_⟩
    cases s with
    | mk w0 x r h0 =>
      obtain ⟨a, rs, rfl, q, _⟩ := view_mk hd
      refine ⟨_, rfl, a, _, _, _, rfl, rfl, q, atI_nat (j := 0) rfl, ?_⟩
      refine ⟨_, rfl, fit (show 3 ≤ 1000 by decide), fun t nt => ⟨t, mkW.map V.str, rfl, .inr (SqT.of upd_same), rfl, flat3, _, rfl, boolT (c := inV (.str w0) (mkW.map V.str)) (mkW_in h0) ?_⟩⟩
      have s1 : Same H (L2.upd H t (.tup (mkW.map V.str))) := same_new nt
      refine ⟨_, rfl, a, _, _, _, rfl, rfl, sq_same s1 q, atI_nat (j := 1) rfl, _, rfl, _, rfl, fit (show 3 ≤ 1000 by decide), fun t2 nt2 => ⟨fit (show 1 ≤ 1000 by decide), fun p np => ?_⟩⟩
      refine k p _ _ ((s1.trans (same_new nt2)).free np) upd_same (.cons (dp_row (same_new np _ _ upd_same)) .nil) (s1.trans ((same_new nt2).trans (same_new np)))
    | no w0 r h0 =>
      obtain ⟨a, rs, rfl, q, _⟩ := view_no hd
      have n := noW_ne h0
      refine ⟨_, rfl, a, _, _, _, rfl, rfl, q, atI_nat (j := 0) rfl, ?_⟩
      refine ⟨_, rfl, fit (show 3 ≤ 1000 by decide), fun t nt => ⟨t, mkW.map V.str, rfl, .inr (SqT.of upd_same), rfl, flat3, _, rfl, boolF (c := inV (.str w0) (mkW.map V.str)) (noW_in h0) ?_⟩⟩
      have s1 : Same H (L2.upd H t (.tup (mkW.map V.str))) := same_new nt
      refine ⟨_, rfl, rfl, _, rfl, strF n.1 ?_⟩
      refine ⟨_, rfl, rfl, _, rfl, strF n.2.2.2 ?_⟩
      exact ⟨fit (by decide), fun p np => k p _ _ (s1.free np) upd_same .nil (s1.trans (same_new np))⟩
    | fn x ps b =>
      obtain ⟨a, pa, ba, rfl, q, qp, hb⟩ := view_fn hd
      refine ⟨_, rfl, a, _, _, _, rfl, rfl, q, atI_nat (j := 0) rfl, ?_⟩
      refine ⟨_, rfl, fit (show 3 ≤ 1000 by decide), fun t nt => ⟨t, mkW.map V.str, rfl, .inr (SqT.of upd_same), rfl, flat3, _, rfl, boolF (c := inV (.str "fn") (mkW.map V.str)) (by decide +kernel) ?_⟩⟩
      have s1 : Same H (L2.upd H t (.tup (mkW.map V.str))) := same_new nt
      refine ⟨_, rfl, rfl, _, rfl, strT rfl ?_⟩
      refine ⟨_, rfl, a, _, _, _, rfl, rfl, sq_same s1 q, atI_nat (j := 1) rfl, _, rfl, _, rfl, fit (show 3 ≤ 1000 by decide), fun t2 nt2 => ⟨fit (show 1 ≤ 1000 by decide), fun p np => ?_⟩⟩
      have s2 := s1.trans ((same_new (o := .tup [.str x, .int (kN : Int), .int (gN : Int)]) nt2).trans (same_new (o := .lst [V.ref t2]) np))
      have hp : (L2.upd (L2.upd (L2.upd H t (.tup (mkW.map V.str))) t2 (.tup [.str x, .int (kN : Int), .int (gN : Int)])) p (.lst [V.ref t2])) p = some (.lst [V.ref t2]) := upd_same
      have ht2 : (L2.upd (L2.upd (L2.upd H t (.tup (mkW.map V.str))) t2 (.tup [.str x, .int (kN : Int), .int (gN : Int)])) p (.lst [V.ref t2])) t2 = some (.tup [.str x, .int (kN : Int), .int (gN : Int)]) := same_new np _ _ upd_same
      rw [goodS] at hg
      refine ⟨_, rfl, a, _, _, _, rfl, rfl, sq_same s2 q, atI_nat (j := 2) rfl, pa, rfl, ⟨_, sq_same s2 qp⟩, fun D nD => lc_it (walk_tup (xs := ps.map V.str)) (fun i H2 => Same H H2 ∧ H2 p = some (.lst [V.ref t2]) ∧ H2 t2 = some (.tup [.str x, .int (kN : Int), .int (gN : Int)]) ∧ ∃ us, H2 D = some (.lst us) ∧ DpAll K H2 us ((ps.take i).map fun y => rowM y kN fN)) ⟨s2.trans (same_new nD), same_new nD _ _ hp, same_new nD _ _ ht2, [], upd_same, .nil⟩ (fun i H2 _ z => sq_same z.1 qp) ?_ ?_⟩
      · rintro i y H2 H3 hi ⟨z1, zp, zt, us, hD, du⟩ ⟨rfl, hy⟩
        obtain ⟨nmx, hn, rfl⟩ : ∃ nx, ps[i]? = some nx ∧ y = .str nx := by
          rw [List.getElem?_map] at hy
          cases e : ps[i]? with
          | none => rw [e] at hy; cases hy
          | some nx => rw [e] at hy; exact ⟨nx, rfl, (Option.some.inj hy).symm⟩
        have lu := dps_len du
        rw [List.length_map, List.length_take] at lu
        refine ⟨rfl, _, rfl, _, rfl, _, rfl, fit (show 3 ≤ 1000 by decide), fun t3 nt3 => ⟨us, same_new nt3 _ _ hD, small1000 (by omega), ?_, ?_, ?_, us ++ [.ref t3], upd_same, ?_⟩⟩
        · intro c o e
          rw [upd_ne (ne_of_none (s2 c o e) nD)]
          exact same_new nt3 _ _ (z1 c o e)
        · rw [upd_ne (ne_of_none hp nD)]
          exact same_new nt3 _ _ zp
        · rw [upd_ne (ne_of_none ht2 nD)]
          exact same_new nt3 _ _ zt
        · rw [take_snoc hn, List.map_append]
          have ex : Ext H3 (L2.upd (L2.upd H3 t3 (.tup [.str nmx, .int (kN : Int), .int (fN : Int)])) D (.lst (us ++ [.ref t3]))) := (ext_new nt3).trans (ext_put (same_new nt3 _ _ hD))
          refine dps_snoc (dps_ext ex _ _ du (noLs_all fun d hd => ?_)) (dp_row ?_)
          · obtain ⟨y, _, rfl⟩ := List.mem_map.mp hd
            rfl
          · rw [upd_ne (ne_of_none hD nt3).symm, upd_same]
      · rintro H2 ⟨z1, zp, zt, us, hD, du⟩
        rw [List.length_map, List.take_length] at du
        have lu := dps_len du
        rw [List.length_map] at lu
        refine ⟨p, D, _, _, rfl, rfl, zp, hD, fit (by rw [List.length_cons, List.length_nil]; omega), fun p2 np2 => ?_⟩
        refine k p2 _ _ (z1.free np2) upd_same ?_ (z1.trans (same_new np2))
        exact .cons (dp_row (same_new np2 _ _ zt)) (dps_ext (ext_new np2) _ _ du (noLs_all fun d hd => by obtain ⟨y, _, rfl⟩ := List.mem_map.mp hd; rfl))
    | ite c b1 b2 =>
      obtain ⟨a, u, p1, p2, rfl, q, h1, h2⟩ := view_ite hd
      refine ⟨_, rfl, a, _, _, _, rfl, rfl, q, atI_nat (j := 0) rfl, ?_⟩
      refine ⟨_, rfl, fit (show 3 ≤ 1000 by decide), fun t nt => ⟨t, mkW.map V.str, rfl, .inr (SqT.of upd_same), rfl, flat3, _, rfl, boolF (c := inV (.str "if") (mkW.map V.str)) (by decide +kernel) ?_⟩⟩
      have s1 : Same H (L2.upd H t (.tup (mkW.map V.str))) := same_new nt
      refine ⟨_, rfl, rfl, _, rfl, strF (by decide +kernel) ?_⟩
      refine ⟨_, rfl, rfl, _, rfl, strF (by decide +kernel) ?_⟩
      exact ⟨fit (by decide), fun p np => k p _ _ (s1.free np) upd_same .nil (s1.trans (same_new np))⟩
    | whl c b =>
      obtain ⟨a, u, p1, rfl, q, h1⟩ := view_whl hd
      refine ⟨_, rfl, a, _, _, _, rfl, rfl, q, atI_nat (j := 0) rfl, ?_⟩
      refine ⟨_, rfl, fit (show 3 ≤ 1000 by decide), fun t nt => ⟨t, mkW.map V.str, rfl, .inr (SqT.of upd_same), rfl, flat3, _, rfl, boolF (c := inV (.str "while") (mkW.map V.str)) (by decide +kernel) ?_⟩⟩
      have s1 : Same H (L2.upd H t (.tup (mkW.map V.str))) := same_new nt
      refine ⟨_, rfl, rfl, _, rfl, strF (by decide +kernel) ?_⟩
      refine ⟨_, rfl, rfl, _, rfl, strF (by decide +kernel) ?_⟩
      exact ⟨fit (by decide), fun p np => k p _ _ (s1.free np) upd_same .nil (s1.trans (same_new np))⟩
    | tms one x c b =>
      obtain ⟨a, u, p1, rfl, q, h1⟩ := view_tms hd
      refine ⟨_, rfl, a, _, _, _, rfl, rfl, q, atI_nat (j := 0) rfl, ?_⟩
      refine ⟨_, rfl, fit (show 3 ≤ 1000 by decide), fun t nt => ⟨t, mkW.map V.str, rfl, .inr (SqT.of upd_same), rfl, flat3, _, rfl, boolF (c := inV (.str "times") (mkW.map V.str)) (by decide +kernel) ?_⟩⟩
      have s1 : Same H (L2.upd H t (.tup (mkW.map V.str))) := same_new nt
      refine ⟨_, rfl, rfl, _, rfl, strF (by decide +kernel) ?_⟩
      refine ⟨_, rfl, rfl, _, rfl, strT rfl ?_⟩
      refine ⟨_, rfl, a, _, _, _, rfl, rfl, sq_same s1 q, atI_nat (j := 2) rfl, _, rfl, _, rfl, fit (show 3 ≤ 1000 by decide), fun t2 nt2 => ⟨fit (show 1 ≤ 1000 by decide), fun p np => ?_⟩⟩
      refine k p _ _ ((s1.trans (same_new nt2)).free np) upd_same (.cons (dp_row (same_new np _ _ upd_same)) .nil) (s1.trans ((same_new nt2).trans (same_new np)))
end
end K03
set_option Elab.async false
set_option linter.all false
set_option maxRecDepth 100000
set_option maxHeartbeats 4000000
namespace K03
open PySem PySem.Spec PyProof.Rows L2 Fb
section
variable {K : PySem.W.Frag} {CB CP CT : Addr} {H H' : Hp} {self lp lb lg lm : Addr} {t : Fb.TS}
theorem TreeAt.nes (h : TreeAt K CP CT H self lp lb lg lm t) : (lp ≠ lb ∧ lp ≠ lg ∧ lp ≠ lm) ∧ (lb ≠ lg ∧ lb ≠ lm) ∧ lg ≠ lm := by
  have z := h.nd
  simp only [List.nodup_cons, List.mem_cons, List.not_mem_nil, or_false, not_or, List.nodup_nil, and_true, not_false_eq_true] at z
  exact z
theorem TreeAt.upd_gr (h : TreeAt K CP CT H self lp lb lg lm t) (m : Mod [lg] H H') {gs : List PyData} (r : Rows K H' lg gs) : TreeAt K CP CT H' self lp lb lg lm { t with gr := gs } := by
  obtain ⟨⟨a1, a2, a3⟩, ⟨b1, b2⟩, c1⟩ := h.nes
  obtain ⟨⟨dx, h1⟩, ⟨vs, h2, h2'⟩, h3, ⟨gv, g1, g2⟩, h5, h6⟩ := h
  have e : Ext H H' := m.ext fun b hb => by rw [List.mem_singleton.mp hb]; exact no_lst g1
  have k : ∀ {l : Addr}, l ≠ lg → ∀ o, H l = some o → H' l = some o := fun hl o q => m _ o q (by simpa using hl)
  exact ⟨⟨dx, e _ _ h1 True.intro⟩, ⟨vs, k a2 _ h2, h2'.ext e⟩, h3.mod e (k b1), r, h5.mod e (k c1.symm), h6⟩
theorem TreeAt.upd_mm (h : TreeAt K CP CT H self lp lb lg lm t) (m : Mod [lm] H H') {gs : List PyData} (r : Rows K H' lm gs) : TreeAt K CP CT H' self lp lb lg lm { t with mm := gs } := by
  obtain ⟨⟨a1, a2, a3⟩, ⟨b1, b2⟩, c1⟩ := h.nes
  obtain ⟨⟨dx, h1⟩, ⟨vs, h2, h2'⟩, h3, h4, ⟨gv, g1, g2⟩, h6⟩ := h
  have e : Ext H H' := m.ext fun b hb => by rw [List.mem_singleton.mp hb]; exact no_lst g1
  have k : ∀ {l : Addr}, l ≠ lm → ∀ o, H l = some o → H' l = some o := fun hl o q => m _ o q (by simpa using hl)
  exact ⟨⟨dx, e _ _ h1 True.intro⟩, ⟨vs, k a3 _ h2, h2'.ext e⟩, h3.mod e (k b2), h4.mod e (k c1), r, h6⟩
theorem TreeAt.upd_bd (h : TreeAt K CP CT H self lp lb lg lm t) (m : Mod [lb] H H') {gs : List PyData} (r : Rows K H' lb gs) : TreeAt K CP CT H' self lp lb lg lm { t with bd := gs } := by
  obtain ⟨⟨a1, a2, a3⟩, ⟨b1, b2⟩, c1⟩ := h.nes
  obtain ⟨⟨dx, h1⟩, ⟨vs, h2, h2'⟩, ⟨gv, g1, g2⟩, h4, h5, h6⟩ := h
  have e : Ext H H' := m.ext fun b hb => by rw [List.mem_singleton.mp hb]; exact no_lst g1
  have k : ∀ {l : Addr}, l ≠ lb → ∀ o, H l = some o → H' l = some o := fun hl o q => m _ o q (by simpa using hl)
  exact ⟨⟨dx, e _ _ h1 True.intro⟩, ⟨vs, k a1 _ h2, h2'.ext e⟩, r, h4.mod e (k b1.symm), h5.mod e (k b2.symm), h6⟩
theorem TreeAt.upd_pl (h : TreeAt K CP CT H self lp lb lg lm t) (m : Mod [lp] H H') {gs : List (PyData × Nat × Nat)} (r : ∃ vs, H' lp = some (.lst vs) ∧ PlAll K CP H' vs gs) : TreeAt K CP CT H' self lp lb lg lm { t with pl := gs } := by
  obtain ⟨⟨a1, a2, a3⟩, ⟨b1, b2⟩, c1⟩ := h.nes
  obtain ⟨⟨dx, h1⟩, ⟨vs, h2, h2'⟩, h3, h4, h5, h6⟩ := h
  have e : Ext H H' := m.ext fun b hb => by rw [List.mem_singleton.mp hb]; exact no_lst h2
  have k : ∀ {l : Addr}, l ≠ lp → ∀ o, H l = some o → H' l = some o := fun hl o q => m _ o q (by simpa using hl)
  exact ⟨⟨dx, e _ _ h1 True.intro⟩, r, h3.mod e (k a1.symm), h4.mod e (k a2.symm), h5.mod e (k a3.symm), h6⟩
/-- a new tuple, and a list that gets it -/
theorem mod_push {l p : Addr} {o o2 : HO} (np : H p = none) : Mod [l] H (L2.upd (L2.upd H p o) l o2) := Mod.put (Mod.put (Mod.refl _ _) (.inr np)) (.inl List.mem_cons_self)
theorem rows_push {l p : Addr} {vs xs : List V} {ds : List PyData} {d : PyData} (h1 : H l = some (.lst vs)) (h2 : DpAll K H vs ds) (h3 : noLs ds = true) (np : H p = none) (nd : noL d = true)
    (hd : Dp K (L2.upd (L2.upd H p (.tup xs)) l (.lst (vs ++ [.ref p]))) (.ref p) d) : Rows K (L2.upd (L2.upd H p (.tup xs)) l (.lst (vs ++ [.ref p]))) l (ds ++ [d]) :=
  ⟨_, upd_same, dps_snoc (dps_ext ((ext_new np).trans (ext_put (same_new np _ _ h1))) _ _ h2 h3) hd, noLs_app h3 (by rw [noLs, nd]; rfl)⟩
theorem push_at {l p : Addr} {vs xs : List V} {o2 : HO} (h1 : H l = some (.lst vs)) (np : H p = none) : (L2.upd (L2.upd H p (.tup xs)) l o2) p = some (.tup xs) := by
  rw [upd_ne (ne_of_none h1 np).symm, upd_same]
theorem plc_at : ∀ {b : Blk} {i : Nat} {d : PyData} (g bo : Nat), (dB b)[i]? = some d → goodB b → ∃ s, d = dS s ∧ (plcs b g bo)[i]? = some (.plc s g bo) ∧ goodS s
  | .nil, _, _, _, _, h, _ => by rw [dB] at h; cases h
  | .cons s r, 0, d, g, bo, h, q => by
    rw [goodB] at q
    rw [dB] at h
    exact ⟨s, (Option.some.inj h).symm, rfl, q.1⟩
  | .cons s r, i + 1, d, g, bo, h, q => by
    rw [goodB] at q
    rw [dB] at h
    exact plc_at (b := r) (i := i) g bo h q.2
theorem dB_len : ∀ (b : Blk) (g bo : Nat), (plcs b g bo).length = (dB b).length
  | .nil, _, _ => rfl
  | .cons s r, g, bo => by
    rw [dB]
    exact congrArg (· + 1) (dB_len r g bo)
end
def spEnter (K : PySem.W.Frag) (CB CP CT : Addr) : Sp := fun vs H Q _ => ∃ (self lp lb lg lm : Addr) (t : Fb.TS) (q : Addr) (kind : Str) (k a : PyData) (body : Nat) (b : Blk), vs = [.ref self, .ref q] ∧ TreeAt K CP CT H self lp lb lg lm t ∧
  ItAt K CB CP H (.ref q) (.blk kind k a body b) ∧ t.n + 1 + wB b ≤ 1000 ∧ ∀ p H' us, H p = none → H' p = some (.lst us) → ItAll K CB CP H' us (plcs b t.gr.length body) → TreeAt K CP CT H' self lp lb lg lm { t with gr := t.gr ++ [rowG kind k a] } → Mod [lg] H H' → Q (.ref p) H'
def spMeet (K : PySem.W.Frag) (CB CP CT : Addr) : Sp := fun vs H Q _ => ∃ (self lp lb lg lm : Addr) (t : Fb.TS) (q : Addr) (s : Stm) (g b : Nat), vs = [.ref self, .ref q] ∧ TreeAt K CP CT H self lp lb lg lm t ∧
  ItAt K CB CP H (.ref q) (.plc s g b) ∧ t.n + wS s ≤ 1000 ∧ ∀ p H' us, H p = none → H' p = some (.lst us) → ItAll K CB CP H' us (metI s g b t) → TreeAt K CP CT H' self lp lb lg lm (metT s g b t) → Mod [lp, lb, lg, lm] H H' → Q (.ref p) H'
section
variable {P : Program} {w : World} {K : PySem.W.Frag} {mg : Str → Option Value} {base : Heap} {CB CP CT : Addr}
theorem scEnter : FnScope ["self", "block", "ground", "statement"] ["self", "block"] (defScope sEnter) := ⟨rfl, rfl, rfl, by decide +kernel, rfl, by decide +kernel, by decide +kernel⟩
theorem ok_enter (T : Top K mg CB CP CT) : C8.Met P w K mg base 3 CT "enter" (spEnter K CB CP CT) [] := by
  have M_Place : C8.Mak P w K mg base 1 "Place" CP (spInit CP 3 FP) [] := mk_place T
  obtain ⟨f, fd, F, me⟩ := T.h_enter
  refine ⟨f, fd, ["self", "block"], [], T.clT, me, ?_, F.binds (fun _ _ _ _ _ _ us hl => match us, hl with | [_, _], _ => rfl), .nil⟩
  refine F.ok scEnter (fun vs H Q E h => ?_) (fun cdv A outer s H vs Q E hr h => ?_)
  · obtain ⟨self, lp, lb, lg, lm, t, q, kind, k, a, body, b, rfl, _⟩ := h
    rfl
  · obtain ⟨self, lp, lb, lg, lm, t, q, kind, kD, aD, body, b, rfl, hT, ⟨q', dx, kV, aV, pb, eq, hq, sk, sa, hb, gb⟩, hN, k⟩ := h
    cases eq
    obtain ⟨dT, hself⟩ := hT.ob
    obtain ⟨gv, hg, dg, ng⟩ := hT.gr
    have lgv := dps_len dg
    refine ⟨_, (pss_cons (ps_set (i := 2) scEnter.nd rfl (Or.inr rfl) (pe_callB call_len_seq (by rfl) T.n_len (by decide +kernel) (pa_cons (pe_fld (pv 0) rfl) pa_nil)))
  (pss_cons (ps_expr (pe_bm PySem.F.plainAttrs_list PySem.F.slot_list_append PySem.F.type_list_append mt_append (pe_fld (pv 0) rfl) (pa_cons (pe_tup (pa_cons (pe_fld (pv 1) rfl) (pa_cons (pe_fld (pv 1) rfl) (pa_cons (pe_fld (pv 1) rfl) pa_nil)))) pa_nil)))
  (pss_one (ps_ret (pe_lc (own := [("statement", 3)]) rfl scEnter.nd (pi_tup (pe_fld (pv 1) rfl)) (blkOk_by (own := [("statement", 3)]) (N := ["self", "block", "ground", "statement"]) (sc := defScope sEnter) (by decide +kernel)) (fun _ _ _ _ _ => (pg_name (i := 3) scEnter.nd rfl (Or.inl rfl))) (fun _ _ _ _ _ => pts_nil) (fun _ _ _ _ _ => (C8.pe_mk M_Place hr (by omega) rfl (pa_cons (pv 3) (pa_cons (pv 2) (pa_cons (Fb.pe_fldK K rfl (pv 1) rfl) pa_nil)))))))))), ?_⟩
    refine ⟨_, rfl, self, CT, dT, _, _, rfl, hself, T.clT, T.nT_ground_rows, tF_grounds, lg, _, rfl, .inl (SqL.of hg), ?_⟩
    refine ⟨_, rfl, self, CT, dT, _, _, rfl, hself, T.clT, T.nT_ground_rows, tF_grounds, .inl ⟨rfl, _, SqL.of hg⟩, _, rfl, q, CB, dx, _, _, rfl, hq, T.clB, T.nB_kind, bF_kind, _, rfl, q, CB, dx, _, _, rfl, hq, T.clB, T.nB_k, bF_k, _, rfl, q, CB, dx, _, _, rfl, hq, T.clB, T.nB_around, bF_around, fit (show 3 ≤ 1000 by decide), fun tt nt => ⟨lg, _, _, rfl, rfl, same_new nt _ _ hg, small1000 (by unfold TS.n at hN; omega), ?_⟩⟩
    have m1 : Mod [lg] H (L2.upd (L2.upd H tt (.tup [.str kind, kV, aV])) lg (.lst (gv ++ [.ref tt]))) := mod_push nt
    have e1 : Ext H (L2.upd (L2.upd H tt (.tup [.str kind, kV, aV])) lg (.lst (gv ++ [.ref tt]))) := m1.ext fun b hb => by rw [List.mem_singleton.mp hb]; exact no_lst hg
    have T1 : TreeAt K CP CT (L2.upd (L2.upd H tt (.tup [.str kind, kV, aV])) lg (.lst (gv ++ [.ref tt]))) self lp lb lg lm { t with gr := t.gr ++ [rowG kind kD aD] } :=
      hT.upd_gr m1 (rows_push hg dg ng nt (noL_rowG sk sa) (.tup (SqT.of (push_at hg nt)) (.cons (.str _) (.cons sk.dp (.cons sa.dp .nil)))))
    have hq1 := e1 _ _ hq True.intro
    have hb1 := dp_ext e1 _ _ hb (noL_blk gb)
    obtain ⟨pb', bv, epb, qb, db⟩ := view_tup hb1
    cases epb
    have lbv := dps_len db
    refine ⟨_, rfl, q, CB, dx, _, _, rfl, hq1, T.clB, T.nB_inside, bF_inside, pb, rfl, ⟨_, qb⟩, fun D nD => lc_it (walk_tup (K := K) (xs := bv)) (fun i H2 => Mod [lg] H H2 ∧ Same (L2.upd (L2.upd H tt (.tup [.str kind, kV, aV])) lg (.lst (gv ++ [.ref tt]))) H2 ∧ ∃ us, H2 D = some (.lst us) ∧ ItAll K CB CP H2 us ((plcs b t.gr.length body).take i)) ⟨m1.trans (Mod.of (same_new nD)), same_new nD, [], upd_same, .nil⟩ (fun i H2 _ z => sq_same z.2.1 qb) ?_ ?_⟩
    · rintro i y H2 H3 hi ⟨z1, z2, us, hD, iu⟩ ⟨rfl, hy⟩
      obtain ⟨d, hd, dy⟩ := dps_at (dps_ext (Same.ext z2) _ _ db (noL_dB b gb)) hy
      obtain ⟨s1, rfl, hs1, gs1⟩ := plc_at t.gr.length body hd gb
      have lu := iu.len
      rw [List.length_take] at lu
      have lp1 := dB_len b t.gr.length body
      have lw := len_wIs (plcs b t.gr.length body)
      rw [w_plcs] at lw
      obtain ⟨ya, yx, rfl, _, _⟩ := view_any dy
      refine ⟨rfl, _, rfl, _, rfl, _, rfl, q, CB, dx, _, _, rfl, z2 _ _ hq1, T.clB, T.nB_body, bF_body, fun x dx2 nx ndx ne => ⟨x, dx2, [.ref ya, .int (gv.length : Int), .int (body : Int)], rfl, rfl, upd_same, rfl, ?_⟩⟩
      have s4 : Same H3 (L2.upd (L2.upd (L2.upd H3 dx2 (.own x)) x (.ins CP dx2 [])) x (.ins CP dx2 (pF (.ref ya) (.int (gv.length : Int)) (.int (body : Int))))) := same_make (C := CP) nx ndx
      have hx : (L2.upd (L2.upd (L2.upd H3 dx2 (.own x)) x (.ins CP dx2 [])) x (.ins CP dx2 (pF (.ref ya) (.int (gv.length : Int)) (.int (body : Int))))) x = some (.ins CP dx2 (pF (.ref ya) (.int (gv.length : Int)) (.int (body : Int)))) := upd_same
      refine ⟨us, s4 _ _ hD, small1000 (by omega), ?_, ?_, us ++ [.ref x], upd_same, ?_⟩
      · exact z1.trans (Mod.of s4) |>.put (.inr (show H D = none from (by
          cases e : H D with
          | none => rfl
          | some o =>
            by_cases eD : D = lg
            · rw [eD, upd_same] at nD
              cases nD
            · have := m1 D o e (by simpa using eD)
              rw [nD] at this
              cases this)))
      · intro c o e
        rw [upd_ne (ne_of_none e nD)]
        exact s4 _ _ (z2 c o e)
      · rw [take_snoc hs1]
        have ex := (Same.ext s4).trans (ext_put (o := .lst (us ++ [.ref x])) (s4 _ _ hD))
        refine ItAll.snoc (v := .ref x) (i := .plc s1 t.gr.length body) ⟨x, dx2, ya, rfl, ?_, dp_ext ex _ _ dy (noL_dS s1 gs1), gs1⟩ (iu.ext ex)
        rw [upd_ne (ne_of_none hD nx).symm, ← lgv]
        exact hx
    · rintro H2 ⟨z1, z2, us, hD, iu⟩
      rw [lbv, ← dB_len b t.gr.length body, List.take_length] at iu
      refine k D H2 us ?_ hD iu (T1.same z2) z1
      cases e : H D with
      | none => rfl
      | some o =>
        by_cases eD : D = lg
        · rw [eD, upd_same] at nD
          cases nD
        · have := m1 D o e (by simpa using eD)
          rw [nD] at this
          cases this
end
end K03
set_option Elab.async false
set_option linter.all false
set_option maxRecDepth 100000
set_option maxHeartbeats 4000000
namespace K03
open PySem PySem.Spec PyProof.Rows L2 Fb
section
variable {K : PySem.W.Frag} {CB CP CT : Addr} {H H' : Hp} {sf lp lb lg lm : Addr} {t : Fb.TS}
theorem TreeAt.ext4 (h : TreeAt K CP CT H sf lp lb lg lm t) (m : Mod [lp, lb, lg, lm] H H') : Ext H H' := by
  obtain ⟨v1, h1, _⟩ := h.pl
  obtain ⟨v2, h2, _⟩ := h.bd
  obtain ⟨v3, h3, _⟩ := h.gr
  obtain ⟨v4, h4, _⟩ := h.mm
  refine m.ext fun b hb => ?_
  simp only [List.mem_cons, List.not_mem_nil, or_false] at hb
  rcases hb with e | e | e | e <;> subst e
  · exact no_lst h1
  · exact no_lst h2
  · exact no_lst h3
  · exact no_lst h4
theorem w1 {l1 l2 l3 l4 : Addr} (m : Mod [l1] H H') : Mod [l1, l2, l3, l4] H H' := m.wide fun b hb => by rw [List.mem_singleton.mp hb]; simp
theorem w2 {l1 l2 l3 l4 : Addr} (m : Mod [l2] H H') : Mod [l1, l2, l3, l4] H H' := m.wide fun b hb => by rw [List.mem_singleton.mp hb]; simp
theorem w3 {l1 l2 l3 l4 : Addr} (m : Mod [l3] H H') : Mod [l1, l2, l3, l4] H H' := m.wide fun b hb => by rw [List.mem_singleton.mp hb]; simp
theorem w4 {l1 l2 l3 l4 : Addr} (m : Mod [l4] H H') : Mod [l1, l2, l3, l4] H H' := m.wide fun b hb => by rw [List.mem_singleton.mp hb]; simp
theorem mod1 {l : Addr} {o : HO} : Mod [l] H (L2.upd H l o) := Mod.put (Mod.refl _ _) (.inl List.mem_cons_self)
/-- a place that the tree's lists do not take, free behind, was free ahead -/
theorem free4 (h : TreeAt K CP CT H sf lp lb lg lm t) {t' : Fb.TS} (h' : TreeAt K CP CT H' sf lp lb lg lm t') (m : Mod [lp, lb, lg, lm] H H') {p : Addr} (np : H' p = none) : H p = none := by
  obtain ⟨v1, h1, _⟩ := h'.pl
  obtain ⟨v2, h2, _⟩ := h'.bd
  obtain ⟨v3, h3, _⟩ := h'.gr
  obtain ⟨v4, h4, _⟩ := h'.mm
  cases e : H p with
  | none => rfl
  | some o =>
    have z := m p o e (by
      simp only [List.mem_cons, List.not_mem_nil, or_false, not_or]
      exact ⟨(ne_of_none h1 np).symm, (ne_of_none h2 np).symm, (ne_of_none h3 np).symm, (ne_of_none h4 np).symm⟩)
    rw [np] at z
    cases z
theorem isFn_word {s : Stm} (h : isFn s = false) : ¬ wordS s = "fn" := by
  cases s with
  | mk w x r h0 => exact (mkW_ne h0).1
  | no w r h0 => exact (noW_ne h0).1
  | fn x ps b => cases h
  | ite c b1 b2 => exact (by decide +kernel : ¬ ("if" : Str) = "fn")
  | whl c b => exact (by decide +kernel : ¬ ("while" : Str) = "fn")
  | tms one x c b => exact (by decide +kernel : ¬ ("times" : Str) = "fn")
theorem bd_none {s : Stm} (h : isFn s = false) (k : Nat) : bdD s k = [] := by
  cases s with
  | fn x ps b => cases h
  | _ => rfl
end
section
variable {P : Program} {w : World} {K : PySem.W.Frag} {mg : Str → Option Value} {base : Heap} {CB CP CT : Addr}
theorem scMeet : FnScope ["self", "place", "statement", "around", "body", "k", "following", "kind", "inside"] ["self", "place"] (defScope sMeet) := ⟨rfl, rfl, rfl, by decide +kernel, rfl, by decide +kernel, by decide +kernel⟩
theorem ok_meet (T : Top K mg CB CP CT) : C8.Met P w K mg base 3 CT "meet" (spMeet K CB CP CT) [] := by
  have M_Block : C8.Mak P w K mg base 1 "Block" CB (spInit CB 5 FB) [] := mk_block T
  have C_made_by : C8.Cal P w K mg base 1 "made_by" (spMade K) [] := ok_made T
  have C_blocks_of : C8.Cal P w K mg base 1 "blocks_of" (spBlocks K) [] := ok_blocks T
  obtain ⟨f, fd, F, me⟩ := T.h_meet
  refine ⟨f, fd, ["self", "place"], [], T.clT, me, ?_, F.binds (fun _ _ _ _ _ _ us hl => match us, hl with | [_, _], _ => rfl), .nil⟩
  refine F.ok scMeet (fun vs H Q E h => ?_) (fun cdv A outer s H vs Q E hr h => ?_)
  · obtain ⟨self, lp, lb, lg, lm, t, q, s, g, b, rfl, _⟩ := h
    rfl
  · obtain ⟨sf, lp, lb, lg, lm, t, q, s, g, b, rfl, hT, ⟨q', dx, sp, eq, hq, hd, gs⟩, hN, k⟩ := h
    cases eq
    have hN2 : t.pl.length + t.bd.length + t.gr.length + t.mm.length + wS s ≤ 1000 := hN
    have wp := wS_pos s
    refine ⟨_, (C8.pss_cut (ps_asg (pe_tup (pa_cons (pe_fld (pv 1) rfl) (pa_cons (pe_fld (pv 1) rfl) (pa_cons (pe_fld (pv 1) rfl) pa_nil)))) (pg_tup rfl (pgs_cons (pg_name (i := 2) scMeet.nd rfl (Or.inl rfl)) (pgs_cons (pg_name (i := 3) scMeet.nd rfl (Or.inr rfl)) (pgs_cons (pg_name (i := 4) scMeet.nd rfl (Or.inr rfl)) pgs_nil)))))
  (C8.pss_cut (ps_set (i := 5) scMeet.nd rfl (Or.inr rfl) (pe_callB call_len_seq (by rfl) T.n_len (by decide +kernel) (pa_cons (pe_fld (pv 0) rfl) pa_nil)))
  (C8.pss_cut (ps_expr (pe_bm PySem.F.plainAttrs_list PySem.F.slot_list_append PySem.F.type_list_append mt_append (pe_fld (pv 0) rfl) (pa_cons (pv 1) pa_nil)))
  (C8.pss_cut (ps_set (i := 6) scMeet.nd rfl (Or.inl rfl) (pe_callB call_len_seq (by rfl) T.n_len (by decide +kernel) (pa_cons (pe_fld (pv 0) rfl) pa_nil)))
  (C8.pss_cut (ps_expr (pe_bm PySem.F.plainAttrs_list PySem.F.slot_list_extend PySem.F.type_list_extend mt_extend (pe_fld (pv 0) rfl) (pa_cons (C8.pe_c C_made_by hr (by omega) rfl (pa_cons (pv 2) (pa_cons (pv 5) (pa_cons (pv 3) (pa_cons (pv 6) pa_nil))))) pa_nil)))
  (C8.pss_cut (ps_if (pt_cmpR op_eq (pe_ix ix_tup (pv 2) pe_int (fun _ _ => rfl)) pe_str (nomark _))
    (pss_cons (ps_set (i := 4) scMeet.nd rfl (Or.inr rfl) (pe_callB call_len_seq (by rfl) T.n_len (by decide +kernel) (pa_cons (pe_fld (pv 0) rfl) pa_nil)))
  (pss_one (ps_expr (pe_bm PySem.F.plainAttrs_list PySem.F.slot_list_append PySem.F.type_list_append mt_append (pe_fld (pv 0) rfl) (pa_cons (pe_tup (pa_cons (pv 5) (pa_cons (pe_ix ix_tup (pv 2) pe_int (fun _ _ => rfl)) pa_nil))) pa_nil)))))
    pss_nil)
  (C8.pss_cut (ps_if (PW.pt (pw_and (pt_cmpR op_eq (pe_ix ix_tup (pv 2) pe_int (fun _ _ => rfl)) pe_str (nomark _)) (pw_and1 (pt_cmpR op_eq (pe_ix ix_tup (pv 2) pe_int (fun _ _ => rfl)) pe_str (nomark _)))))
    (pss_cons (ps_expr (pe_bm PySem.F.plainAttrs_list PySem.F.slot_list_append PySem.F.type_list_append mt_append (pe_fld (pv 0) rfl) (pa_cons (pe_tup (pa_cons pe_str (pa_cons (pv 5) (pa_cons (pv 3) pa_nil)))) pa_nil)))
  (pss_one (ps_set (i := 3) scMeet.nd rfl (Or.inr rfl) (pv 6))))
    pss_nil)
  (pss_one (ps_ret (pe_lc (own := [("kind", 7), ("inside", 8)]) rfl scMeet.nd (pi_list (C8.pe_c C_blocks_of hr (by omega) rfl (pa_cons (pv 2) pa_nil))) (blkOk_by (own := [("kind", 7), ("inside", 8)]) (N := ["self", "place", "statement", "around", "body", "k", "following", "kind", "inside"]) (sc := defScope sMeet) (by decide +kernel)) (fun _ _ _ _ _ => (Fb.pg_tupK K rfl (n := 2) rfl (pgs_cons (pg_name (i := 7) scMeet.nd rfl (Or.inl rfl)) (pgs_cons (pg_name (i := 8) scMeet.nd rfl (Or.inl rfl)) pgs_nil)))) (fun _ _ _ _ _ => pts_nil) (fun _ _ _ _ _ => (C8.pe_mk M_Block hr (by omega) rfl (pa_cons (pv 7) (pa_cons (pv 5) (pa_cons (pv 3) (pa_cons (pv 4) (pa_cons (pv 8) pa_nil))))))))))))))))), ?_⟩
    -- statement, around, body
    refine ⟨fun σ H1 => σ = [some (.ref sf), some (.ref q), some (.ref sp), some (.int (g : Int)), some (.int (b : Int)), none, none, none, none] ∧ Same H H1, ?_, ?_⟩
    · refine ⟨_, rfl, q, CP, dx, _, _, rfl, hq, T.clP, T.nP_statement, pF_statement, _, rfl, q, CP, dx, _, _, rfl, hq, T.clP, T.nP_ground, pF_ground, _, rfl, q, CP, dx, _, _, rfl, hq, T.clP, T.nP_body, pF_body, fit (show 3 ≤ 1000 by decide), fun t0 nt0 => ?_⟩
      exact ⟨t0, _, rfl, SqT.of upd_same, rfl, _, _, rfl, _, _, rfl, _, _, rfl, rfl, rfl, same_new nt0⟩
    rintro σ H1 ⟨rfl, s1⟩
    have T1 := hT.same s1
    obtain ⟨dT, hself⟩ := T1.ob
    obtain ⟨pv1, hp1, pa1⟩ := T1.pl
    have lpv := pa1.len
    -- k
    refine ⟨fun σ H2 => σ = [some (.ref sf), some (.ref q), some (.ref sp), some (.int (g : Int)), some (.int (b : Int)), some (.int (t.pl.length : Int)), none, none, none] ∧ H2 = H1, ?_, ?_⟩
    · refine ⟨_, rfl, sf, CT, dT, _, _, rfl, hself, T.clT, T.nT_places, tF_places, lp, _, rfl, .inl (SqL.of hp1), ?_, rfl⟩
      rw [lpv]
      rfl
    rintro σ H2 ⟨rfl, rfl⟩
    -- self.places.append(place)
    refine ⟨fun σ H2 => σ = [some (.ref sf), some (.ref q), some (.ref sp), some (.int (g : Int)), some (.int (b : Int)), some (.int (t.pl.length : Int)), none, none, none] ∧ Mod [lp, lb, lg, lm] H H2 ∧ TreeAt K CP CT H2 sf lp lb lg lm { t with pl := t.pl ++ [(dS s, g, b)] }, ?_, ?_⟩
    · refine ⟨_, rfl, sf, CT, dT, _, _, rfl, hself, T.clT, T.nT_places, tF_places, .inl ⟨rfl, _, SqL.of hp1⟩, _, rfl, lp, _, _, rfl, rfl, hp1, small1000 (by omega), rfl, (Mod.of s1).trans (w1 mod1), T1.upd_pl mod1 ⟨_, upd_same, ?_⟩⟩
      have ex := ext_put (o := .lst (pv1 ++ [.ref q])) hp1
      exact PlAll.snoc ⟨q, dx, sp, rfl, ex _ _ (s1 _ _ hq) True.intro, dp_ext ((Same.ext s1).trans ex) _ _ hd (noL_dS s gs), noL_dS s gs⟩ (pa1.ext ex)
    rintro σ H3 ⟨rfl, m3, T3⟩
    obtain ⟨dT3, hself3⟩ := T3.ob
    obtain ⟨gv3, hg3, dg3, ng3⟩ := T3.gr
    have lgv := dps_len dg3
    -- following
    refine ⟨fun σ H4 => σ = [some (.ref sf), some (.ref q), some (.ref sp), some (.int (g : Int)), some (.int (b : Int)), some (.int (t.pl.length : Int)), some (.int (t.gr.length : Int)), none, none] ∧ H4 = H3, ?_, ?_⟩
    · refine ⟨_, rfl, sf, CT, dT3, _, _, rfl, hself3, T.clT, T.nT_ground_rows, tF_grounds, lg, _, rfl, .inl (SqL.of hg3), ?_, rfl⟩
      rw [lgv]
      rfl
    rintro σ H4 ⟨rfl, rfl⟩
    -- self.making_rows.extend(..)
    refine ⟨fun σ H5 => σ = [some (.ref sf), some (.ref q), some (.ref sp), some (.int (g : Int)), some (.int (b : Int)), some (.int (t.pl.length : Int)), some (.int (t.gr.length : Int)), none, none] ∧ Mod [lp, lb, lg, lm] H H5 ∧ TreeAt K CP CT H5 sf lp lb lg lm { t with pl := t.pl ++ [(dS s, g, b)], mm := t.mm ++ madeD s t.pl.length g t.gr.length }, ?_, ?_⟩
    · obtain ⟨mv3, hm3, dm3, nm3⟩ := T3.mm
      have lmv := dps_len dm3
      refine ⟨_, rfl, sf, CT, dT3, _, _, rfl, hself3, T.clT, T.nT_making_rows, tF_makings, .inl ⟨rfl, _, SqL.of hm3⟩, _, rfl, _, rfl, _, rfl, _, rfl, .ref sp, s, t.pl.length, g, t.gr.length, rfl, dp_ext (hT.ext4 m3) _ _ hd (noL_dS s gs), gs, fun p H5 us np hp du s5 => ?_⟩
      have lus := dps_len du
      have lmade := madeD_len s t.pl.length g t.gr.length
      refine ⟨lm, p, mv3, us, rfl, rfl, s5 _ _ hm3, hp, fit (by have z : t.mm.length = mv3.length := lmv.symm; omega), rfl, m3.trans ((Mod.of s5).trans (w4 mod1)), ?_⟩
      have ex := ext_put (o := .lst (mv3 ++ us)) (s5 _ _ hm3)
      refine (T3.same s5).upd_mm mod1 ⟨_, upd_same, dps_app (dps_ext ex _ _ du (noLs_made _ _ _ _)) (dps_ext ((Same.ext s5).trans ex) _ _ dm3 nm3), noLs_app nm3 (noLs_made _ _ _ _)⟩
    rintro σ H5 ⟨rfl, m5, T5⟩
    obtain ⟨dT5, hself5⟩ := T5.ob
    have hd5 := dp_ext (hT.ext4 m5) _ _ hd (noL_dS s gs)
    -- a body
    refine ⟨fun σ H6 => σ = [some (.ref sf), some (.ref q), some (.ref sp), some (.int (g : Int)), some (.int ((bodN s b t.bd.length : Nat) : Int)), some (.int (t.pl.length : Int)), some (.int (t.gr.length : Int)), none, none] ∧ Mod [lp, lb, lg, lm] H H6 ∧ TreeAt K CP CT H6 sf lp lb lg lm { t with pl := t.pl ++ [(dS s, g, b)], mm := t.mm ++ madeD s t.pl.length g t.gr.length, bd := t.bd ++ bdD s t.pl.length }, ?_, ?_⟩
    · cases hf : isFn s with
      | false =>
        obtain ⟨a, xs, ea, qa, wa⟩ := view_any hd5
        cases ea
        refine ⟨_, rfl, sp, _, _, _, rfl, rfl, qa, atI_nat (j := 0) wa, rfl, _, rfl, strF (isFn_word hf) ?_⟩
        refine ⟨?_, m5, ?_⟩
        · rw [bodN, hf]
          rfl
        · rw [bd_none hf, List.append_nil]
          exact T5
      | true =>
        cases s with
        | fn x ps blk =>
          obtain ⟨a, pa, ba, ea, qa, qp, hb⟩ := view_fn hd5
          cases ea
          obtain ⟨bv5, hb5, db5, nb5⟩ := T5.bd
          have lbv := dps_len db5
          refine ⟨_, rfl, sp, _, _, _, rfl, rfl, qa, atI_nat (j := 0) rfl, rfl, _, rfl, strT rfl ?_⟩
          refine ⟨_, rfl, sf, CT, dT5, _, _, rfl, hself5, T.clT, T.nT_body_rows, tF_bodies, lb, _, rfl, .inl (SqL.of hb5), ?_⟩
          refine ⟨_, rfl, sf, CT, dT5, _, _, rfl, hself5, T.clT, T.nT_body_rows, tF_bodies, .inl ⟨rfl, _, SqL.of hb5⟩, _, rfl, _, rfl, sp, _, _, _, rfl, rfl, qa, atI_nat (j := 2) rfl, fit (show 2 ≤ 1000 by decide), fun tt nt => ⟨lb, _, _, rfl, rfl, same_new nt _ _ hb5, small1000 (by have z : t.bd.length = bv5.length := lbv.symm; omega), ?_, m5.trans (w2 (mod_push nt)), ?_⟩⟩
          · rw [lbv]
            rfl
          · refine T5.upd_bd (mod_push nt) (rows_push hb5 db5 nb5 nt ?_ (.tup (SqT.of (push_at hb5 nt)) (.cons (.int _) (.cons (.tup (sqT_ext ((ext_new nt).trans (ext_put (same_new nt _ _ hb5))) qp) (dps_strs ps)) .nil))))
            show noL (.tuple [nD t.pl.length, .tuple (ps.map .str)]) = true
            simp only [noL, noLs, noLs_strs, Bool.and_true]
        | mk w x r h0 => cases hf
        | no w r h0 => cases hf
        | ite c b1 b2 => cases hf
        | whl c b => cases hf
        | tms one x c b => cases hf
    rintro σ H6 ⟨rfl, m6, T6⟩
    obtain ⟨dT6, hself6⟩ := T6.ob
    have hd6 := dp_ext (hT.ext4 m6) _ _ hd (noL_dS s gs)
    -- a head
    refine ⟨fun σ H7 => σ = [some (.ref sf), some (.ref q), some (.ref sp), some (.int ((arnd s g t.gr.length : Nat) : Int)), some (.int ((bodN s b t.bd.length : Nat) : Int)), some (.int (t.pl.length : Int)), some (.int (t.gr.length : Int)), none, none] ∧ Mod [lp, lb, lg, lm] H H7 ∧ TreeAt K CP CT H7 sf lp lb lg lm (metT s g b t), ?_, ?_⟩
    · have eT : ∀ H7, TreeAt K CP CT H7 sf lp lb lg lm { t with pl := t.pl ++ [(dS s, g, b)], mm := t.mm ++ madeD s t.pl.length g t.gr.length, bd := t.bd ++ bdD s t.pl.length, gr := t.gr ++ grD s t.pl.length g } → TreeAt K CP CT H7 sf lp lb lg lm (metT s g b t) := fun H7 z => by
        rw [← metT_pl s g b t, ← metT_mm s g b t, ← metT_bd s g b t, ← metT_gr s g b t] at z
        exact z
      have no_ : wordS s ≠ "times" → arnd s g t.gr.length = g ∧ grD s t.pl.length g = [] := fun z => by
        cases s with
        | tms one x c b => exact absurd rfl z
        | _ => exact ⟨rfl, rfl⟩
      by_cases hw : wordS s = "times"
      · cases s with
        | tms one x c blk =>
          obtain ⟨a, u, pb, ea, qa, hb⟩ := view_tms hd6
          cases ea
          refine ⟨_, rfl, sp, _, _, _, rfl, rfl, qa, atI_nat (j := 0) rfl, rfl, _, rfl, strT rfl ?_⟩
          cases one with
          | false =>
            refine ⟨_, rfl, sp, _, _, _, rfl, rfl, qa, atI_nat (j := 1) rfl, rfl, _, rfl, strF (by decide +kernel) ?_⟩
            refine ⟨rfl, m6, eT H6 ?_⟩
            rw [show grD (.tms false x c blk) t.pl.length g = [] from rfl, List.append_nil]
            exact T6
          | true =>
            refine ⟨_, rfl, sp, _, _, _, rfl, rfl, qa, atI_nat (j := 1) rfl, rfl, _, rfl, strT rfl ?_⟩
            obtain ⟨gv6, hg6, dg6, ng6⟩ := T6.gr
            have lgv6 := dps_len dg6
            refine ⟨_, rfl, sf, CT, dT6, _, _, rfl, hself6, T.clT, T.nT_ground_rows, tF_grounds, .inl ⟨rfl, _, SqL.of hg6⟩, _, rfl, _, rfl, fit (show 3 ≤ 1000 by decide), fun tt nt => ⟨lg, _, _, rfl, rfl, same_new nt _ _ hg6, small1000 (by have z : t.gr.length = gv6.length := lgv6.symm; omega), ?_⟩⟩
            refine ⟨_, rfl, rfl, m6.trans (w3 (mod_push nt)), eT _ (T6.upd_gr (mod_push nt) (rows_push hg6 dg6 ng6 nt rfl (.tup (SqT.of (push_at hg6 nt)) (.cons (.str _) (.cons (.int _) (.cons (.int _) .nil))))))⟩
        | mk w x r h0 => exact absurd hw (mkW_ne h0).2.2.2
        | no w r h0 => exact absurd hw (noW_ne h0).2.2.2
        | fn x ps b => exact absurd hw (by decide +kernel : ¬ ("fn" : Str) = "times")
        | ite c b1 b2 => exact absurd hw (by decide +kernel : ¬ ("if" : Str) = "times")
        | whl c b => exact absurd hw (by decide +kernel : ¬ ("while" : Str) = "times")
      · obtain ⟨a, xs, ea, qa, wa⟩ := view_any hd6
        cases ea
        obtain ⟨e1, e2⟩ := no_ hw
        refine ⟨_, rfl, sp, _, _, _, rfl, rfl, qa, atI_nat (j := 0) wa, rfl, _, rfl, strF hw (iteF ⟨?_, m6, eT H6 ?_⟩)⟩
        · rw [e1]
        · rw [e2, List.append_nil]
          exact T6
    rintro σ H7 ⟨rfl, m7, T7⟩
    have hd7 := dp_ext (hT.ext4 m7) _ _ hd (noL_dS s gs)
    have gB := goodB_blks gs
    -- the blocks
    refine ⟨_, rfl, .ref sp, s, rfl, hd7, gs, fun p0 H8 us np0 hp0 du s8 => ⟨p0, rfl, ⟨_, SqL.of hp0⟩, fun D nQ => lc_it (walk_list (K := K) (xs := us)) (fun i H9 => Same H8 H9 ∧ ∃ vs, H9 D = some (.lst vs) ∧ ItAll K CB CP H9 vs ((metI s g b t).take i)) ⟨same_new nQ, [], upd_same, .nil⟩ (fun i H9 _ z => SqL.of (z.1 _ _ hp0)) ?_ ?_⟩⟩
    · rintro i y H9 H10 hi ⟨z1, vs, hD, iu⟩ ⟨rfl, hy⟩
      have nk : noLs ((blks s).map kbD) = true := noLs_all fun d hd => by
        obtain ⟨q1, hq1, rfl⟩ := List.mem_map.mp hd
        have z := noL_blk (gB q1 hq1)
        simp only [kbD, noL, noLs, Bool.and_true] at z ⊢
        exact z
      obtain ⟨d, hd, dy⟩ := dps_at (dps_ext (Same.ext z1) _ _ du nk) hy
      rw [List.getElem?_map] at hd
      cases e0 : (blks s)[i]? with
      | none => rw [e0] at hd; cases hd
      | some kb =>
        rw [e0] at hd
        cases hd
        obtain ⟨kind, blk⟩ := kb
        have hmi : (metI s g b t)[i]? = some (.blk kind (nD t.pl.length) (nD (arnd s g t.gr.length)) (bodN s b t.bd.length) blk) := by
          rw [metI_eq, List.getElem?_map, e0]
          rfl
        obtain ⟨ta, tv, rfl, qt, dt⟩ := view_tup dy
        cases dt with
        | cons d1 dt =>
          cases d1
          cases dt with
          | cons d2 dt =>
            cases dt
            obtain ⟨pb, pbs, rfl, qpb, dpb⟩ := view_tup d2
            have lvs := iu.len
            rw [List.length_take] at lvs
            have lw := len_wIs (metI s g b t)
            have lw2 := w_met s g b t
            have lw3 : wIs (metI s g b t) ≤ 1000 := by omega
            refine ⟨ta, _, rfl, qt, rfl, _, _, rfl, _, _, rfl, rfl, rfl, _, rfl, _, rfl, _, rfl, _, rfl, _, rfl, fun x dx2 nx ndx ne => ⟨x, dx2, [.str kind, .int (t.pl.length : Int), .int ((arnd s g t.gr.length : Nat) : Int), .int ((bodN s b t.bd.length : Nat) : Int), .ref pb], rfl, rfl, upd_same, rfl, ?_⟩⟩
            have s4 : Same H10 (L2.upd (L2.upd (L2.upd H10 dx2 (.own x)) x (.ins CB dx2 [])) x (.ins CB dx2 (bF (.str kind) (.int (t.pl.length : Int)) (.int ((arnd s g t.gr.length : Nat) : Int)) (.int ((bodN s b t.bd.length : Nat) : Int)) (.ref pb)))) := same_make (C := CB) nx ndx
            have hx : (L2.upd (L2.upd (L2.upd H10 dx2 (.own x)) x (.ins CB dx2 [])) x (.ins CB dx2 (bF (.str kind) (.int (t.pl.length : Int)) (.int ((arnd s g t.gr.length : Nat) : Int)) (.int ((bodN s b t.bd.length : Nat) : Int)) (.ref pb)))) x = some (.ins CB dx2 (bF (.str kind) (.int (t.pl.length : Int)) (.int ((arnd s g t.gr.length : Nat) : Int)) (.int ((bodN s b t.bd.length : Nat) : Int)) (.ref pb))) := upd_same
            refine ⟨vs, s4 _ _ hD, small1000 (by omega), ?_, vs ++ [.ref x], upd_same, ?_⟩
            · intro c o e
              rw [upd_ne (ne_of_none e nQ)]
              exact s4 _ _ (z1 c o e)
            · rw [take_snoc hmi]
              have ex := (Same.ext s4).trans (ext_put (o := .lst (vs ++ [.ref x])) (s4 _ _ hD))
              refine ItAll.snoc (v := .ref x) (i := .blk kind (nD t.pl.length) (nD (arnd s g t.gr.length)) (bodN s b t.bd.length) blk) ⟨x, dx2, _, _, pb, rfl, ?_, .inr ⟨_, rfl, rfl⟩, .inr ⟨_, rfl, rfl⟩, dp_ext ex _ _ d2 (noL_blk (gB (kind, blk) (List.mem_of_getElem? e0))), gB (kind, blk) (List.mem_of_getElem? e0)⟩ (iu.ext ex)
              rw [upd_ne (ne_of_none hD nx).symm]
              exact hx
    · rintro H9 ⟨z1, vs, hD, iu⟩
      have lus : us.length = (metI s g b t).length := by
        rw [dps_len du, metI_eq, List.length_map, List.length_map]
      rw [lus, List.take_length] at iu
      have m9 : Mod [lp, lb, lg, lm] H H9 := m7.trans (Mod.of (s8.trans z1))
      have T9 := T7.same (s8.trans z1)
      refine k D H9 vs ?_ hD iu T9 m9
      exact free4 hT (T7.same s8) (m7.trans (Mod.of s8)) nQ
end
end K03
set_option Elab.async false
set_option linter.all false
set_option maxRecDepth 100000
set_option maxHeartbeats 4000000
namespace K03
open PySem PySem.Spec PyProof.Rows L2 Fb
def t00 : Fb.TS := ⟨[], [rowB .none []], [], []⟩
def item0 (b : Blk) : Itm := .blk "body" .none .none 0 b
def final (b : Blk) : Fb.TS := layB b 0 0 ⟨[], [rowB .none []], [rowG "body" .none .none], []⟩
theorem run0 (b : Blk) : runIs [item0 b] t00 = final b := rfl
section
variable {K : PySem.W.Frag} {CB CP CT : Addr} {H H' : Hp} {sf lp lb lg lm : Addr} {t : Fb.TS}
theorem TreeAt.other (h : TreeAt K CP CT H sf lp lb lg lm t) {x : Addr} {us : List V} (m : Mod [x] H H') (hx : H x = some (.lst us)) (ne : x ∉ [lp, lb, lg, lm]) : TreeAt K CP CT H' sf lp lb lg lm t := by
  simp only [List.mem_cons, List.not_mem_nil, or_false, not_or] at ne
  obtain ⟨n1, n2, n3, n4⟩ := ne
  have e : Ext H H' := m.ext fun b hb => by rw [List.mem_singleton.mp hb]; exact no_lst hx
  obtain ⟨⟨dx, h1⟩, ⟨vs, h2, h2'⟩, h3, h4, h5, h6⟩ := h
  have k : ∀ {l : Addr}, x ≠ l → ∀ o, H l = some o → H' l = some o := fun hl o q => m _ o q (by simpa using hl.symm)
  exact ⟨⟨dx, e _ _ h1 True.intro⟩, ⟨vs, k n1 _ h2, h2'.ext e⟩, h3.mod e (k n2), h4.mod e (k n3), h5.mod e (k n4), h6⟩
end
theorem freeM {H H1 : Hp} {p x : Addr} {o : HO} (m : Mod [p] H H1) (hp : H1 p = some o) (nx : H1 x = none) : H x = none := by
  cases e : H x with
  | none => rfl
  | some u =>
    have z := m x u e (by simpa using (ne_of_none hp nx).symm)
    rw [nx] at z
    cases z
def spTInit (K : PySem.W.Frag) (CP CT : Addr) : Sp := fun vs H Q _ => ∃ (p dx pr : Addr) (b : Blk), vs = [.ref p, .ref pr] ∧ H p = some (.ins CT dx []) ∧ Dp K H (.ref pr) (.tuple (dB b)) ∧ goodB b ∧ wB b ≤ 900 ∧
  ∀ H' lp lb lg lm, TreeAt K CP CT H' p lp lb lg lm (final b) → Mod [p] H H' → (∀ x ∈ [lp, lb, lg, lm], H x = none) → Q .non H'
section
variable {P : Program} {w : World} {K : PySem.W.Frag} {mg : Str → Option Value} {base : Heap} {CB CP CT : Addr}
theorem scTInit : FnScope ["self", "program", "pile", "part", "inner"] ["self", "program"] (defScope sTInit) := ⟨rfl, rfl, rfl, by decide +kernel, rfl, by decide +kernel, by decide +kernel⟩
theorem mk_tree (T : Top K mg CB CP CT) : C8.Mak P w K mg base 4 "Tree" CT (spTInit K CP CT) [] := by
  have M_Block : C8.Mak P w K mg base 1 "Block" CB (spInit CB 5 FB) [] := mk_block T
  have C_enter : C8.Met P w K mg base 3 CT "enter" (spEnter K CB CP CT) [] := ok_enter T
  have C_meet : C8.Met P w K mg base 3 CT "meet" (spMeet K CB CP CT) [] := ok_meet T
  obtain ⟨f, fd, F, M⟩ := T.h_TInit
  refine ⟨f, fd, ["self", "program"], [], M, ?_, T.m_Tree, F.binds (fun _ _ _ _ _ _ us hl => match us, hl with | [_, _], _ => rfl), .nil⟩
  refine F.ok scTInit (fun vs H Q E h => ?_) (fun cdv A outer s H vs Q E hr h => ?_)
  · obtain ⟨p, dx, pr, b, rfl, _⟩ := h
    rfl
  · obtain ⟨p, dx, pr, b, rfl, hp, hd, gb, hw, k⟩ := h
    have n1 : ¬ ("places" : Str) = "body_rows" := by decide +kernel
    have n2 : ¬ ("places" : Str) = "ground_rows" := by decide +kernel
    have n3 : ¬ ("body_rows" : Str) = "ground_rows" := by decide +kernel
    have n4 : ¬ ("places" : Str) = "making_rows" := by decide +kernel
    have n5 : ¬ ("body_rows" : Str) = "making_rows" := by decide +kernel
    have n6 : ¬ ("ground_rows" : Str) = "making_rows" := by decide +kernel
    refine ⟨_, (C8.pss_cut (ps_fld (pv 0) (pe_lst pa_nil) rfl)
  (C8.pss_cut (ps_fld (pv 0) (pe_lst (pa_cons (pe_tup (pa_cons pe_non (pa_cons (pe_tup pa_nil) pa_nil))) pa_nil)) rfl)
  (C8.pss_cut (ps_fld (pv 0) (pe_lst pa_nil) rfl)
  (C8.pss_cut (ps_fld (pv 0) (pe_lst pa_nil) rfl)
  (C8.pss_cut (ps_set (i := 2) scTInit.nd rfl (Or.inl rfl) (pe_lst (pa_cons (C8.pe_mk M_Block hr (by omega) rfl (pa_cons pe_str (pa_cons pe_non (pa_cons pe_non (pa_cons pe_int (pa_cons (pv 1) pa_nil)))))) pa_nil)))
  (pss_one (ps_while PassesOwn.never (pt_truth (pv 2) (by intro _; rfl)) (C8.pss_cut (ps_set (i := 3) scTInit.nd rfl (Or.inl rfl) (pe_bm0 PySem.F.plainAttrs_list PySem.F.slot_list_pop PySem.F.type_list_pop mt_pop (pv 2)))
  (C8.pss_cut (ps_set (i := 4) scTInit.nd rfl (Or.inl rfl) (pe_ifExp (pt_val (pe_callB call_isi (by rfl) T.n_isinstance (by decide +kernel) (pa_cons (pv 3) (pa_cons (C8.pe_gc rfl T.c_Block) pa_nil)))) (C8.pe_mt C_enter hr (by omega) (pv 0) (pa_cons (pv 3) pa_nil)) (C8.pe_mt C_meet hr (by omega) (pv 0) (pa_cons (pv 3) pa_nil))))
  (pss_one (ps_expr (pe_bm PySem.F.plainAttrs_list PySem.F.slot_list_extend PySem.F.type_list_extend mt_extend (pv 2) (pa_cons (pe_revL (pv 4)) pa_nil))))))))))))), ?_⟩
    refine ⟨fun σ H1 => σ = [some (.ref p), some (.ref pr), none, none, none] ∧ Mod [p] H H1 ∧ ∃ lp, H1 p = some (.ins CT dx [("places", .ref lp)]) ∧ H1 lp = some (.lst []) ∧ H lp = none, ?_, ?_⟩
    · refine ⟨fit (by decide), fun l nl => ⟨_, rfl, p, CT, dx, _, rfl, same_new nl _ _ hp, T.clT, T.nT_places, by decide, rfl, ?_, l, upd_same, ?_, nl⟩⟩
      · exact Mod.put (Mod.put (Mod.refl _ _) (.inr nl)) (.inl List.mem_cons_self)
      · rw [upd_ne (ne_of_none hp nl).symm, upd_same]
    rintro σ H1 ⟨rfl, m1, lp, hp1, hlp1, flp⟩
    refine ⟨fun σ H2 => σ = [some (.ref p), some (.ref pr), none, none, none] ∧ Mod [p] H H2 ∧ ∃ lb, H2 p = some (.ins CT dx [("places", .ref lp), ("body_rows", .ref lb)]) ∧ H2 lp = some (.lst []) ∧ lp ≠ lb ∧ H lb = none ∧ ∃ t0 t1, H2 lb = some (.lst [.ref t1]) ∧ H2 t1 = some (.tup [.non, .ref t0]) ∧ H2 t0 = some (.tup []), ?_, ?_⟩
    · refine ⟨Nat.zero_le _, fun t0 nt0 => ⟨fit (show 2 ≤ 1000 by decide), fun t1 nt1 => ⟨fit (show 1 ≤ 1000 by decide), fun lb nlb => ?_⟩⟩⟩
      have s3 := (same_new (o := .tup []) nt0).trans ((same_new (o := .tup [.non, .ref t0]) nt1).trans (same_new (o := .lst [.ref t1]) nlb))
      have hp3 := s3 _ _ hp1
      have npl : p ≠ lb := ne_of_none (((same_new (o := .tup []) nt0).trans (same_new (o := .tup [.non, .ref t0]) nt1)) _ _ hp1) nlb
      have nlpl : lp ≠ lb := ne_of_none (((same_new (o := .tup []) nt0).trans (same_new (o := .tup [.non, .ref t0]) nt1)) _ _ hlp1) nlb
      have nt1p : t1 ≠ p := (ne_of_none ((same_new (o := .tup []) nt0) _ _ hp1) nt1).symm
      have nt0p : t0 ≠ p := (ne_of_none hp1 nt0).symm
      have nlpp : lp ≠ p := fun z => by rw [z, hp1] at hlp1; cases hlp1
      refine ⟨_, rfl, p, CT, dx, _, rfl, hp3, T.clT, T.nT_body_rows, (by show 1 < 1000; decide), rfl, m1.trans (Mod.put (Mod.of s3) (.inl List.mem_cons_self)), lb, ?_, ?_, nlpl, freeM m1 hp1 (((same_new (o := .tup []) nt0).trans (same_new (o := .tup [.non, .ref t0]) nt1)).free nlb), t0, t1, ?_, ?_, ?_⟩
      · rw [upd_same]
        simp only [putF, n1, if_false]
      · rw [upd_ne nlpp]
        exact s3 _ _ hlp1
      · rw [upd_ne npl.symm, upd_same]
      · rw [upd_ne nt1p]
        exact same_new nlb _ _ upd_same
      · rw [upd_ne nt0p]
        exact ((same_new nt1).trans (same_new nlb)) _ _ upd_same
    rintro σ H2 ⟨rfl, m2, lb, hp2, hlp2, nplb, flb, t0, t1, hb2, ht1, ht0⟩
    have oth : ∀ {H0 : Hp} {l : Addr} {o : HO}, H0 l = none → ∀ {c : Addr} {x : HO}, c ≠ p → H0 c = some x → (L2.upd (L2.upd H0 l (.lst [])) p o) c = some x := fun {H0 l o} nl {c x} hc e => by
      rw [upd_ne hc]
      exact same_new nl _ _ e
    have nlpp : lp ≠ p := fun z => by rw [z, hp2] at hlp2; cases hlp2
    have nlbp : lb ≠ p := fun z => by rw [z, hp2] at hb2; cases hb2
    have nt1p : t1 ≠ p := fun z => by rw [z, hp2] at ht1; cases ht1
    have nt0p : t0 ≠ p := fun z => by rw [z, hp2] at ht0; cases ht0
    refine ⟨fun σ H3 => σ = [some (.ref p), some (.ref pr), none, none, none] ∧ Mod [p] H H3 ∧ ∃ lg, H3 p = some (.ins CT dx [("places", .ref lp), ("body_rows", .ref lb), ("ground_rows", .ref lg)]) ∧ H3 lp = some (.lst []) ∧ H3 lb = some (.lst [.ref t1]) ∧ H3 t1 = some (.tup [.non, .ref t0]) ∧ H3 t0 = some (.tup []) ∧ H3 lg = some (.lst []) ∧ lp ≠ lg ∧ lb ≠ lg ∧ H lg = none, ?_, ?_⟩
    · refine ⟨fit (by decide), fun l nl => ?_⟩
      have npl : l ≠ p := (ne_of_none hp2 nl).symm
      refine ⟨_, rfl, p, CT, dx, _, rfl, same_new nl _ _ hp2, T.clT, T.nT_ground_rows, (by show 2 < 1000; decide), rfl, m2.trans (Mod.put (Mod.of (same_new nl)) (.inl List.mem_cons_self)), l, ?_, oth nl nlpp hlp2, oth nl nlbp hb2, oth nl nt1p ht1, oth nl nt0p ht0, ?_, ne_of_none hlp2 nl, ne_of_none hb2 nl, freeM m2 hp2 nl⟩
      · rw [upd_same]
        simp only [putF, n2, n3, if_false]
      · rw [upd_ne npl, upd_same]
    rintro σ H3 ⟨rfl, m3, lg, hp3, hlp3, hb3, ht13, ht03, hg3, nplg, nblg, flg⟩
    have nlgp : lg ≠ p := fun z => by rw [z, hp3] at hg3; cases hg3
    refine ⟨fun σ H4 => σ = [some (.ref p), some (.ref pr), none, none, none] ∧ Mod [p] H H4 ∧ ∃ lm, H lm = none ∧ TreeAt K CP CT H4 p lp lb lg lm t00, ?_, ?_⟩
    · refine ⟨fit (by decide), fun l nl => ?_⟩
      have npl : l ≠ p := (ne_of_none hp3 nl).symm
      refine ⟨_, rfl, p, CT, dx, _, rfl, same_new nl _ _ hp3, T.clT, T.nT_making_rows, (by show 3 < 1000; decide), rfl, m3.trans (Mod.put (Mod.of (same_new nl)) (.inl List.mem_cons_self)), l, freeM m3 hp3 nl, ⟨dx, ?_⟩, ⟨[], oth nl nlpp hlp3, .nil⟩, ⟨[.ref t1], oth nl nlbp hb3, .cons (.tup (SqT.of (oth nl nt1p ht13)) (.cons .non (.cons (.tup (SqT.of (oth nl nt0p ht03)) .nil) .nil))) .nil, rfl⟩, ⟨[], oth nl nlgp hg3, .nil, rfl⟩, ⟨[], ?_, .nil, rfl⟩, ?_⟩
      · rw [upd_same]
        simp only [putF, n4, n5, n6, if_false]
        rfl
      · rw [upd_ne npl, upd_same]
      · have a1 := ne_of_none hlp3 nl
        have a2 := ne_of_none hb3 nl
        have a3 := ne_of_none hg3 nl
        simp only [List.nodup_cons, List.mem_cons, List.not_mem_nil, or_false, not_or, List.nodup_nil, and_true, not_false_eq_true]
        exact ⟨⟨nplb, nplg, a1⟩, ⟨nblg, a2⟩, a3⟩
    rintro σ H4 ⟨rfl, m4, lm, flm, T4⟩
    obtain ⟨pr', prv, epr, qpr, dpr⟩ := view_tup hd
    cases epr
    have dp4 : Dp K H4 (.ref pr) (.tuple (dB b)) := dp_extT (m4.extT fun c hc => by rw [List.mem_singleton.mp hc]; exact noT_ins hp) _ _ hd (noL_blk gb)
    -- the pile
    refine ⟨fun σ H5 => Mod [p] H H5 ∧ TreeAt K CP CT H5 p lp lb lg lm t00 ∧ ∃ pile us, σ = [some (.ref p), some (.ref pr), some (.ref pile), none, none] ∧ H5 pile = some (.lst us) ∧ ItAll K CB CP H5 us.reverse [item0 b] ∧ pile ∉ [lp, lb, lg, lm] ∧ H pile = none, ?_, ?_⟩
    · refine ⟨_, rfl, fun x dx2 nx ndx ne => ⟨x, dx2, [.str "body", .non, .non, .int 0, .ref pr], rfl, rfl, upd_same, rfl, ?_⟩⟩
      have s4 : Same H4 (L2.upd (L2.upd (L2.upd H4 dx2 (.own x)) x (.ins CB dx2 [])) x (.ins CB dx2 (bF (.str "body") .non .non (.int 0) (.ref pr)))) := same_make (C := CB) nx ndx
      have hx : (L2.upd (L2.upd (L2.upd H4 dx2 (.own x)) x (.ins CB dx2 [])) x (.ins CB dx2 (bF (.str "body") .non .non (.int 0) (.ref pr)))) x = some (.ins CB dx2 (bF (.str "body") .non .non (.int 0) (.ref pr))) := upd_same
      refine ⟨fit (show 1 ≤ 1000 by decide), fun pile np => ?_⟩
      have s5 := s4.trans (same_new (o := .lst [.ref x]) np)
      refine ⟨m4.trans (Mod.of s5), T4.same s5, pile, [.ref x], rfl, upd_same, .cons ?_ .nil, ?_, ?_⟩
      · exact ⟨x, dx2, .non, .non, pr, rfl, same_new np _ _ hx, .inl ⟨rfl, rfl⟩, .inl ⟨rfl, rfl⟩, dp_ext (Same.ext s5) _ _ dp4 (noL_blk gb), gb⟩
      · have T5 := T4.same s4
        obtain ⟨_, h1, _⟩ := T5.pl
        obtain ⟨_, h2, _⟩ := T5.bd
        obtain ⟨_, h3, _⟩ := T5.gr
        obtain ⟨_, h4, _⟩ := T5.mm
        simp only [List.mem_cons, List.not_mem_nil, or_false, not_or]
        exact ⟨(ne_of_none h1 np).symm, (ne_of_none h2 np).symm, (ne_of_none h3 np).symm, (ne_of_none h4 np).symm⟩
      · cases e : H pile with
        | none => rfl
        | some o =>
          have z := (m4.trans (Mod.of s4)) pile o e (by
            obtain ⟨dq, hq⟩ := (T4.same s4).ob
            simpa using (ne_of_none hq np).symm)
          exact absurd (z.symm.trans np) (by intro q; cases q)
    rintro σ H5 ⟨m5, T5, pile, us5, rfl, hpile5, it5, npile, npileH⟩
    have w0 : t00.n + wIs [item0 b] ≤ 902 := by
      show 1 + (1 + wB b + 0) ≤ 902
      omega
    -- while pile
    refine ⟨fun m σ H6 => Mod [p] H H6 ∧ ∃ (t : Fb.TS) (items : List Itm) (us : List V) (y3 y4 : Option V), σ = [some (.ref p), some (.ref pr), some (.ref pile), y3, y4] ∧ TreeAt K CP CT H6 p lp lb lg lm t ∧ H6 pile = some (.lst us) ∧ ItAll K CB CP H6 us.reverse items ∧ runIs items t = final b ∧ t.n + wIs items ≤ 902 ∧ m = zIs items, ⟨_, m5, t00, [item0 b], us5, none, none, rfl, T5, hpile5, it5, run0 b, w0, rfl⟩, ?_⟩
    rintro m σ H6 ⟨m6, t, items, us, y3, y4, rfl, T6, hpile, it6, hrun, hw6, rfl⟩
    obtain ⟨d6, hself6⟩ := T6.ob
    refine ⟨_, rfl, _, .inl ⟨us, SqL.of hpile, rfl⟩, ?_⟩
    cases hrev : us.reverse with
    | nil =>
      have eu : us = [] := List.reverse_eq_nil_iff.mp hrev
      subst eu
      refine iteF ?_
      rw [hrev] at it6
      cases it6
      have T7 : TreeAt K CP CT H6 p lp lb lg lm (final b) := by
        rw [← hrun]
        exact T6
      refine k H6 lp lb lg lm T7 m6 fun x hx => ?_
      simp only [List.mem_cons, List.not_mem_nil, or_false] at hx
      rcases hx with e | e | e | e <;> subst e
      · exact flp
      · exact flb
      · exact flg
      · exact flm
    | cons v vs =>
      have eu : us = vs.reverse ++ [v] := by
        have z := congrArg List.reverse hrev
        rw [List.reverse_reverse, List.reverse_cons] at z
        exact z
      subst eu
      rw [hrev] at it6
      cases it6 with
      | @cons _ _ it its hit hits =>
      refine boolT (by simp) ?_
      refine ⟨fun σ' H' => Mod [p] H H' ∧ ∃ (t : Fb.TS) (items : List Itm) (us : List V) (y3 y4 : Option V), σ' = [some (.ref p), some (.ref pr), some (.ref pile), y3, y4] ∧ TreeAt K CP CT H' p lp lb lg lm t ∧ H' pile = some (.lst us) ∧ ItAll K CB CP H' us.reverse items ∧ runIs items t = final b ∧ t.n + wIs items ≤ 902 ∧ zIs items < zIs (it :: its), fun σ' H' ⟨a1, t, items, us, y3, y4, a2, a3, a4, a5, a6, a7, a8⟩ => ⟨_, a8, a1, t, items, us, y3, y4, a2, a3, a4, a5, a6, a7, rfl⟩, ?_⟩
      -- part = pile.pop()
      have pm : Mod [p] H6 (L2.upd H6 pile (.lst vs.reverse)) → True := fun _ => True.intro
      refine ⟨fun σ' H7 => σ' = [some (.ref p), some (.ref pr), some (.ref pile), some v, y4] ∧ Mod [p] H H7 ∧ TreeAt K CP CT H7 p lp lb lg lm t ∧ H7 pile = some (.lst vs.reverse) ∧ ItAt K CB CP H7 v it ∧ ItAll K CB CP H7 vs its, ?_, ?_⟩
      · refine ⟨_, rfl, .inl ⟨rfl, _, SqL.of hpile⟩, pile, _, v, rfl, rfl, hpile, by simp, ?_⟩
        rw [List.dropLast_concat]
        have ex := ext_put (o := .lst vs.reverse) hpile
        refine ⟨rfl, m6.put (.inr npileH), T6.other mod1 hpile npile, upd_same, hit.ext ex, hits.ext ex⟩
      rintro σ' H7 ⟨rfl, m7, T7, hpile7, hit7, hits7⟩
      obtain ⟨d7, hself7⟩ := T7.ob
      rw [wIs_cons] at hw6
      have npile2 := npile
      simp only [List.mem_cons, List.not_mem_nil, or_false, not_or] at npile2
      -- inner
      refine ⟨fun σ' H8 => Mod [p] H H8 ∧ ∃ (t' : Fb.TS) (ins : List Itm) (pin : Addr) (ws : List V), σ' = [some (.ref p), some (.ref pr), some (.ref pile), some v, some (.ref pin)] ∧ TreeAt K CP CT H8 p lp lb lg lm t' ∧ H8 pile = some (.lst vs.reverse) ∧ ItAll K CB CP H8 vs its ∧ H8 pin = some (.lst ws) ∧ ItAll K CB CP H8 ws ins ∧ runIs ins t' = runI it t ∧ t'.n + wIs ins ≤ t.n + wI it ∧ zIs ins < zI it, ?_, ?_⟩
      · have mh : ∀ {H8 : Hp}, Mod [lp, lb, lg, lm] H7 H8 → Mod [p] H H8 := fun {H8} m8 c o e hc => m8 c o (m7 c o e hc) (by
          simp only [List.mem_cons, List.not_mem_nil, or_false, not_or]
          exact ⟨ne_of_none e flp, ne_of_none e flb, ne_of_none e flg, ne_of_none e flm⟩)
        cases it with
        | blk kind kD aD body blk =>
          have hit8 := hit7
          obtain ⟨q, dq, kV, aV, pb, rfl, hq, sk, sa, hb, gbk⟩ := hit7
          refine ⟨_, rfl, .ref q, .ref CB, _, _, true, rfl, .own CB, .base (.ins hq T.iB.cl T.iB.ha T.iB.hn T.iB.htk T.iB.hm), T.iB.me, _, rfl, iteT ?_⟩
          refine ⟨_, rfl, p, d7, _, rfl, hself7, tF_no (by decide +kernel) (by decide +kernel) (by decide +kernel) (by decide +kernel), _, rfl, p, lp, lb, lg, lm, t, q, kind, kD, aD, body, blk, rfl, T7, hit8, ?_, fun pin H8 ws npin hpin iw T8 m8 => ?_⟩
          · have : wI (.blk kind kD aD body blk) = 1 + wB blk := rfl
            omega
          have m84 : Mod [lp, lb, lg, lm] H7 H8 := w3 m8
          refine ⟨mh m84, _, _, pin, ws, rfl, T8, m8 _ _ hpile7 (by simpa using npile2.2.2.1), hits7.ext (T7.ext4 m84), hpin, iw, run_plcs _ _ _ _, ?_, ?_⟩
          · rw [w_plcs]
            show _ ≤ t.n + (1 + wB blk)
            simp only [TS.n, List.length_append, List.length_cons, List.length_nil]
            omega
          · rw [z_plcs]
            show zB blk < 1 + zB blk
            omega
        | plc s0 g0 b0 =>
          have hit8 := hit7
          obtain ⟨q, dq, sp0, rfl, hq, hd0, gs0⟩ := hit7
          refine ⟨_, rfl, .ref q, .ref CB, _, _, false, rfl, .own CB, .base (.ins hq T.iP.cl T.iP.ha T.iP.hn T.iP.htk T.iP.hm), T.pB, _, rfl, iteF ?_⟩
          refine ⟨_, rfl, p, d7, _, rfl, hself7, tF_no (by decide +kernel) (by decide +kernel) (by decide +kernel) (by decide +kernel), _, rfl, p, lp, lb, lg, lm, t, q, s0, g0, b0, rfl, T7, hit8, ?_, fun pin H8 ws npin hpin iw T8 m8 => ?_⟩
          · have : wI (.plc s0 g0 b0) = wS s0 := rfl
            omega
          refine ⟨mh m8, _, _, pin, ws, rfl, T8, m8 _ _ hpile7 npile, hits7.ext (T7.ext4 m8), hpin, iw, run_met _ _ _ _, w_met _ _ _ _, ?_⟩
          have := z_met s0 g0 b0 t
          show zIs (metI s0 g0 b0 t) < zS s0
          omega
      rintro σ' H8 ⟨m8, t', ins, pin, ws, rfl, T8, hpile8, hits8, hpin8, iw8, hr8, hw8, hz8⟩
      have lvs := hits8.len
      have lws := iw8.len
      have l1 := len_wIs its
      have l2 := len_wIs ins
      -- pile.extend(inner[::-1])
      refine ⟨_, rfl, .inl ⟨rfl, _, SqL.of hpile8⟩, _, rfl, pin, ws, rfl, SqL.of hpin8, fun rv nrv => ⟨pile, rv, _, _, rfl, rfl, same_new nrv _ _ hpile8, upd_same, fit (by rw [List.length_reverse, List.length_reverse]; omega), ?_⟩⟩
      have s9 := same_new (o := .lst ws.reverse) nrv
      have ex := (Same.ext s9).trans (ext_put (o := .lst (vs.reverse ++ ws.reverse)) (s9 _ _ hpile8))
      refine ⟨(m8.trans (Mod.of s9)).put (.inr npileH), t', ins ++ its, vs.reverse ++ ws.reverse, _, _, rfl, (T8.same s9).other mod1 (s9 _ _ hpile8) npile, upd_same, ?_, ?_, ?_, ?_⟩
      · rw [List.reverse_append, List.reverse_reverse, List.reverse_reverse]
        exact ItAll.app (hits8.ext ex) (iw8.ext ex)
      · rw [runIs_append, hr8]
        exact hrun
      · rw [wIs_append]
        omega
      · rw [zIs_append, zIs_cons]
        omega
end
end K03
set_option Elab.async false
set_option linter.all false
set_option maxRecDepth 100000
set_option maxHeartbeats 4000000
namespace K03
open PySem PySem.Spec PyProof.Rows L2 Fb
section
variable {P : Program} {w : World} {K : PySem.W.Frag} {mg : Str → Option Value} {base : Heap} {CB CP CT : Addr}
theorem scDraw : FnScope ["_law_deal_here", "_law_many", "_law_number", "_law_one", "_law_other"] ["_law_deal_here", "_law_many"] (defScope s_l_draw) := ⟨rfl, rfl, rfl, by decide +kernel, rfl, by decide +kernel, by decide +kernel⟩
theorem ok_draw (T : Top K mg CB CP CT) : C8.Cal P w K mg base 1 "_law_draw" spDraw [] := by
  obtain ⟨f, fd, F, gm⟩ := T.h_l_draw
  refine ⟨f, fd, ["_law_deal_here", "_law_many"], [], ?_, gm, F.kp, F.binds (fun _ _ _ _ _ _ us hl => match us, hl with | [_, _], _ => rfl), .nil⟩
  refine F.ok scDraw (fun vs H Q E h => ?_) (fun cdv A outer s H vs Q E hr h => ?_)
  · obtain ⟨d, l, many, rfl, _⟩ := h
    rfl
  · obtain ⟨d, l, many, rfl, ⟨s0, n0, ns0, hD⟩, m0, m1, k⟩ := h
    have hu := hu_of hr
    have hdl := hD.ne
    refine ⟨_, (C8.pss_cut (ps_while PassesOwn.never (PW.pt (pw_and (pt_cmpR op_eq (pe_dget hu (pv 0) pe_str (fun _ _ => rfl)) pe_int (nomark _)) (pw_and1 (pt_cmpR op_gt (pe_callB call_len_seq (by rfl) T.n_len (by decide +kernel) (pa_cons (pe_dget hu (pv 0) pe_str (fun _ _ => rfl)) pa_nil)) pe_int (nomark _))))) (pss_one (ps_dput hu (pv 0) pe_str (pe_bm0 PySem.F.plainAttrs_list PySem.F.slot_list_pop PySem.F.type_list_pop mt_pop (pe_dget hu (pv 0) pe_str (fun _ _ => rfl))) rfl)))
  (pss_cons (ps_set (i := 2) scDraw.nd rfl (Or.inl rfl) (pe_dget hu (pv 0) pe_str (fun _ _ => rfl)))
  (pss_cons (ps_if (pt_cmpR op_gt (pv 2) pe_int (nomark _))
    (pss_cons (ps_dput hu (pv 0) pe_str (pe_op op_fdivW (pv 2) (pv 1)) rfl)
  (pss_one (ps_ret (pe_op op_mod (pv 2) (pv 1)))))
    pss_nil)
  (pss_cons (ps_set (i := 3) scDraw.nd rfl (Or.inl rfl) (pe_op op_mod (pe_op op_add (pe_op op_mul (pe_dget hu (pv 0) pe_str (fun _ _ => rfl)) pe_int) pe_int) pe_int))
  (pss_cons (ps_dput hu (pv 0) pe_str (pe_op op_mod (pe_op op_add (pe_op op_mul (pv 3) pe_int) pe_int) pe_int) rfl)
  (pss_cons (ps_set (i := 4) scDraw.nd rfl (Or.inl rfl) (pe_op op_mod (pe_op op_mul (pe_dget hu (pv 0) pe_str (fun _ _ => rfl)) (pe_dget hu (pv 0) pe_str (fun _ _ => rfl))) pe_int))
  (pss_one (ps_ret (pe_op op_mod (pe_op op_add (pe_op op_mul (pe_op op_mod (pe_op op_mul (pv 3) (pv 3)) pe_int) pe_int) (pv 4)) (pv 1)))))))))), ?_⟩
    refine ⟨fun σ H1 => σ = [some (.ref d), some (.int many), none, none, none] ∧ Keep d l H H1 ∧ DealAt H1 d l, ?_, ?_⟩
    · refine ⟨fun m σ H1 => σ = [some (.ref d), some (.int many), none, none, none] ∧ Keep d l H H1 ∧ ∃ s n ns, m = ns.length ∧ DealX H1 d l s n ns, ⟨_, rfl, Keep.refl _ _ _, s0, n0, ns0, rfl, hD⟩, ?_⟩
      rintro m σ H1 ⟨rfl, hk, s1, n1, ns, rfl, h1⟩
      refine ⟨.ref d, rfl, d, .int n1, rfl, g_number h1.1, rfl, _, rfl, ?_⟩
      refine ite2 (fun e => ?_) (fun e => ?_)
      · refine ⟨.ref d, rfl, d, .ref l, rfl, g_left h1.1, l, ns.map V.int, rfl, .inl (SqL.of h1.2.1), _, _, rfl, rfl, _, rfl, ?_⟩
        refine ite2 (fun e2 => ?_) (fun e2 => ?_)
        · have hpos : 0 < ns.length := by
            have z := of_decide_eq_true e2
            rw [List.length_map] at z
            omega
          have hlast : (ns.map V.int)[(ns.map V.int).length - 1]? = some (.int (ns.getLast (by intro z; rw [z] at hpos; exact Nat.lt_irrefl _ hpos))) := by
            rw [List.length_map, List.getElem?_map, ← List.getLast?_eq_getElem?, List.getLast?_eq_some_getLast]
            rfl
          refine ⟨fun σ2 H2 => σ2 = [some (.ref d), some (.int many), none, none, none] ∧ Keep d l H H2 ∧ ∃ s n ns', ns'.length < ns.length ∧ DealX H2 d l s n ns', fun σ2 H2 ⟨a1, a2, a3, a4, a5, a6, a7⟩ => ⟨_, a6, a1, a2, a3, a4, a5, rfl, a7⟩, ?_⟩
          refine ⟨.ref d, rfl, d, .ref l, rfl, g_left h1.1, .inl ⟨rfl, _, SqL.of h1.2.1⟩, l, _, _, rfl, rfl, h1.2.1, hlast, .ref d, rfl, d, _, rfl, u_number (by rw [upd_ne hdl]; exact h1.1), ?_⟩
          refine ⟨rfl, hk.at_l.at_d, s1, _, ns.dropLast, by rw [List.length_dropLast]; omega, upd_same, ?_, h1.2.2.1, h1.2.2.2.1, ?_, fun x hx => h1.2.2.2.2.2 x (List.dropLast_subset _ hx)⟩
          · rw [upd_ne hdl.symm, upd_same, List.map_dropLast]
          · exact Int.le_of_lt (h1.2.2.2.2.2 _ (List.getLast_mem _))
        · exact ⟨rfl, hk, _, _, _, h1⟩
      · exact iteF ⟨rfl, hk, _, _, _, h1⟩
    · rintro σ H1 ⟨rfl, hk, s1, n1, ns, h1⟩
      refine ⟨.ref d, rfl, d, .int n1, rfl, g_number h1.1, _, rfl, _, _, rfl, rfl, _, rfl, ?_⟩
      refine ite2 (fun e => ?_) (fun e => ?_)
      · have hn : 0 < n1 := of_decide_eq_true e
        refine ⟨_, rfl, _, rfl, _, _, rfl, rfl, divW m0 m1, .ref d, rfl, d, _, rfl, u_number h1.1, _, rfl, _, rfl, _, _, rfl, rfl, m0, ?_⟩
        refine k _ _ (mod_lo m0) (mod_hi m0) ⟨s1, n1 / many, ns, upd_same, by rw [upd_ne hdl.symm]; exact h1.2.1, h1.2.2.1, h1.2.2.2.1, Int.ediv_nonneg (by omega) (by omega), h1.2.2.2.2.2⟩ hk.at_d
      · have q1 : (0 : Int) < 2147483647 := by decide
        have q2 : (0 : Int) < 2147483399 := by decide
        have q3 : (0 : Int) < 2147483563 := by decide
        have q4 : (0 : Int) < 2147483629 := by decide
        have b1 := mod_lo (a := s1 * 48271 + 7919) q1
        have b2 := mod_hi (a := s1 * 48271 + 7919) q1
        refine ⟨.ref d, rfl, d, .int s1, rfl, g_seed h1.1, _, _, rfl, rfl, mulS h1.2.2.1 (by have := h1.2.2.2.1; omega), _, _, rfl, rfl, _, _, rfl, rfl, q1, ?_⟩
        have c1 := mod_lo (a := (s1 * 48271 + 7919) % 2147483647 * 40692 + 104729) q2
        have c2 := mod_hi (a := (s1 * 48271 + 7919) % 2147483647 * 40692 + 104729) q2
        refine ⟨_, rfl, _, _, rfl, rfl, mulS b1 (by omega), _, _, rfl, rfl, _, _, rfl, rfl, q2, .ref d, rfl, d, _, rfl, u_seed h1.1, ?_⟩
        refine ⟨.ref d, rfl, d, .int _, rfl, g_seed upd_same, .ref d, rfl, d, .int _, rfl, g_seed upd_same, _, _, rfl, rfl, mulS c1 (by omega), _, _, rfl, rfl, q3, ?_⟩
        refine ⟨_, rfl, _, rfl, _, _, rfl, rfl, mulS b1 (by omega), _, _, rfl, rfl, q4, _, _, rfl, rfl, mulS (mod_lo q4) (Int.lt_trans (mod_hi q4) (by decide)), _, rfl, _, _, rfl, rfl, _, rfl, _, _, rfl, rfl, m0, ?_⟩
        exact k _ _ (mod_lo m0) (mod_hi m0) ⟨_, n1, ns, upd_same, by rw [upd_ne hdl.symm]; exact h1.2.1, c1, Int.lt_trans c2 (by decide), h1.2.2.2.2⟩ hk.at_d
theorem scDeal : FnScope ["_law_script", "_law_some", "_law_number", "_law_one"] ["_law_script"] (defScope s_l_deal) := ⟨rfl, rfl, rfl, by decide +kernel, rfl, by decide +kernel, by decide +kernel⟩
theorem ok_deal (T : Top K mg CB CP CT) : C8.Cal P w K mg base 1 "_law_deal" (spDeal K) [] := by
  obtain ⟨f, fd, F, gm⟩ := T.h_l_deal
  refine ⟨f, fd, ["_law_script"], [], ?_, gm, F.kp, F.binds (fun _ _ _ _ _ _ us hl => match us, hl with | [_], _ => rfl), .nil⟩
  refine F.ok scDeal (fun vs H Q E h => ?_) (fun cdv A outer s H vs Q E hr h => ?_)
  · obtain ⟨a, ns, rfl, _⟩ := h
    rfl
  · obtain ⟨a, ns, rfl, hS, hl, k⟩ := h
    have hu := hu_of hr
    refine ⟨_, (pss_cons (ps_setLc (i := 1) (own := [("_law_one", 3)]) rfl scDeal.nd rfl rfl (sw_true rfl rfl rfl (by decide +kernel)) (pi_list (pe_slice sl_list (pv 0) po_none (po_some pe_int))) (blkOk_by (own := [("_law_one", 3)]) (N := ["_law_script", "_law_some", "_law_number", "_law_one"]) (sc := defScope s_l_deal) (by decide +kernel)) (fun _ _ _ _ _ => (pg_name (i := 3) scDeal.nd rfl (Or.inl rfl))) (fun _ _ _ _ _ => pts_nil) (fun _ _ _ _ _ => (pe_callB (call_max2 rfl) (by rfl) T.n_max (by decide +kernel) (pa_cons (pv 3) (pa_cons (pe_op op_sub pe_int (pv 3)) pa_nil)))))
  (pss_cons (ps_set (i := 2) scDeal.nd rfl (Or.inl rfl) pe_int)
  (pss_cons (ps_for PassesOwn.never rfl (pi_list (pv 1)) (pg_name (i := 3) scDeal.nd rfl (Or.inl rfl))
    (pss_one (ps_set (i := 2) scDeal.nd rfl (Or.inl rfl) (pe_op op_mod (pe_op op_add (pe_op op_mul (pv 2) pe_int) (pe_op op_mod (pv 3) pe_int)) pe_int))))
  (pss_one (ps_ret (pe_disp (pps_cons pe_str (pv 2) (pps_cons pe_str pe_int (pps_cons pe_str (Fb.pe_listRev rfl rfl T.n_list rfl T.n_reversed (pe_lc (own := [("_law_one", 3)]) rfl scDeal.nd (pi_list (pv 1)) (blkOk_by (own := [("_law_one", 3)]) (N := ["_law_script", "_law_some", "_law_number", "_law_one"]) (sc := defScope s_l_deal) (by decide +kernel)) (fun _ _ _ _ _ => (pg_name (i := 3) scDeal.nd rfl (Or.inl rfl))) (fun _ _ _ _ _ => pts_one (pt_cmpR op_ge (pv 3) (pe_op op_pow pe_int pe_int) (nomark _))) (fun _ _ _ _ _ => (pv 3)))) pps_nil))) (by rfl) (by rfl) (fun z => by cases z) (by decide))))))), ?_⟩
    refine ⟨.ref a, rfl, 60, rfl, a, ns.map V.int, rfl, hS, fun c nc => ?_⟩
    obtain ⟨ms, em, lm⟩ := cut_ints ns none (some 60)
    have s1 : Same H (L2.upd H c (.lst (cutV (ns.map V.int) none (some 60)))) := same_new nc
    have hc : (L2.upd H c (.lst (cutV (ns.map V.int) none (some 60)))) c = some (.lst (ms.map V.int)) := by rw [upd_same, em]
    generalize L2.upd H c (.lst (cutV (ns.map V.int) none (some 60))) = H1 at s1 hc
    refine ⟨c, rfl, ⟨_, SqL.of hc⟩, fun D nD => lc_list (K := K) (a := c) (xs := ms.map V.int) (fun i H2 => Same H1 H2 ∧ ∃ zs : List Int, H2 D = some (.lst (zs.map V.int)) ∧ zs.length = i ∧ ∀ z ∈ zs, 0 ≤ z)
      ⟨same_new nD, [], upd_same, rfl, fun _ z => nomatch z⟩ (fun i H2 _ ⟨e, _⟩ => SqL.of (e _ _ hc)) ?_ ?_⟩
    · rintro i x H2 hx ⟨e2, zs, hz, lz, pz⟩
      obtain ⟨z, rfl, _⟩ := int_at hx
      have hi := (List.getElem?_eq_some_iff.mp hx).1
      rw [List.length_map] at hi
      refine ⟨rfl, _, rfl, _, rfl, _, _, rfl, rfl, _, _, rfl, _, hz, small1000 (by rw [List.length_map]; omega), fun b o e => ?_, zs ++ [max z (0 - z)], ?_, ?_, ?_⟩
      · rw [upd_ne (ne_of_none e nD)]
        exact e2 b o e
      · rw [upd_same, Fb.nest, snoc_ints]
      · rw [List.length_append, lz]
        rfl
      · intro y hy
        rcases List.mem_append.mp hy with q | q
        · exact pz y q
        · rw [List.mem_singleton.mp q]
          omega
    · rintro H2 ⟨e2, zs, hz, lz, pz⟩
      rw [List.length_map] at lz
      refine ⟨.ref D, rfl, D, rfl, ⟨_, SqL.of hz⟩, for_list (K := K) (a := D) (xs := zs.map V.int) (fun i σ H3 => H3 = H2 ∧ ∃ n y, σ = [some (.ref a), some (.ref D), some (.int n), y] ∧ 0 ≤ n ∧ n < 2147483647)
        ⟨rfl, 7919, none, rfl, by decide, by decide⟩ (fun i σ H3 _ ⟨e, _⟩ => by rw [e]; exact SqL.of hz) ?_ ?_⟩
      · rintro i x σ H3 hx ⟨rfl, n, y, rfl, n0, n1⟩
        obtain ⟨z, rfl, _⟩ := int_at hx
        refine ⟨_, rfl, _, _, rfl, rfl, mulS n0 (by omega), _, rfl, _, _, rfl, rfl, (by decide : (0 : Int) < 2147483629), _, _, rfl, rfl, _, _, rfl, rfl, (by decide : (0 : Int) < 2147483647), ?_⟩
        exact ⟨rfl, _, _, rfl, mod_lo (by decide), mod_hi (by decide)⟩
      · rintro σ H3 ⟨rfl, n, y, rfl, n0, n1⟩
        intro p np
        have sp1 : Same H3 (L2.upd H3 p (.dK [])) := same_new np
        have hp1 : (L2.upd H3 p (.dK [])) p = some (.dK []) := upd_same
        generalize L2.upd H3 p (.dK []) = H4 at sp1 hp1
        have hz4 := sp1 _ _ hz
        refine ⟨_, rfl, .ref D, rfl, D, rfl, ⟨_, SqL.of hz4⟩, fun D2 nD2 => lc_list (K := K) (a := D) (xs := zs.map V.int) (fun i H5 => Same H4 H5 ∧ ∃ ws : List Int, H5 D2 = some (.lst (ws.map V.int)) ∧ ws.length ≤ i ∧ ∀ z ∈ ws, 0 < z)
          ⟨same_new nD2, [], upd_same, Nat.le_refl _, fun _ z => nomatch z⟩ (fun i H5 _ ⟨e, _⟩ => SqL.of (e _ _ hz4)) ?_ ?_⟩
        · rintro i x H5 hx ⟨e5, ws, hw, lw, pw⟩
          obtain ⟨z, rfl, hzm⟩ := int_at hx
          have hi := (List.getElem?_eq_some_iff.mp hx).1
          rw [List.length_map] at hi
          refine ⟨rfl, _, rfl, _, _, rfl, rfl, ⟨by decide, by decide, by decide⟩, _, _, rfl, rfl, _, rfl, ite2 (fun g => ?_) (fun g => ?_)⟩
          · have hg := of_decide_eq_true g
            refine ⟨_, rfl, _, hw, small1000 (by rw [List.length_map]; omega), fun b o e => ?_, ws ++ [z], ?_, ?_, ?_⟩
            · rw [upd_ne (ne_of_none e nD2)]
              exact e5 b o e
            · rw [upd_same, snoc_ints]
            · rw [List.length_append]
              show ws.length + 1 ≤ i + 1
              omega
            · intro y hy
              rcases List.mem_append.mp hy with q | q
              · exact pw y q
              · rw [List.mem_singleton.mp q]
                exact Int.lt_of_lt_of_le (by decide) hg
          · exact ⟨e5, ws, hw, Nat.le_succ_of_le lw, pw⟩
        · rintro H5 ⟨e5, ws, hw, lw, pw⟩
          refine ⟨D2, _, rfl, SqL.of hw, fun q nq => ?_⟩
          have s6 : Same H5 (L2.upd H5 q (.lst (ws.map V.int).reverse)) := same_new nq
          refine ⟨s6 _ _ (e5 _ _ hp1), dealD n 0 q, rfl, by show 3 ≤ 15; decide, ?_⟩
          have nqp : q ≠ p := (ne_of_none (e5 _ _ hp1) nq).symm
          have sH : Same H H5 := s1.trans (e2.trans (sp1.trans e5))
          have np0 : H p = none := (s1.trans e2).free np
          refine k p q _ np0 (sH.free nq) ⟨n, 0, ws.reverse, by rw [upd_same, merge_deal], by rw [upd_ne nqp, upd_same, List.map_reverse], n0, by omega, by decide, fun x hx => pw x (List.mem_reverse.mp hx)⟩ fun b o e => ?_
          rw [upd_ne (ne_of_none e np0)]
          exact s6 _ _ (sH _ _ e)

end
end K03
set_option Elab.async false
set_option linter.all false
set_option maxRecDepth 100000
set_option maxHeartbeats 4000000
namespace K03
open PySem PySem.Spec PyProof.Rows L2 Fb
abbrev abc : Str := "abcdefghijklmnopqrstuvwxyz"
theorem len_abc : abc.cps.toList.length = 26 := by decide +kernel
theorem len_abc2 : abc.length = 26 := by decide +kernel
theorem lo_abc : ∀ c ∈ abc.cps.toList, c < 128 := by decide +kernel
def lo (x : Str) : Prop := ∀ c ∈ x.cps.toList, c < 128
theorem lo_app {x y : Str} (hx : lo x) (hy : lo y) : lo (x ++ y) := fun c h => by
  have z : c ∈ x.cps.toList ++ y.cps.toList := by
    rw [PySem.Str.cps_append, Array.toList_append] at h
    exact h
  rcases List.mem_append.mp z with q | q
  · exact hx c q
  · exact hy c q
theorem lo_cut {x : Str} {a b : Option Int} (h : lo x) : lo (cutS x a b) := fun c hc => by
  have z : c ∈ (x.cps.toList.drop (HT.sIx x.length 0 a)).take (HT.sIx x.length x.length b - HT.sIx x.length 0 a) := by
    unfold cutS at hc
    simpa using hc
  exact h c (List.mem_of_mem_drop (List.mem_of_mem_take z))
theorem lo_one {c : Nat} (h : c < 128) : lo ⟨#[c]⟩ := fun x hx => by
  have z : x = c := by simpa using hx
  rw [z]
  exact h
theorem lo_nil : lo Str.empty := fun c h => by
  have z : c ∈ ([] : List Nat) := h
  cases z
theorem len_app (x y : Str) : (x ++ y).length = x.length + y.length := PySem.Str.length_append x y
theorem len_one (c : Nat) : (⟨#[c]⟩ : Str).length = 1 := rfl
theorem cut_len (z : Str) (a b : Option Int) : (cutS z a b).length ≤ z.length := L2.cutS_length z a b
theorem join_len : ∀ ys : List Str, (Txt.join "" ys).length = (ys.map (·.length)).sum := by
  intro ys
  rw [TL.join_eq]
  induction ys with
  | nil => rfl
  | cons x r ih =>
    cases r with
    | nil => rfl
    | cons y q =>
      show (x ++ ("" : Str) ++ Str.join "" (y :: q)).length = x.length + ((y :: q).map (·.length)).sum
      rw [len_app, len_app, ih, show (("" : Str)).length = 0 by decide +kernel]
      omega
theorem join_lo : ∀ ys : List Str, (∀ y ∈ ys, lo y) → lo (Txt.join "" ys) := by
  intro ys h
  rw [TL.join_eq]
  induction ys with
  | nil => exact lo_nil
  | cons x r ih =>
    cases r with
    | nil => exact h x List.mem_cons_self
    | cons y q =>
      show lo (x ++ ("" : Str) ++ Str.join "" (y :: q))
      exact lo_app (lo_app (h x List.mem_cons_self) (by intro c hc; exact absurd hc (by rw [show (("" : Str)).cps.toList = [] by decide +kernel]; simp))) (ih fun z hz => h z (List.mem_cons_of_mem _ hz))
theorem ones_sum : ∀ ys : List Str, (∀ y ∈ ys, y.length = 1) → (ys.map (·.length)).sum = ys.length
  | [], _ => rfl
  | y :: r, h => by
    rw [List.map_cons, List.sum_cons, h y List.mem_cons_self, ones_sum r fun z hz => h z (List.mem_cons_of_mem _ hz), List.length_cons]
    omega
theorem atI_ok {α : Type} {xs : List α} {i : Int} (h0 : 0 ≤ i) (h1 : i < xs.length) : ∃ v, atI xs i = some v ∧ v ∈ xs := by
  have hl : i.toNat < xs.length := by omega
  refine ⟨xs[i.toNat], ?_, List.getElem_mem hl⟩
  have z := atI_nat (xs := xs) (j := i.toNat) (v := xs[i.toNat]) (List.getElem?_eq_getElem hl)
  rw [show ((i.toNat : Nat) : Int) = i by omega] at z
  exact z
theorem flat_strs (ys : List Str) : (ys.map V.str).all flatV = true := by
  rw [List.all_eq_true]
  intro v h
  obtain ⟨x, _, rfl⟩ := List.mem_map.mp h
  rfl
theorem str_at {ys : List Str} {i : Nat} {x : V} (h : (ys.map V.str)[i]? = some x) : ∃ z, x = .str z ∧ z ∈ ys := by
  rw [List.getElem?_map] at h
  cases e : ys[i]? with
  | none => rw [e] at h; cases h
  | some z => rw [e] at h; exact ⟨z, (Option.some.inj h).symm, List.mem_of_getElem? e⟩
theorem snoc_strs (ys : List Str) (y : Str) : ys.map V.str ++ [V.str y] = (ys ++ [y]).map V.str := by
  rw [List.map_append]
  rfl
abbrev tk0 : Str := "let fn call set tell if else while times own one give end"
def spWords : Sp := fun vs H Q _ => ∃ (d l : Addr) (many : Int), vs = [.ref d, .int many] ∧ DealAt H d l ∧ 0 < many ∧ many ≤ 20 ∧
  ∀ (p : Addr) (ns : List Str) (H' : Hp), H p = none → H' p = some (.lst (ns.map V.str)) → (ns.length : Int) = many → (∀ x ∈ ns, nm x) → DealAt H' d l → Keep d l H H' → Q (.ref p) H'
section
variable {P : Program} {w : World} {K : PySem.W.Frag} {mg : Str → Option Value} {base : Heap} {CB CP CT : Addr}
theorem scWords : FnScope ["_law_deal_here", "_law_many", "_law_letters", "_law_stem", "_law_at", "_law_turn", "_law_found", "_law_taken", "_law_k", "_law_name"] ["_law_deal_here", "_law_many"] (defScope s_l_words) := ⟨rfl, rfl, rfl, by decide +kernel, rfl, by decide +kernel, by decide +kernel⟩
theorem ok_words (T : Top K mg CB CP CT) : C8.Cal P w K mg base 2 "_law_words" spWords [] := by
  have C_law_draw : C8.Cal P w K mg base 1 "_law_draw" spDraw [] := ok_draw T
  obtain ⟨f, fd, F, gm⟩ := T.h_l_words
  refine ⟨f, fd, ["_law_deal_here", "_law_many"], [], ?_, gm, F.kp, F.binds (fun _ _ _ _ _ _ us hl => match us, hl with | [_, _], _ => rfl), .nil⟩
  refine F.ok scWords (fun vs H Q E h => ?_) (fun cdv A outer s H vs Q E hr h => ?_)
  · obtain ⟨d, l, many, rfl, _⟩ := h
    rfl
  · obtain ⟨d, l, many, rfl, hD, hm0, hm1, k⟩ := h
    refine ⟨_, (pss_cons (ps_set (i := 2) scWords.nd rfl (Or.inr rfl) pe_str)
  (pss_cons (ps_set (i := 3) scWords.nd rfl (Or.inr rfl) (pe_join pe_str (pe_lc (own := [("_law_k", 8)]) rfl scWords.nd (pi_range1 rfl T.n_range (pa_cons (C8.pe_c C_law_draw hr (by omega) rfl (pa_cons (pv 0) (pa_cons pe_int pa_nil))) pa_nil)) (blkOk_by (own := [("_law_k", 8)]) (N := ["_law_deal_here", "_law_many", "_law_letters", "_law_stem", "_law_at", "_law_turn", "_law_found", "_law_taken", "_law_k", "_law_name"]) (sc := defScope s_l_words) (by decide +kernel)) (fun _ _ _ _ _ => (pg_name (i := 8) scWords.nd rfl (Or.inl rfl))) (fun _ _ _ _ _ => pts_nil) (fun _ _ _ _ _ => (pe_ix ix_str (pv 2) (C8.pe_c C_law_draw hr (by omega) rfl (pa_cons (pv 0) (pa_cons pe_int pa_nil))) (fun _ _ => rfl))))))
  (pss_cons (ps_asg (pe_tup (pa_cons (C8.pe_c C_law_draw hr (by omega) rfl (pa_cons (pv 0) (pa_cons (pe_op op_add (pe_callB call_len_str (by rfl) T.n_len (by decide +kernel) (pa_cons (pv 3) pa_nil)) pe_int) pa_nil))) (pa_cons (C8.pe_c C_law_draw hr (by omega) rfl (pa_cons (pv 0) (pa_cons pe_int pa_nil))) pa_nil))) (pg_tup rfl (pgs_cons (pg_name (i := 4) scWords.nd rfl (Or.inr rfl)) (pgs_cons (pg_name (i := 5) scWords.nd rfl (Or.inr rfl)) pgs_nil))))
  (pss_cons (ps_setLc (i := 6) (own := [("_law_k", 8)]) rfl scWords.nd rfl rfl (sw_true rfl rfl rfl (by decide +kernel)) (pi_range1 rfl T.n_range (pa_cons (pv 1) pa_nil)) (blkOk_by (own := [("_law_k", 8)]) (N := ["_law_deal_here", "_law_many", "_law_letters", "_law_stem", "_law_at", "_law_turn", "_law_found", "_law_taken", "_law_k", "_law_name"]) (sc := defScope s_l_words) (by decide +kernel)) (fun _ _ _ _ _ => (pg_name (i := 8) scWords.nd rfl (Or.inl rfl))) (fun _ _ _ _ _ => pts_nil) (fun _ _ _ _ _ => (pe_op op_add_str (pe_op op_add_str (pe_slice sl_str (pv 3) po_none (po_some (pv 4))) (pe_ix ix_str (pv 2) (pe_op op_mod (pe_op op_add (pv 5) (pv 8)) pe_int) (fun _ _ => rfl))) (pe_slice sl_str (pv 3) (po_some (pv 4)) po_none))))
  (pss_cons (ps_set (i := 7) scWords.nd rfl (Or.inr rfl) (pe_split pe_str pe_str))
  (pss_one (ps_ret (pe_lc (own := [("_law_name", 9)]) rfl scWords.nd (pi_list (pv 6)) (blkOk_by (own := [("_law_name", 9)]) (N := ["_law_deal_here", "_law_many", "_law_letters", "_law_stem", "_law_at", "_law_turn", "_law_found", "_law_taken", "_law_k", "_law_name"]) (sc := defScope s_l_words) (by decide +kernel)) (fun _ _ _ _ _ => (pg_name (i := 9) scWords.nd rfl (Or.inl rfl))) (fun _ _ _ _ _ => pts_nil) (fun _ _ _ _ _ => (pe_op op_add_str (pv 9) (pe_op Fb.op_mul_s01 pe_str (pe_callTy call_int1 (by rfl) T.n_int (by decide +kernel) (pa_cons (pe_cmpR (Fb.inK K rfl) (pv 9) (pv 7) (by rfl)) pa_nil))))))))))))), ?_⟩
    refine ⟨⟨_, rfl⟩, _, rfl, d, l, _, rfl, hD, by decide, by decide, fun r H1 r0 r1 D1 K1 => ⟨r, rfl, by omega, by omega, fun p np => lc_range (lo := 0) (n := r.toNat)
      (fun i H2 => DealAt H2 d l ∧ Keep d l H H2 ∧ ∃ ys : List Str, H2 p = some (.lst (ys.map V.str)) ∧ ys.length = i ∧ (∀ y ∈ ys, y.length = 1) ∧ ∀ y ∈ ys, lo y)
      ⟨D1.same (same_new np), K1.trans (Keep.of (same_new np)), [], upd_same, rfl, (fun _ z => nomatch z), (fun _ z => nomatch z)⟩ ?_ ?_⟩⟩
    · rintro i H2 hi ⟨D2, K2, ys, hp, ly, oy, ay⟩
      have pd := D1.d_ne np
      have pl := D1.l_ne np
      refine ⟨rfl, _, rfl, _, rfl, d, l, _, rfl, D2, by decide, by decide, fun q H3 q0 q1 D3 K3 => ?_⟩
      obtain ⟨c, hc, mc⟩ := atI_ok (xs := abc.cps.toList) (i := q) q0 (by rw [len_abc]; exact q1)
      have hp3 := K3 p _ hp pd pl
      refine ⟨abc, q, c, rfl, rfl, fit (by rw [len_abc2]; decide), hc, _, hp3, small1000 (by rw [List.length_map]; omega), D3.upd pd pl, fun b o e h1 h2 => ?_, ys ++ [⟨#[c]⟩], ?_, ?_, ?_, ?_⟩
      · have nb : b ≠ p := fun z => by
          have := K1 b o e h1 h2
          rw [z, np] at this
          cases this
        rw [upd_ne nb]
        exact K3 b o (K2 b o e h1 h2) h1 h2
      · rw [upd_same, List.map_append]
        rfl
      · rw [List.length_append, ly]
        rfl
      · intro y hy
        rcases List.mem_append.mp hy with z | z
        · exact oy y z
        · rw [List.mem_singleton.mp z]
          rfl
      · intro y hy
        rcases List.mem_append.mp hy with z | z
        · exact ay y z
        · rw [List.mem_singleton.mp z]
          exact lo_one (lo_abc c mc)
    · rintro H2 ⟨D2, K2, ys, hp, ly, oy, ay⟩
      have hs := ones_sum ys oy
      refine ⟨_, p, ys, rfl, rfl, .inl (SqL.of hp), ?_, ?_⟩
      · rw [hs, show (("" : Str)).length = 0 by decide +kernel]
        omega
      have hj : (Txt.join "" ys).length ≤ 4 := by
        rw [join_len, hs]
        omega
      have hlo : lo (Txt.join "" ys) := join_lo ys ay
      -- at, turn
      refine ⟨_, rfl, _, rfl, _, rfl, fit (by omega), _, _, rfl, rfl, d, l, _, rfl, D2, by omega, by omega, fun at0 H3 a0 a1 D3 K3 => ⟨_, rfl, d, l, _, rfl, D3, by decide, by decide, fun tn H4 t0 t1 D4 K4 => ⟨fit (show 2 ≤ 1000 by decide), fun tt nt => ?_⟩⟩⟩
      refine ⟨tt, _, rfl, SqT.of upd_same, rfl, _, _, rfl, _, _, rfl, rfl, ?_⟩
      have s5 := same_new (o := .tup [.int at0, .int tn]) nt
      have D5 := D4.same s5
      have K5 : Keep d l H (L2.upd H4 tt (.tup [.int at0, .int tn])) := (K2.trans (K3.trans K4)).trans (Keep.of s5)
      -- found
      refine ⟨_, rfl, many, rfl, by omega, by omega, fun p2 np2 => lc_range (lo := 0) (n := many.toNat) (fun i H6 => DealAt H6 d l ∧ Keep d l H H6 ∧ ∃ ys : List Str, H6 p2 = some (.lst (ys.map V.str)) ∧ ys.length = i ∧ ∀ y ∈ ys, y.length ≤ 9 ∧ lo y) ⟨D5.same (same_new np2), K5.trans (Keep.of (same_new np2)), [], upd_same, rfl, fun _ z => nomatch z⟩ ?_ ?_⟩
      · rintro i H6 hi ⟨D6, K6, zs, hp6, lz, oz⟩
        obtain ⟨c, hc, mc⟩ := atI_ok (xs := abc.cps.toList) (i := (tn + (0 + (i : Int))) % 26) (Int.emod_nonneg _ (by decide)) (by rw [len_abc]; exact Int.emod_lt_of_pos _ (by decide))
        have l1 := cut_len (Txt.join "" ys) none (some at0)
        have l2 := cut_len (Txt.join "" ys) (some at0) none
        refine ⟨rfl, _, rfl, _, rfl, _, rfl, _, rfl, fit (by omega), _, rfl, _, rfl, _, rfl, _, _, rfl, rfl, _, _, rfl, rfl, (by decide : (0 : Int) < 26), abc, _, c, rfl, rfl, fit (by rw [len_abc2]; decide), hc, _, _, rfl, rfl, fit (by rw [len_one]; omega), _, rfl, _, rfl, _, rfl, _, rfl, fit (by omega), _, _, rfl, rfl, fit (by rw [len_app, len_one]; omega), _, hp6, small1000 (by rw [List.length_map]; omega), ?_, ?_, zs ++ [cutS (Txt.join "" ys) none (some at0) ++ ⟨#[c]⟩ ++ cutS (Txt.join "" ys) (some at0) none], ?_, ?_, ?_⟩
        · exact D6.upd (D5.d_ne np2) (D5.l_ne np2)
        · intro b o e h1 h2
          have nb : b ≠ p2 := fun z => by
            have := K5 b o e h1 h2
            rw [z, np2] at this
            cases this
          rw [upd_ne nb]
          exact K6 b o e h1 h2
        · rw [upd_same, snoc_strs]
        · rw [List.length_append, lz]
          rfl
        · intro y hy
          rcases List.mem_append.mp hy with z | z
          · exact oz y z
          · rw [List.mem_singleton.mp z]
            refine ⟨?_, lo_app (lo_app (lo_cut hlo) (lo_one (lo_abc c mc))) (lo_cut hlo)⟩
            rw [len_app, len_app, len_one]
            omega
      · rintro H6 ⟨D6, K6, zs, hp6, lz, oz⟩
        -- taken
        refine ⟨⟨_, rfl⟩, _, _, rfl, rfl, by decide +kernel, by decide +kernel, fun p3 np3 => ?_⟩
        have s7 := same_new (o := .lst ((Txt.split tk0 " ").map V.str)) np3
        have hp7 := s7 _ _ hp6
        have ht7 : (L2.upd H6 p3 (.lst ((Txt.split tk0 " ").map V.str))) p3 = some (.lst ((Txt.split tk0 " ").map V.str)) := upd_same
        refine ⟨_, rfl, p2, rfl, ⟨_, SqL.of hp7⟩, fun p4 np4 => lc_it (walk_list (K := K) (xs := zs.map V.str)) (fun i H8 => Same (L2.upd H6 p3 (.lst ((Txt.split tk0 " ").map V.str))) H8 ∧ ∃ ws : List Str, H8 p4 = some (.lst (ws.map V.str)) ∧ ws.length = i ∧ ∀ y ∈ ws, nm y) ⟨same_new np4, [], upd_same, rfl, fun _ z => nomatch z⟩ (fun i H8 _ z => SqL.of (z.1 _ _ hp7)) ?_ ?_⟩
        · rintro i y H8 H9 hi ⟨z1, ws, hp9, lw, ow⟩ ⟨rfl, hy⟩
          obtain ⟨x, rfl, mx⟩ := str_at hy
          obtain ⟨lx, ox⟩ := oz x mx
          rw [List.length_map] at hi
          have b01 : ∀ bb : Bool, ((if bb = true then (1 : Int) else 0) = 0 ∨ (if bb = true then (1 : Int) else 0) = 1) := fun bb => by cases bb <;> decide
          have lq : ∀ n : Int, (if n = 1 then ("q" : Str) else Str.empty).length ≤ 1 := fun n => by split <;> decide +kernel
          have oq : ∀ n : Int, lo (if n = 1 then ("q" : Str) else Str.empty) := fun n => by
            split
            · exact (by decide +kernel : ∀ c ∈ ("q" : Str).cps.toList, c < 128)
            · exact lo_nil
          refine ⟨rfl, _, rfl, _, rfl, _, rfl, p3, _, rfl, .inl (SqL.of (z1 _ _ ht7)), rfl, flat_strs _, .inr ⟨_, rfl, ?_⟩⟩
          refine ⟨_, _, rfl, rfl, b01 _, _, _, rfl, rfl, fit (by have := lq (if (if false = true then !inV (.str x) ((Txt.split tk0 " ").map V.str) else inV (.str x) ((Txt.split tk0 " ").map V.str)) = true then 1 else 0); omega), _, hp9, small1000 (by rw [List.length_map]; omega), ?_, ws ++ [x ++ (if (if (if false = true then !inV (.str x) ((Txt.split tk0 " ").map V.str) else inV (.str x) ((Txt.split tk0 " ").map V.str)) = true then (1 : Int) else 0) = 1 then ("q" : Str) else Str.empty)], ?_, ?_, ?_⟩
          · intro b o e
            rw [upd_ne (ne_of_none e np4)]
            exact z1 b o e
          · rw [upd_same, snoc_strs]
          · rw [List.length_append, lw]
            rfl
          · intro y hy
            rcases List.mem_append.mp hy with z | z
            · exact ow y z
            · rw [List.mem_singleton.mp z]
              refine ⟨?_, lo_app ox (oq _)⟩
              rw [len_app]
              have := lq (if (if false = true then !inV (.str x) ((Txt.split tk0 " ").map V.str) else inV (.str x) ((Txt.split tk0 " ").map V.str)) = true then 1 else 0)
              omega
        · rintro H8 ⟨z1, ws, hp8, lw, ow⟩
          rw [List.length_map, lz] at lw
          refine k p4 ws H8 ?_ hp8 (by omega) ow ((D6.same s7).same z1) (K6.trans (Keep.of (s7.trans z1)))
          cases e : H p4 with
          | none => rfl
          | some o =>
            have z := (K6.trans (Keep.of s7)) p4 o e ((D6.same s7).d_ne np4) ((D6.same s7).l_ne np4)
            rw [np4] at z
            cases z
end
end K03
set_option Elab.async false
set_option linter.all false
set_option maxRecDepth 100000
set_option maxHeartbeats 4000000
namespace K03
open PySem PySem.Spec PyProof.Rows L2 Fb
def spAtom : Sp := fun vs H Q _ => ∃ (d l wd ln : Addr) (ns : List Str) (m : Nat), vs = [.ref d, .ref wd] ∧ GenAt H d l wd ln ns m ∧ ∀ v dt H', At v dt → GenAt H' d l wd ln ns m → Mod [d, l, wd] H H' → Q v H'
def spFlat (K : PySem.W.Frag) : Sp := fun vs H Q _ => ∃ (d l wd ln : Addr) (ns : List Str) (m : Nat) (way : Int) (x : Str), vs = [.ref d, .ref wd, .int way, .str x] ∧ GenAt H d l wd ln ns m ∧ 0 ≤ way ∧ way < 6 ∧ nm x ∧
  ∀ v s H', Dp K H' v (dS s) → goodS s → nS s = 1 → (dS s).depth ≤ 2 → GenAt H' d l wd ln ns m → Mod [d, l, wd] H H' → Q v H'
inductive AtAll : List V → List PyData → Prop
  | nil : AtAll [] []
  | cons {v : V} {vs : List V} {d : PyData} {ds : List PyData} : At v d → AtAll vs ds → AtAll (v :: vs) (d :: ds)
theorem AtAll.snoc {v : V} {d : PyData} (h : At v d) : ∀ {vs : List V} {ds : List PyData}, AtAll vs ds → AtAll (vs ++ [v]) (ds ++ [d])
  | _, _, .nil => .cons h .nil
  | _, _, .cons a t => .cons a (AtAll.snoc h t)
theorem AtAll.dps {K : PySem.W.Frag} {H : Hp} : ∀ {vs : List V} {ds : List PyData}, AtAll vs ds → DpAll K H vs ds
  | _, _, .nil => .nil
  | _, _, .cons a t => .cons a.dp (AtAll.dps t)
theorem AtAll.lf : ∀ {vs : List V} {ds : List PyData}, AtAll vs ds → ∀ d ∈ ds, Lf d
  | _, _, .nil, _, h => by cases h
  | _, _, .cons a t, d, h => by
    rcases List.mem_cons.mp h with e | e
    · rw [e]; exact a.lf
    · exact AtAll.lf t d e
theorem AtAll.len : ∀ {vs : List V} {ds : List PyData}, AtAll vs ds → vs.length = ds.length
  | _, _, .nil => rfl
  | _, _, .cons _ t => by rw [List.length_cons, List.length_cons, AtAll.len t]
theorem int_of {x y : Int} (h : decide (V.int x = V.int y) = true) : x = y := V.int.inj (of_decide_eq_true h)
theorem int_not {x y : Int} (h : ¬ decide (V.int x = V.int y) = true) : ¬ x = y := fun e => h (decide_eq_true (congrArg V.int e))
theorem good_mk {w x : Str} {r : List PyData} {h : w = "let" ∨ w = "sum" ∨ w = "call"} (hx : nm x) (n : noLs r = true) (s : ShA r 1300 1) : goodS (.mk w x r h) ∧ nS (.mk w x r h) = 1 ∧ (dS (.mk w x r h)).depth ≤ 2 := by
  refine ⟨by rw [goodS]; exact ⟨hx, n, s⟩, rfl, ?_⟩
  rw [dS]
  show PyData.depthAll _ + 1 ≤ 2
  simp only [PyData.depthAll, PyData.depth]
  have := s.dp
  omega
theorem good_no {w : Str} {r : List PyData} {h : w = "set" ∨ w = "tell" ∨ w = "give"} (n : noLs r = true) (s : ShA r 1300 1) : goodS (.no w r h) ∧ nS (.no w r h) = 1 ∧ (dS (.no w r h)).depth ≤ 2 := by
  refine ⟨by rw [goodS]; exact ⟨n, s⟩, rfl, ?_⟩
  rw [dS]
  show PyData.depthAll _ + 1 ≤ 2
  simp only [PyData.depthAll, PyData.depth]
  have := s.dp
  omega
theorem noL_cons {d : PyData} {ds : List PyData} (h : noL d = true) (t : noLs ds = true) : noLs (d :: ds) = true := by rw [noLs, h, t]; rfl
theorem lo_signs : ∀ c ∈ ("+-*<=" : Str).cps.toList, c < 128 := by decide +kernel
section
variable {P : Program} {w : World} {K : PySem.W.Frag} {mg : Str → Option Value} {base : Heap} {CB CP CT : Addr}
theorem scAtom : FnScope ["_law_deal_here", "_law_world"] ["_law_deal_here", "_law_world"] (defScope s_l_any_atom) := ⟨rfl, rfl, rfl, by decide +kernel, rfl, by decide +kernel, by decide +kernel⟩
theorem ok_atom (T : Top K mg CB CP CT) : C8.Cal P w K mg base 2 "_law_any_atom" spAtom [] := by
  have C_law_draw : C8.Cal P w K mg base 1 "_law_draw" spDraw [] := ok_draw T
  obtain ⟨f, fd, F, gm⟩ := T.h_l_any_atom
  refine ⟨f, fd, ["_law_deal_here", "_law_world"], [], ?_, gm, F.kp, F.binds (fun _ _ _ _ _ _ us hl => match us, hl with | [_, _], _ => rfl), .nil⟩
  refine F.ok scAtom (fun vs H Q E h => ?_) (fun cdv A outer s H vs Q E hr h => ?_)
  · obtain ⟨d, l, wd, ln, ns, m, rfl, _⟩ := h
    rfl
  · obtain ⟨d, l, wd, ln, ns, m, rfl, G, k⟩ := h
    have hu := hu_of hr
    refine ⟨_, (pss_cons (ps_if (pt_cmpR op_gt (C8.pe_c C_law_draw hr (by omega) rfl (pa_cons (pv 0) (pa_cons pe_int pa_nil))) pe_int (nomark _))
    (pss_one (ps_ret (pe_ix ix_list (pe_dget hu (pv 1) pe_str (fun _ _ => rfl)) (C8.pe_c C_law_draw hr (by omega) rfl (pa_cons (pv 0) (pa_cons (pe_callB call_len_seq (by rfl) T.n_len (by decide +kernel) (pa_cons (pe_dget hu (pv 1) pe_str (fun _ _ => rfl)) pa_nil)) pa_nil))) (fun _ _ => rfl))))
    pss_nil)
  (pss_one (ps_ret (pe_ix ix_list (pe_lst (pa_cons (C8.pe_c C_law_draw hr (by omega) rfl (pa_cons (pv 0) (pa_cons pe_int pa_nil))) (pa_cons (C8.pe_c C_law_draw hr (by omega) rfl (pa_cons (pv 0) (pa_cons pe_int pa_nil))) pa_nil))) (C8.pe_c C_law_draw hr (by omega) rfl (pa_cons (pv 0) (pa_cons pe_int pa_nil))) (fun _ _ => rfl))))), ?_⟩
    refine ⟨_, rfl, d, l, _, rfl, G.dl, by decide, by decide, fun r H1 r0 r1 D1 K1 => ⟨_, _, rfl, rfl, _, rfl, ite2 (fun e => ?_) (fun e => ?_)⟩⟩
    · have G1 := G.dealt D1 K1
      have z0 := G1.n0
      have z1 := G1.n1
      refine ⟨_, rfl, wd, _, rfl, gw_names G1.wa, _, rfl, _, rfl, wd, _, rfl, gw_names G1.wa, ln, _, rfl, .inl (SqL.of G1.na), d, l, _, rfl, D1, by rw [List.length_map]; omega, by rw [List.length_map]; omega, fun q H2 q0 q1 D2 K2 => ?_⟩
      have G2 := G1.dealt D2 K2
      obtain ⟨v, hv, mv⟩ := atI_ok (xs := ns.map V.str) (i := q) q0 q1
      refine ⟨ln, _, q, v, rfl, rfl, SqL.of G2.na, hv, ?_⟩
      obtain ⟨x, mx, rfl⟩ := List.mem_map.mp mv
      exact k _ (.str x) H2 (.inl ⟨x, rfl, rfl, G2.gd x mx⟩) G2 (K1.mod.trans K2.mod)
    · refine ⟨_, rfl, d, l, _, rfl, D1, by decide, by decide, fun a H2 a0 a1 D2 K2 => ⟨_, rfl, d, l, _, rfl, D2, by decide, by decide, fun b H3 b0 b1 D3 K3 => ⟨fit (show 2 ≤ 1000 by decide), fun p np => ⟨_, rfl, d, l, _, rfl, D3.same (same_new np), by decide, by decide, fun q H4 q0 q1 D4 K4 => ?_⟩⟩⟩⟩
      obtain ⟨v, hv, mv⟩ := atI_ok (xs := [a, b].map V.int) (i := q) q0 (by rw [List.length_map]; exact q1)
      have hp : H4 p = some (.lst ([a, b].map V.int)) := K4 p _ upd_same (D3.d_ne np) (D3.l_ne np)
      refine ⟨p, _, q, v, rfl, rfl, SqL.of hp, hv, ?_⟩
      obtain ⟨x, mx, rfl⟩ := List.mem_map.mp mv
      have Kall : Keep d l H H4 := K1.trans (K2.trans (K3.trans ((Keep.of (same_new np)).trans K4)))
      have hx : 0 ≤ x ∧ x < 1000000000 := by
        simp only [List.mem_cons, List.not_mem_nil, or_false] at mx
        rcases mx with e | e <;> (subst e; omega)
      exact k _ (.int x) H4 (.inr ⟨x, rfl, rfl, hx.1, hx.2⟩) (G.dealt D4 Kall) Kall.mod
theorem scFlat : FnScope ["_law_deal_here", "_law_world", "_law_way", "_law_x", "_law_a", "_law_b", "_law_f", "_law_k"] ["_law_deal_here", "_law_world", "_law_way", "_law_x"] (defScope s_l_any_flat) := ⟨rfl, rfl, rfl, by decide +kernel, rfl, by decide +kernel, by decide +kernel⟩
theorem ok_flat (T : Top K mg CB CP CT) : C8.Cal P w K mg base 3 "_law_any_flat" (spFlat K) [] := by
  have C_law_draw : C8.Cal P w K mg base 1 "_law_draw" spDraw [] := ok_draw T
  have C_law_any_atom : C8.Cal P w K mg base 2 "_law_any_atom" spAtom [] := ok_atom T
  obtain ⟨f, fd, F, gm⟩ := T.h_l_any_flat
  refine ⟨f, fd, ["_law_deal_here", "_law_world", "_law_way", "_law_x"], [], ?_, gm, F.kp, F.binds (fun _ _ _ _ _ _ us hl => match us, hl with | [_, _, _, _], _ => rfl), .nil⟩
  refine F.ok scFlat (fun vs H Q E h => ?_) (fun cdv A outer s H vs Q E hr h => ?_)
  · obtain ⟨d, l, wd, ln, ns, m, way, x, rfl, _⟩ := h
    rfl
  · obtain ⟨d, l, wd, ln, ns, m, way, x, rfl, G, w0, w1, hx, k⟩ := h
    have hu := hu_of hr
    refine ⟨_, (pss_cons (ps_par (by rfl) scFlat.nd (i := 4) (j := 5) rfl rfl (by decide) rfl rfl (pa_cons (C8.pe_c C_law_any_atom hr (by omega) rfl (pa_cons (pv 0) (pa_cons (pv 1) pa_nil))) (pa_cons (C8.pe_c C_law_any_atom hr (by omega) rfl (pa_cons (pv 0) (pa_cons (pv 1) pa_nil))) pa_nil)) (by rfl))
  (pss_cons (ps_if (pt_cmpR op_eq (pv 2) pe_int (nomark _))
    (pss_one (ps_ret (pe_tup (pa_cons pe_str (pa_cons (pv 3) (pa_cons (pv 4) pa_nil))))))
    pss_nil)
  (pss_cons (ps_if (pt_cmpR op_eq (pv 2) pe_int (nomark _))
    (pss_one (ps_ret (pe_tup (pa_cons pe_str (pa_cons (pv 3) (pa_cons (pe_ix ix_str pe_str (C8.pe_c C_law_draw hr (by omega) rfl (pa_cons (pv 0) (pa_cons pe_int pa_nil))) (fun _ _ => rfl)) (pa_cons (pv 4) (pa_cons (pv 5) pa_nil))))))))
    pss_nil)
  (pss_cons (ps_if (pt_cmpR op_eq (pv 2) pe_int (nomark _))
    (pss_cons (ps_set (i := 6) scFlat.nd rfl (Or.inl rfl) (pe_ix ix_list (pe_dget hu (pv 1) pe_str (fun _ _ => rfl)) (C8.pe_c C_law_draw hr (by omega) rfl (pa_cons (pv 0) (pa_cons (pe_callB call_len_seq (by rfl) T.n_len (by decide +kernel) (pa_cons (pe_dget hu (pv 1) pe_str (fun _ _ => rfl)) pa_nil)) pa_nil))) (fun _ _ => rfl)))
  (pss_one (ps_ret (pe_tup (pa_cons pe_str (pa_cons (pv 3) (pa_cons (pv 6) (pa_cons (pe_callTy call_tuple_of (by rfl) T.n_tuple (by decide +kernel) (pa_cons (pe_lc (own := [("_law_k", 7)]) rfl scFlat.nd (pi_range1 rfl T.n_range (pa_cons (C8.pe_c C_law_draw hr (by omega) rfl (pa_cons (pv 0) (pa_cons pe_int pa_nil))) pa_nil)) (blkOk_by (own := [("_law_k", 7)]) (N := ["_law_deal_here", "_law_world", "_law_way", "_law_x", "_law_a", "_law_b", "_law_f", "_law_k"]) (sc := defScope s_l_any_flat) (by decide +kernel)) (fun _ _ _ _ _ => (pg_name (i := 7) scFlat.nd rfl (Or.inl rfl))) (fun _ _ _ _ _ => pts_nil) (fun _ _ _ _ _ => (C8.pe_c C_law_any_atom hr (by omega) rfl (pa_cons (pv 0) (pa_cons (pv 1) pa_nil))))) pa_nil)) pa_nil))))))))
    pss_nil)
  (pss_cons (ps_if (pt_cmpR op_eq (pv 2) pe_int (nomark _))
    (pss_one (ps_ret (pe_tup (pa_cons pe_str (pa_cons (pv 3) (pa_cons (pv 4) pa_nil))))))
    pss_nil)
  (pss_one (ps_ret (pe_ix ix_list (pe_lst (pa_cons (pe_tup (pa_cons pe_str (pa_cons (pv 4) pa_nil))) (pa_cons (pe_tup (pa_cons pe_str (pa_cons (pv 4) pa_nil))) pa_nil))) (pe_op op_mod (pv 2) pe_int) (fun _ _ => rfl))))))))), ?_⟩
    refine ⟨_, rfl, _, rfl, d, l, wd, ln, ns, m, rfl, G, fun va da H1 aa G1 M1 => ⟨_, rfl, _, rfl, d, l, wd, ln, ns, m, rfl, G1, fun vb db H2 ab G2 M2 => ⟨_, _, rfl, ?_⟩⟩⟩
    have M02 := M1.trans M2
    -- way == 0
    refine ⟨_, rfl, rfl, _, rfl, ite2 (fun e => ?_) (fun e => ?_)⟩
    · refine ⟨_, rfl, _, rfl, fit (show 3 ≤ 1000 by decide), fun t nt => ?_⟩
      obtain ⟨g1, g2, g3⟩ := good_mk (w := "let") (h := .inl rfl) hx (noL_cons aa.lf.1 rfl) ((sha_cons aa.lf.sh (sha_nil 0 1)).mono (by decide) (Nat.le_refl _))
      exact k _ (.mk "let" x [da] (.inl rfl)) _ (by rw [dS]; exact .tup (SqT.of upd_same) (.cons (.str _) (.cons (.str _) (.cons aa.dp .nil)))) g1 g2 g3 (G2.same (same_new nt)) (M02.trans (Mod.of (same_new nt)))
    have e0 := int_not e
    -- way == 1
    refine ⟨_, rfl, rfl, _, rfl, ite2 (fun e => ?_) (fun e => ?_)⟩
    · refine ⟨_, rfl, _, rfl, d, l, _, rfl, G2.dl, by decide, by decide, fun q H3 q0 q1 D3 K3 => ?_⟩
      obtain ⟨c, hc, mc⟩ := atI_ok (xs := ("+-*<=" : Str).cps.toList) (i := q) q0 (by rw [show ("+-*<=" : Str).cps.toList.length = 5 by decide +kernel]; exact q1)
      refine ⟨_, q, c, rfl, rfl, by decide +kernel, hc, _, rfl, _, rfl, fit (show 5 ≤ 1000 by decide), fun t nt => ?_⟩
      obtain ⟨g1, g2, g3⟩ := good_mk (w := "sum") (h := .inr (.inl rfl)) hx (noL_cons (d := .str ⟨#[c]⟩) rfl (noL_cons aa.lf.1 (noL_cons ab.lf.1 rfl))) ((sha_cons (sh_str (x := ⟨#[c]⟩) (k := 1) (n := 12) (Nat.le_refl 1) (lo_one (lo_signs c mc)) (by decide)) (sha_cons aa.lf.sh (sha_cons ab.lf.sh (sha_nil 0 1)))).mono (by decide) (Nat.le_refl _))
      exact k _ (.mk "sum" x [.str ⟨#[c]⟩, da, db] (.inr (.inl rfl))) _ (by rw [dS]; exact .tup (SqT.of upd_same) (.cons (.str _) (.cons (.str _) (.cons (.str _) (.cons aa.dp (.cons ab.dp .nil)))))) g1 g2 g3 ((G2.dealt D3 K3).same (same_new nt)) ((M02.trans K3.mod).trans (Mod.of (same_new nt)))
    have e1 := int_not e
    -- way == 2
    refine ⟨_, rfl, rfl, _, rfl, ite2 (fun e => ?_) (fun e => ?_)⟩
    · have z0 := G2.n0
      have z1 := G2.n1
      refine ⟨_, rfl, wd, _, rfl, gw_names G2.wa, _, rfl, _, rfl, wd, _, rfl, gw_names G2.wa, ln, _, rfl, .inl (SqL.of G2.na), d, l, _, rfl, G2.dl, by rw [List.length_map]; omega, by rw [List.length_map]; omega, fun q H3 q0 q1 D3 K3 => ?_⟩
      have G3 := G2.dealt D3 K3
      obtain ⟨v, hv, mv⟩ := atI_ok (xs := ns.map V.str) (i := q) q0 q1
      refine ⟨ln, _, q, v, rfl, rfl, SqL.of G3.na, hv, ?_⟩
      obtain ⟨fx, mx, rfl⟩ := List.mem_map.mp mv
      have hf := G3.gd fx mx
      refine ⟨_, rfl, _, rfl, _, rfl, d, l, _, rfl, D3, by decide, by decide, fun r H4 r0 r1 D4 K4 => ⟨r, rfl, by omega, by omega, fun p np => lc_range (lo := 0) (n := r.toNat) (fun i H5 => GenAt H5 d l wd ln ns m ∧ Mod [d, l, wd] H H5 ∧ ∃ vs ds, H5 p = some (.lst vs) ∧ vs.length = i ∧ AtAll vs ds) ⟨(G3.dealt D4 K4).same (same_new np), ((M02.trans K3.mod).trans K4.mod).trans (Mod.of (same_new np)), [], [], upd_same, rfl, .nil⟩ ?_ ?_⟩⟩
      · rintro i H5 hi ⟨G5, M5, vs, ds, hp, lv, av⟩
        have hfr := (G3.dealt D4 K4).fresh np
        have hfr2 := hfr
        simp only [List.mem_cons, List.not_mem_nil, or_false, not_or] at hfr2
        refine ⟨rfl, _, rfl, _, rfl, d, l, wd, ln, ns, m, rfl, G5, fun vc dc H6 ac G6 M6 => ⟨vs, M6 p _ hp (by simp only [List.mem_cons, List.not_mem_nil, or_false, not_or]; exact ⟨hfr2.1, hfr2.2.1, hfr2.2.2.1⟩), small1000 (by omega), G6.upd hfr, ?_, vs ++ [vc], ds ++ [dc], upd_same, ?_, av.snoc ac⟩⟩
        · refine (M5.trans M6).put (.inr ?_)
          cases e : H p with
          | none => rfl
          | some o =>
            have z := ((M02.trans K3.mod).trans K4.mod) p o e (by simp only [List.mem_cons, List.not_mem_nil, or_false, not_or]; exact ⟨hfr2.1, hfr2.2.1, hfr2.2.2.1⟩)
            rw [np] at z
            cases z
        · rw [List.length_append, lv]
          rfl
      · rintro H5 ⟨G5, M5, vs, ds, hp, lv, av⟩
        refine ⟨p, vs, rfl, .inl ⟨SqL.of hp, fun t nt => ⟨fit (show 4 ≤ 1000 by decide), fun t2 nt2 => ?_⟩⟩⟩
        have ld := av.len
        have s2 := (same_new (o := .tup vs) nt).trans (same_new (o := .tup [.str "call", .str x, .str fx, .ref t]) nt2)
        have sa : ShA [.str fx, .tuple ds] 1300 1 := by
          refine (sha_cons (nm_sh (n := 202) hf (Nat.le_refl _)) (sha_cons (sh_tup (sha_all (a := 202) (m := 0) fun d z => (av.lf d z).sh)) (sha_nil 0 1))).mono ?_ (Nat.le_refl _)
          have : ds.length * (202 + 2) ≤ 5 * (202 + 2) := Nat.mul_le_mul_right _ (by omega)
          omega
        obtain ⟨g1, g2, g3⟩ := good_mk (w := "call") (h := .inr (.inr rfl)) hx (noL_cons (d := .str fx) rfl (noL_cons (by rw [noL]; exact noLs_all fun d z => (av.lf d z).1) rfl)) sa
        exact k _ (.mk "call" x [.str fx, .tuple ds] (.inr (.inr rfl))) _ (by rw [dS]; exact .tup (SqT.of upd_same) (.cons (.str _) (.cons (.str _) (.cons (.str _) (.cons (.tup (SqT.of (same_new nt2 _ _ upd_same)) av.dps) .nil))))) g1 g2 g3 (G5.same s2) (M5.trans (Mod.of s2))
    have e2 := int_not e
    -- way == 3
    refine ⟨_, rfl, rfl, _, rfl, ite2 (fun e => ?_) (fun e => ?_)⟩
    · refine ⟨_, rfl, _, rfl, fit (show 3 ≤ 1000 by decide), fun t nt => ?_⟩
      obtain ⟨g1, g2, g3⟩ := good_no (w := "set") (h := .inl rfl) (noL_cons (d := .str x) rfl (noL_cons aa.lf.1 rfl)) ((sha_cons (nm_sh (n := 202) hx (Nat.le_refl _)) (sha_cons aa.lf.sh (sha_nil 0 1))).mono (by decide) (Nat.le_refl _))
      exact k _ (.no "set" [.str x, da] (.inl rfl)) _ (by rw [dS]; exact .tup (SqT.of upd_same) (.cons (.str _) (.cons (.str _) (.cons aa.dp .nil)))) g1 g2 g3 (G2.same (same_new nt)) (M02.trans (Mod.of (same_new nt)))
    have e3 := int_not e
    refine ⟨_, rfl, fit (show 2 ≤ 1000 by decide), fun t1 nt1 => ⟨_, rfl, fit (show 2 ≤ 1000 by decide), fun t2 nt2 => ⟨fit (show 2 ≤ 1000 by decide), fun p np => ⟨_, rfl, _, _, rfl, rfl, (by decide : (0 : Int) < 2), ?_⟩⟩⟩⟩
    have s2 := (same_new (o := .tup [.str "tell", va]) nt1).trans ((same_new (o := .tup [.str "give", va]) nt2).trans (same_new (o := .lst [.ref t1, .ref t2]) np))
    have sha1 : ShA [da] 1300 1 := (sha_cons aa.lf.sh (sha_nil 0 1)).mono (by decide) (Nat.le_refl _)
    have hwy : way = 4 ∨ way = 5 := by omega
    rcases hwy with e | e
    · subst e
      obtain ⟨g1, g2, g3⟩ := good_no (w := "tell") (h := .inr (.inl rfl)) (noL_cons aa.lf.1 rfl) sha1
      refine ⟨p, _, _, _, rfl, rfl, SqL.of upd_same, atI_nat (j := 0) rfl, k _ (.no "tell" [da] (.inr (.inl rfl))) _ ?_ g1 g2 g3 (G2.same s2) (M02.trans (Mod.of s2))⟩
      rw [dS]
      exact .tup (SqT.of (((same_new nt2).trans (same_new np)) _ _ upd_same)) (.cons (.str _) (.cons aa.dp .nil))
    · subst e
      obtain ⟨g1, g2, g3⟩ := good_no (w := "give") (h := .inr (.inr rfl)) (noL_cons aa.lf.1 rfl) sha1
      refine ⟨p, _, _, _, rfl, rfl, SqL.of upd_same, atI_nat (j := 1) rfl, k _ (.no "give" [da] (.inr (.inr rfl))) _ ?_ g1 g2 g3 (G2.same s2) (M02.trans (Mod.of s2))⟩
      rw [dS]
      exact .tup (SqT.of ((same_new np) _ _ upd_same)) (.cons (.str _) (.cons aa.dp .nil))
end
end K03
set_option Elab.async false
set_option linter.all false
set_option maxRecDepth 100000
set_option maxHeartbeats 4000000
namespace K03
open PySem PySem.Spec PyProof.Rows L2 Fb
def spStm (K : PySem.W.Frag) (n : Nat) : Sp := fun vs H Q _ => ∃ (d l wd ln : Addr) (ns : List Str) (m : Nat) (dp : Int), vs = [.ref d, .ref wd, .int dp] ∧ dp = (n : Int) ∧ GenAt H d l wd ln ns m ∧ m ≤ 60 ∧
  ∀ v s H' m', Dp K H' v (dS s) → goodS s → m' ≤ m → nS s ≤ 1 + (m - m') → (dS s).depth ≤ 2 * n + 2 → GenAt H' d l wd ln ns m' → Mod [d, l, wd] H H' → Q v H'
def spBlk (K : PySem.W.Frag) (n : Nat) : Sp := fun vs H Q _ => ∃ (d l wd ln : Addr) (ns : List Str) (m : Nat) (dp : Int), vs = [.ref d, .ref wd, .int dp] ∧ dp = (n : Int) ∧ GenAt H d l wd ln ns m ∧ m ≤ 60 ∧
  ∀ v b H' m', Dp K H' v (.tuple (dB b)) → goodB b → m' ≤ m → nB b ≤ m - m' → PyData.depthAll (dB b) ≤ 2 * n + 2 → GenAt H' d l wd ln ns m' → Mod [d, l, wd] H H' → Q v H'
/-- one level down; at the bottom nothing is promised -/
def spBelow (K : PySem.W.Frag) : Nat → Sp
  | 0 => fun _ _ _ _ => False
  | n + 1 => spBlk K n
theorem dep_ps : ∀ ps : List Str, PyData.depthAll (ps.map PyData.str) = 0
  | [] => rfl
  | _ :: r => by
    rw [List.map_cons, PyData.depthAll, dep_ps r]
    rfl
theorem dep_snoc : ∀ (ds : List PyData) (d : PyData), PyData.depthAll (ds ++ [d]) = max (PyData.depthAll ds) d.depth
  | [], d => by simp [PyData.depthAll]
  | x :: r, d => by
    rw [List.cons_append, PyData.depthAll, PyData.depthAll, dep_snoc r d]
    omega
theorem at_dep {v : V} {d : PyData} (h : At v d) : d.depth = 0 := by
  rcases h with ⟨x, rfl, rfl, _⟩ | ⟨n, rfl, rfl, _⟩ <;> rfl
theorem free3 {H H' : Hp} {d l wd ln p : Addr} {ns : List Str} {m m' : Nat} (g : GenAt H' d l wd ln ns m') (M : Mod [d, l, wd] H H') (np : H' p = none) : H p = none := by
  have h := g.fresh np
  simp only [List.mem_cons, List.not_mem_nil, or_false, not_or] at h
  cases e : H p with
  | none => rfl
  | some o =>
    have z := M p o e (by simp only [List.mem_cons, List.not_mem_nil, or_false, not_or]; exact ⟨h.1, h.2.1, h.2.2.1⟩)
    rw [np] at z
    cases z
theorem out3 {H : Hp} {d l wd ln p : Addr} {ns : List Str} {m : Nat} (g : GenAt H d l wd ln ns m) (np : H p = none) : p ∉ [d, l, wd] := by
  have h := g.fresh np
  simp only [List.mem_cons, List.not_mem_nil, or_false, not_or] at h ⊢
  exact ⟨h.1, h.2.1, h.2.2.1⟩
section
variable {P : Program} {w : World} {K : PySem.W.Frag} {mg : Str → Option Value} {base : Heap} {CB CP CT : Addr}
theorem scStm : FnScope ["_law_deal_here", "_law_world", "_law_deep", "_law_way", "_law_x", "_law_a", "_law_params", "_law_one", "_law_k"] ["_law_deal_here", "_law_world", "_law_deep"] (defScope s_l_any_statement) := ⟨rfl, rfl, rfl, by decide +kernel, rfl, by decide +kernel, by decide +kernel⟩
theorem no_block (T : Top K mg CB CP CT) (k : Nat) : C8.Cal P w K mg base k "_law_any_block" (fun _ _ _ _ => False) [] := by
  obtain ⟨f, fd, F, gm⟩ := T.h_l_any_block
  exact ⟨f, fd, ["_law_deal_here", "_law_world", "_law_deep"], [], ⟨fun _ _ _ _ h => h.elim, fun _ _ _ _ _ _ _ _ _ _ _ _ _ h => h.elim⟩, gm, F.kp, F.binds (fun _ _ _ _ _ _ us hl => match us, hl with | [_, _, _], _ => rfl), .nil⟩
theorem ok_stm (T : Top K mg CB CP CT) (n : Nat) (C_law_any_block : C8.Cal P w K mg base (3 + 2 * n) "_law_any_block" (spBelow K n) []) : C8.Cal P w K mg base (4 + 2 * n) "_law_any_statement" (spStm K n) [] := by
  have C_law_draw : C8.Cal P w K mg base 1 "_law_draw" spDraw [] := ok_draw T
  have C_law_any_atom : C8.Cal P w K mg base 2 "_law_any_atom" spAtom [] := ok_atom T
  have C_law_any_flat : C8.Cal P w K mg base 3 "_law_any_flat" (spFlat K) [] := ok_flat T
  obtain ⟨f, fd, F, gm⟩ := T.h_l_any_statement
  refine ⟨f, fd, ["_law_deal_here", "_law_world", "_law_deep"], [], ?_, gm, F.kp, F.binds (fun _ _ _ _ _ _ us hl => match us, hl with | [_, _, _], _ => rfl), .nil⟩
  rw [show 4 + 2 * n = (3 + 2 * n) + 1 by omega]
  refine F.ok scStm (fun vs H Q E h => ?_) (fun cdv A outer s H vs Q E hr h => ?_)
  · obtain ⟨d, l, wd, ln, ns, m, dp, rfl, _⟩ := h
    rfl
  · obtain ⟨d, l, wd, ln, ns, m, dp, rfl, edp, G, hm, k⟩ := h
    subst edp
    have hu := hu_of hr
    refine ⟨_, (pss_cons (ps_set (i := 3) scStm.nd rfl (Or.inl rfl) (C8.pe_c C_law_draw hr (by omega) rfl (pa_cons (pv 0) (pa_cons pe_int pa_nil))))
  (pss_cons (ps_par (by rfl) scStm.nd (i := 4) (j := 5) rfl rfl (by decide) rfl rfl (pa_cons (pe_ix ix_list (pe_dget hu (pv 1) pe_str (fun _ _ => rfl)) (C8.pe_c C_law_draw hr (by omega) rfl (pa_cons (pv 0) (pa_cons (pe_callB call_len_seq (by rfl) T.n_len (by decide +kernel) (pa_cons (pe_dget hu (pv 1) pe_str (fun _ _ => rfl)) pa_nil)) pa_nil))) (fun _ _ => rfl)) (pa_cons (C8.pe_c C_law_any_atom hr (by omega) rfl (pa_cons (pv 0) (pa_cons (pv 1) pa_nil))) pa_nil)) (by rfl))
  (pss_cons (ps_if (PW.pt (pw_or (pt_cmpR op_lt (pv 2) pe_int (nomark _)) (pw_or1 (pt_cmpR op_lt (pv 3) pe_int (nomark _)))))
    (pss_one (ps_ret (C8.pe_c C_law_any_flat hr (by omega) rfl (pa_cons (pv 0) (pa_cons (pv 1) (pa_cons (pe_op op_mod (pv 3) pe_int) (pa_cons (pv 4) pa_nil)))))))
    pss_nil)
  (pss_cons (ps_if (pt_cmpR op_lt (pv 3) pe_int (nomark _))
    (pss_cons (ps_setLc (i := 6) (own := [("_law_k", 8)]) rfl scStm.nd rfl rfl (sw_true rfl rfl rfl (by decide +kernel)) (pi_range1 rfl T.n_range (pa_cons (C8.pe_c C_law_draw hr (by omega) rfl (pa_cons (pv 0) (pa_cons pe_int pa_nil))) pa_nil)) (blkOk_by (own := [("_law_k", 8)]) (N := ["_law_deal_here", "_law_world", "_law_deep", "_law_way", "_law_x", "_law_a", "_law_params", "_law_one", "_law_k"]) (sc := defScope s_l_any_statement) (by decide +kernel)) (fun _ _ _ _ _ => (pg_name (i := 8) scStm.nd rfl (Or.inl rfl))) (fun _ _ _ _ _ => pts_nil) (fun _ _ _ _ _ => (pe_ix (Fb.ixL K rfl) (pe_dget hu (pv 1) pe_str (fun _ _ => rfl)) (C8.pe_c C_law_draw hr (by omega) rfl (pa_cons (pv 0) (pa_cons (pe_callB (Fb.lenK K rfl) (by rfl) T.n_len (by decide +kernel) (pa_cons (pe_dget hu (pv 1) pe_str (fun _ _ => rfl)) pa_nil)) pa_nil))) (fun _ _ => rfl))))
  (pss_one (ps_ret (pe_tup (pa_cons pe_str (pa_cons (pv 4) (pa_cons (pe_callTy call_tuple_of (by rfl) T.n_tuple (by decide +kernel) (pa_cons (pv 6) pa_nil)) (pa_cons (C8.pe_c C_law_any_block hr (by omega) rfl (pa_cons (pv 0) (pa_cons (pv 1) (pa_cons (pe_op op_sub (pv 2) pe_int) pa_nil)))) pa_nil))))))))
    pss_nil)
  (pss_cons (ps_if (pt_cmpR op_eq (pv 3) pe_int (nomark _))
    (pss_cons (ps_set (i := 7) scStm.nd rfl (Or.inl rfl) (C8.pe_c C_law_any_block hr (by omega) rfl (pa_cons (pv 0) (pa_cons (pv 1) (pa_cons (pe_op op_sub (pv 2) pe_int) pa_nil)))))
  (pss_one (ps_ret (pe_tup (pa_cons pe_str (pa_cons (pv 5) (pa_cons (pv 7) (pa_cons (C8.pe_c C_law_any_block hr (by omega) rfl (pa_cons (pv 0) (pa_cons (pv 1) (pa_cons (pe_op op_sub (pv 2) pe_int) pa_nil)))) pa_nil))))))))
    pss_nil)
  (pss_cons (ps_if (pt_cmpR op_eq (pv 3) pe_int (nomark _))
    (pss_one (ps_ret (pe_tup (pa_cons pe_str (pa_cons (pv 5) (pa_cons (C8.pe_c C_law_any_block hr (by omega) rfl (pa_cons (pv 0) (pa_cons (pv 1) (pa_cons (pe_op op_sub (pv 2) pe_int) pa_nil)))) pa_nil))))))
    pss_nil)
  (pss_one (ps_ret (pe_tup (pa_cons pe_str (pa_cons (pe_ix ix_list (pe_lst (pa_cons pe_str (pa_cons pe_str pa_nil))) (pe_op op_sub (pv 3) pe_int) (fun _ _ => rfl)) (pa_cons (pv 4) (pa_cons (pv 5) (pa_cons (C8.pe_c C_law_any_block hr (by omega) rfl (pa_cons (pv 0) (pa_cons (pv 1) (pa_cons (pe_op op_sub (pv 2) pe_int) pa_nil)))) pa_nil)))))))))))))), ?_⟩
    -- way
    refine ⟨_, rfl, d, l, _, rfl, G.dl, by decide, by decide, fun way H1 w0 w1 D1 K1 => ?_⟩
    have G1 := G.dealt D1 K1
    have z0 := G1.n0
    have z1 := G1.n1
    -- x, a
    refine ⟨_, rfl, wd, _, rfl, gw_names G1.wa, _, rfl, _, rfl, wd, _, rfl, gw_names G1.wa, ln, _, rfl, .inl (SqL.of G1.na), d, l, _, rfl, D1, by rw [List.length_map]; omega, by rw [List.length_map]; omega, fun q H2 q0 q1 D2 K2 => ?_⟩
    have G2 := G1.dealt D2 K2
    obtain ⟨v, hv, mv⟩ := atI_ok (xs := ns.map V.str) (i := q) q0 q1
    refine ⟨ln, _, q, v, rfl, rfl, SqL.of G2.na, hv, ?_⟩
    obtain ⟨x, mx, rfl⟩ := List.mem_map.mp mv
    have hx := G2.gd x mx
    refine ⟨_, rfl, _, rfl, d, l, wd, ln, ns, m, rfl, G2, fun va da H3 aa G3 M3 => ⟨_, _, rfl, ?_⟩⟩
    have M03 : Mod [d, l, wd] H H3 := (K1.mod.trans K2.mod).trans M3
    -- flat
    have flat : ∀ {H4 : Hp} {Q4 : VK}, H4 = H3 → Q4 = Q → spFlat K [.ref d, .ref wd, .int (way % 6), .str x] H4 Q4 E0 := fun {H4 Q4} e1 e2 => by
      subst e1
      subst e2
      exact ⟨d, l, wd, ln, ns, m, way % 6, x, rfl, G3, mod_lo (by decide), mod_hi (by decide), hx, fun v s H4 dv gs n1 dp4 G4 M4 => k v s H4 m dv gs (Nat.le_refl _) (by omega) (by omega) G4 (M03.trans M4)⟩
    cases n with
    | zero =>
      refine ⟨_, rfl, _, _, rfl, rfl, _, rfl, boolT (by decide) ?_⟩
      exact iteT ⟨_, rfl, _, rfl, _, rfl, _, _, rfl, rfl, (by decide : (0 : Int) < 6), _, rfl, flat rfl rfl⟩
    | succ n =>
      refine ⟨_, rfl, _, _, rfl, rfl, _, rfl, boolF (decide_eq_false (by omega)) ?_⟩
      refine ⟨_, rfl, _, _, rfl, rfl, _, rfl, ite2 (fun e => ?_) (fun e => ?_)⟩
      · exact ⟨_, rfl, _, rfl, _, rfl, _, _, rfl, rfl, (by decide : (0 : Int) < 6), _, rfl, flat rfl rfl⟩
      have e6 : ¬ way < 6 := fun z => e (decide_eq_true z)
      -- way < 8
      refine ⟨_, rfl, _, _, rfl, rfl, _, rfl, ite2 (fun e => ?_) (fun e => ?_)⟩
      · refine ⟨_, rfl, d, l, _, rfl, G3.dl, by decide, by decide, fun r H4 r0 r1 D4 K4 => ⟨r, rfl, by omega, by omega, fun p np => lc_range (lo := 0) (n := r.toNat) (fun i H5 => GenAt H5 d l wd ln ns m ∧ Mod [d, l, wd] H H5 ∧ ∃ ps : List Str, H5 p = some (.lst (ps.map V.str)) ∧ ps.length = i ∧ ∀ y ∈ ps, nm y) ⟨(G3.dealt D4 K4).same (same_new np), (M03.trans K4.mod).trans (Mod.of (same_new np)), [], upd_same, rfl, fun _ z => nomatch z⟩ ?_ ?_⟩⟩
        · rintro i H5 hi ⟨G5, M5, ps, hp, lps, ops⟩
          have hfr := (G3.dealt D4 K4).fresh np
          have ho := out3 (G3.dealt D4 K4) np
          refine ⟨rfl, _, rfl, wd, _, rfl, gw_names G5.wa, _, rfl, _, rfl, wd, _, rfl, gw_names G5.wa, ln, _, rfl, .inl (SqL.of G5.na), d, l, _, rfl, G5.dl, by rw [List.length_map]; omega, by rw [List.length_map]; omega, fun q6 H6 q60 q61 D6 K6 => ?_⟩
          have G6 := G5.dealt D6 K6
          obtain ⟨v6, hv6, mv6⟩ := atI_ok (xs := ns.map V.str) (i := q6) q60 q61
          obtain ⟨x6, mx6, rfl⟩ := List.mem_map.mp mv6
          refine ⟨ln, _, q6, _, rfl, rfl, SqL.of G6.na, hv6, _, (K6.mod (wd := wd)) p _ hp ho, small1000 (by rw [List.length_map]; omega), G6.upd hfr, (M5.trans K6.mod).put (.inr (free3 (m := m) (G3.dealt D4 K4) (M03.trans K4.mod) np)), ps ++ [x6], ?_, ?_, ?_⟩
          · rw [upd_same, snoc_strs]
          · rw [List.length_append, lps]
            rfl
          · intro y hy
            rcases List.mem_append.mp hy with z | z
            · exact ops y z
            · rw [List.mem_singleton.mp z]
              exact G6.gd x6 mx6
        · rintro H5 ⟨G5, M5, ps, hp, lps, ops⟩
          refine ⟨_, rfl, _, rfl, p, _, rfl, .inl ⟨SqL.of hp, fun t nt => ⟨_, rfl, _, rfl, _, rfl, _, _, rfl, rfl, d, l, wd, ln, ns, m, _, rfl, by omega, G5.same (same_new nt), hm, fun vb b H6 m' db gb hm' nb db2 G6 M6 => ⟨fit (show 4 ≤ 1000 by decide), fun t2 nt2 => ?_⟩⟩⟩⟩
          have ht6 : H6 t = some (.tup (ps.map V.str)) := M6 t _ upd_same (out3 G5 nt)
          obtain ⟨bA, bvs, rfl, _, _⟩ := view_tup db
          have s7 := same_new (o := .tup [.str "fn", .str x, .ref t, .ref bA]) nt2
          refine k _ (.fn x ps b) _ m' ?_ ?_ hm' ?_ ?_ (G6.same s7) ((M5.trans (Mod.of (same_new nt))).trans (M6.trans (Mod.of s7)))
          · rw [dS]
            exact .tup (SqT.of upd_same) (.cons (.str _) (.cons (.str _) (.cons (.tup (SqT.of (s7 _ _ ht6)) (dps_strs ps)) (.cons (dp_ext (Same.ext s7) _ _ db (noL_blk gb)) .nil))))
          · rw [goodS]
            exact ⟨hx, by omega, ops, gb⟩
          · simp only [nS]
            omega
          · rw [dS]
            simp only [PyData.depth, PyData.depthAll, dep_ps]
            omega
      have e8 : ¬ way < 8 := fun z => e (decide_eq_true z)
      -- way == 8
      refine ⟨_, rfl, rfl, _, rfl, ite2 (fun e => ?_) (fun e => ?_)⟩
      · refine ⟨_, rfl, _, rfl, _, rfl, _, _, rfl, rfl, d, l, wd, ln, ns, m, _, rfl, by omega, G3, hm, fun v1 b1 H4 m1 db1 gb1 hm1 nb1 dd1 G4 M4 => ?_⟩
        refine ⟨_, rfl, _, rfl, _, rfl, _, rfl, _, rfl, _, _, rfl, rfl, d, l, wd, ln, ns, m1, _, rfl, by omega, G4, by omega, fun v2 b2 H5 m2 db2 gb2 hm2 nb2 dd2 G5 M5 => ⟨fit (show 4 ≤ 1000 by decide), fun t nt => ?_⟩⟩
        obtain ⟨a1, vs1, rfl, _, _⟩ := view_tup db1
        obtain ⟨a2, vs2, rfl, _, _⟩ := view_tup db2
        have s6 := same_new (o := .tup [.str "if", va, .ref a1, .ref a2]) nt
        refine k _ (.ite da b1 b2) _ m2 ?_ ?_ (by omega) ?_ ?_ (G5.same s6) (M03.trans (M4.trans (M5.trans (Mod.of s6))))
        · rw [dS]
          exact .tup (SqT.of upd_same) (.cons (.str _) (.cons aa.dp (.cons (dp_ext ((G4.ext M5).trans (Same.ext s6)) _ _ db1 (noL_blk gb1)) (.cons (dp_ext (Same.ext s6) _ _ db2 (noL_blk gb2)) .nil))))
        · rw [goodS]
          exact ⟨aa.lf, gb1, gb2⟩
        · simp only [nS]
          omega
        · rw [dS]
          simp only [PyData.depth, PyData.depthAll, at_dep aa]
          omega
      have e9 := int_not e
      -- way == 9
      refine ⟨_, rfl, rfl, _, rfl, ite2 (fun e => ?_) (fun e => ?_)⟩
      · refine ⟨_, rfl, _, rfl, _, rfl, _, rfl, _, _, rfl, rfl, d, l, wd, ln, ns, m, _, rfl, by omega, G3, hm, fun v1 b1 H4 m1 db1 gb1 hm1 nb1 dd1 G4 M4 => ⟨fit (show 3 ≤ 1000 by decide), fun t nt => ?_⟩⟩
        obtain ⟨a1, vs1, rfl, _, _⟩ := view_tup db1
        have s6 := same_new (o := .tup [.str "while", va, .ref a1]) nt
        refine k _ (.whl da b1) _ m1 ?_ ?_ hm1 ?_ ?_ (G4.same s6) (M03.trans (M4.trans (Mod.of s6)))
        · rw [dS]
          exact .tup (SqT.of upd_same) (.cons (.str _) (.cons aa.dp (.cons (dp_ext (Same.ext s6) _ _ db1 (noL_blk gb1)) .nil)))
        · rw [goodS]
          exact ⟨aa.lf, gb1⟩
        · simp only [nS]
          omega
        · rw [dS]
          simp only [PyData.depth, PyData.depthAll, at_dep aa]
          omega
      have e10 := int_not e
      -- times
      refine ⟨fit (show 2 ≤ 1000 by decide), fun p np => ⟨_, rfl, _, _, rfl, rfl, ?_⟩⟩
      have s4 := same_new (o := .lst [.str "own", .str "one"]) np
      have hmode : ∃ one : Bool, atI [V.str ("own" : Str), V.str ("one" : Str)] (way - 10) = some (.str (modeS one)) := by
        have hwy : way = 10 ∨ way = 11 := by omega
        rcases hwy with e | e <;> subst e
        · exact ⟨false, atI_nat (j := 0) rfl⟩
        · exact ⟨true, atI_nat (j := 1) rfl⟩
      obtain ⟨one, hone⟩ := hmode
      refine ⟨p, _, _, _, rfl, rfl, SqL.of upd_same, hone, _, rfl, _, rfl, _, rfl, _, rfl, _, rfl, _, _, rfl, rfl, d, l, wd, ln, ns, m, _, rfl, by omega, G3.same s4, hm, fun v1 b1 H4 m1 db1 gb1 hm1 nb1 dd1 G4 M4 => ⟨fit (show 5 ≤ 1000 by decide), fun t nt => ?_⟩⟩
      obtain ⟨a1, vs1, rfl, _, _⟩ := view_tup db1
      have s6 := same_new (o := .tup [.str "times", .str (modeS one), .str x, va, .ref a1]) nt
      refine k _ (.tms one x da b1) _ m1 ?_ ?_ hm1 ?_ ?_ (G4.same s6) (M03.trans ((Mod.of s4).trans (M4.trans (Mod.of s6))))
      · rw [dS]
        exact .tup (SqT.of upd_same) (.cons (.str _) (.cons (.str _) (.cons (.str _) (.cons aa.dp (.cons (dp_ext (Same.ext s6) _ _ db1 (noL_blk gb1)) .nil)))))
      · rw [goodS]
        exact ⟨hx, aa.lf, gb1⟩
      · simp only [nS]
        omega
      · rw [dS]
        simp only [PyData.depth, PyData.depthAll, at_dep aa]
        omega
end
end K03
set_option Elab.async false
set_option linter.all false
set_option maxRecDepth 100000
set_option maxHeartbeats 4000000
namespace K03
open PySem PySem.Spec PyProof.Rows L2 Fb
def spProg (K : PySem.W.Frag) : Sp := fun vs H Q _ => ∃ (d l : Addr), vs = [.ref d] ∧ DealAt H d l ∧ ∀ v b H', Dp K H' v (.tuple (dB b)) → goodB b → nB b ≤ 60 → PyData.depthAll (dB b) ≤ 18 → DealAt H' d l → Keep d l H H' → Q v H'
section
variable {P : Program} {w : World} {K : PySem.W.Frag} {mg : Str → Option Value} {base : Heap} {CB CP CT : Addr}
theorem scBlk : FnScope ["_law_deal_here", "_law_world", "_law_deep", "_law_found", "_law_k"] ["_law_deal_here", "_law_world", "_law_deep"] (defScope s_l_any_block) := ⟨rfl, rfl, rfl, by decide +kernel, rfl, by decide +kernel, by decide +kernel⟩
theorem ok_blk (T : Top K mg CB CP CT) (n : Nat) (C_law_any_statement : C8.Cal P w K mg base (4 + 2 * n) "_law_any_statement" (spStm K n) []) : C8.Cal P w K mg base (5 + 2 * n) "_law_any_block" (spBlk K n) [] := by
  have C_law_draw : C8.Cal P w K mg base 1 "_law_draw" spDraw [] := ok_draw T
  obtain ⟨f, fd, F, gm⟩ := T.h_l_any_block
  refine ⟨f, fd, ["_law_deal_here", "_law_world", "_law_deep"], [], ?_, gm, F.kp, F.binds (fun _ _ _ _ _ _ us hl => match us, hl with | [_, _, _], _ => rfl), .nil⟩
  rw [show 5 + 2 * n = (4 + 2 * n) + 1 by omega]
  refine F.ok scBlk (fun vs H Q E h => ?_) (fun cdv A outer s H vs Q E hr h => ?_)
  · obtain ⟨d, l, wd, ln, ns, m, dp, rfl, _⟩ := h
    rfl
  · obtain ⟨d, l, wd, ln, ns, m, dp, rfl, edp, G, hm, k⟩ := h
    have hu := hu_of hr
    refine ⟨_, (pss_cons (ps_set (i := 3) scBlk.nd rfl (Or.inl rfl) (pe_lst pa_nil))
  (pss_cons (ps_for PassesOwn.never rfl (pi_range1 rfl T.n_range (pa_cons (C8.pe_c C_law_draw hr (by omega) rfl (pa_cons (pv 0) (pa_cons pe_int pa_nil))) pa_nil)) (pg_name (i := 4) scBlk.nd rfl (Or.inl rfl))
    (pss_one (ps_if (pt_cmpR op_gt (pe_dget hu (pv 1) pe_str (fun _ _ => rfl)) pe_int (nomark _))
    (pss_cons (ps_dput hu (pv 1) pe_str (pe_op op_sub (pe_dget hu (pv 1) pe_str (fun _ _ => rfl)) pe_int) rfl)
  (pss_one (ps_expr (pe_bm PySem.F.plainAttrs_list PySem.F.slot_list_append PySem.F.type_list_append mt_append (pv 3) (pa_cons (C8.pe_c C_law_any_statement hr (by omega) rfl (pa_cons (pv 0) (pa_cons (pv 1) (pa_cons (pv 2) pa_nil)))) pa_nil)))))
    pss_nil)))
  (pss_one (ps_ret (pe_callTy call_tuple_of (by rfl) T.n_tuple (by decide +kernel) (pa_cons (pv 3) pa_nil)))))), ?_⟩
    refine ⟨fit (by decide), fun p np => ?_⟩
    have hfr := G.fresh np
    have ho := out3 G np
    refine ⟨_, rfl, d, l, _, rfl, (G.same (same_new np)).dl, by decide, by decide, fun r H1 r0 r1 D1 K1 => ⟨r, rfl, by omega, by omega, for_range (lo := 0) (n := r.toNat) (fun i σ H2 => ∃ (y : Option V) (b : Blk) (m' : Nat) (vs : List V), σ = [some (.ref d), some (.ref wd), some (.int dp), some (.ref p), y] ∧ GenAt H2 d l wd ln ns m' ∧ Mod [d, l, wd] H H2 ∧ H2 p = some (.lst vs) ∧ DpAll K H2 vs (dB b) ∧ goodB b ∧ m' ≤ m ∧ nB b ≤ m - m' ∧ PyData.depthAll (dB b) ≤ 2 * n + 2 ∧ vs.length ≤ i) ⟨none, .nil, m, [], rfl, (G.same (same_new np)).dealt D1 K1, (Mod.of (same_new np)).trans K1.mod, (K1.mod (wd := wd)) _ _ upd_same ho, .nil, by rw [goodB]; exact True.intro, Nat.le_refl _, Nat.zero_le _, Nat.zero_le _, Nat.le_refl _⟩ ?_ ?_⟩⟩
    · rintro i σ H2 hi ⟨y, b, m', vs, rfl, G2, M2, hp2, dv, gb, hm', nb, db, lv⟩
      refine ⟨_, rfl, wd, _, rfl, gw_left G2.wa, _, _, rfl, rfl, _, rfl, ite2 (fun e => ?_) (fun e => ?_)⟩
      · have hpos : 0 < m' := by
          have := of_decide_eq_true e
          omega
        have em : ((m' : Int) - 1) = ((m' - 1 : Nat) : Int) := by omega
        refine ⟨_, rfl, wd, _, rfl, gw_left G2.wa, _, _, rfl, rfl, _, rfl, wd, L2.upd H2 wd (.dK (wD ln (m' - 1))), rfl, (by show DPut H2 wd _ (V.int ((m' : Int) - 1)) _; rw [em]; exact uw_left G2.wa), ?_⟩
        have G3 : GenAt (L2.upd H2 wd (.dK (wD ln (m' - 1)))) d l wd ln ns (m' - 1) := G2.left
        have npw : p ≠ wd := fun z => hfr (by rw [z]; simp)
        have hp3 : (L2.upd H2 wd (.dK (wD ln (m' - 1)))) p = some (.lst vs) := by rw [upd_ne npw]; exact hp2
        have M3 : Mod [d, l, wd] H2 (L2.upd H2 wd (.dK (wD ln (m' - 1)))) := (Mod.refl _ _).put (.inl (by simp))
        refine ⟨_, rfl, .inl ⟨rfl, _, SqL.of hp3⟩, _, rfl, _, rfl, _, rfl, d, l, wd, ln, ns, m' - 1, dp, rfl, edp, G3, by omega, fun v s H4 m4 dv4 gs hm4 ns4 ds4 G4 M4 => ?_⟩
        have hp4 := M4 p _ hp3 ho
        have ex := (G2.ext (M3.trans M4)).trans (ext_put (o := .lst (vs ++ [v])) hp4)
        refine ⟨p, vs, v, rfl, rfl, hp4, small1000 (by omega), _, snoc b s, m4, vs ++ [v], rfl, G4.upd hfr, (M2.trans (M3.trans M4)).put (.inr np), upd_same, ?_, goodB_snoc gb gs, by omega, ?_, ?_, ?_⟩
        · rw [dB_snoc]
          exact dps_snoc (dps_ext ex _ _ dv (noL_dB b gb)) (dp_ext (ext_put hp4) _ _ dv4 (noL_dS s gs))
        · rw [nB_snoc]
          omega
        · rw [dB_snoc, dep_snoc]
          omega
        · rw [List.length_append]
          show vs.length + 1 ≤ i + 1
          omega
      · exact ⟨_, b, m', vs, rfl, G2, M2, hp2, dv, gb, hm', nb, db, by omega⟩
    · rintro σ H2 ⟨y, b, m', vs, rfl, G2, M2, hp2, dv, gb, hm', nb, db, lv⟩
      refine ⟨_, rfl, p, vs, rfl, .inl ⟨SqL.of hp2, fun t nt => ?_⟩⟩
      exact k _ b _ m' (.tup (SqT.of upd_same) (dps_ext (ext_new nt) _ _ dv (noL_dB b gb))) gb hm' nb db (G2.same (same_new nt)) (M2.trans (Mod.of (same_new nt)))
theorem ok_both (T : Top K mg CB CP CT) : ∀ n : Nat, C8.Cal P w K mg base (4 + 2 * n) "_law_any_statement" (spStm K n) [] ∧ C8.Cal P w K mg base (5 + 2 * n) "_law_any_block" (spBlk K n) []
  | 0 => by
    have h := ok_stm (P := P) (w := w) (base := base) T 0 (no_block T _)
    exact ⟨h, ok_blk T 0 h⟩
  | n + 1 => by
    have ih := (ok_both T n).2
    have h := ok_stm (P := P) (w := w) (base := base) T (n + 1) (by
      rw [show 3 + 2 * (n + 1) = 5 + 2 * n by omega]
      exact ih)
    exact ⟨h, ok_blk T (n + 1) h⟩
theorem scProg : FnScope ["_law_deal_here", "_law_world", "_law_found"] ["_law_deal_here"] (defScope s_l_any_program) := ⟨rfl, rfl, rfl, by decide +kernel, rfl, by decide +kernel, by decide +kernel⟩
theorem ok_prog (T : Top K mg CB CP CT) : C8.Cal P w K mg base 21 "_law_any_program" (spProg K) [] := by
  have C_law_draw : C8.Cal P w K mg base 1 "_law_draw" spDraw [] := ok_draw T
  have C_law_words : C8.Cal P w K mg base 2 "_law_words" spWords [] := ok_words T
  have C_law_any_statement : C8.Cal P w K mg base 20 "_law_any_statement" (spStm K 8) [] := (ok_both T 8).1
  obtain ⟨f, fd, F, gm⟩ := T.h_l_any_program
  refine ⟨f, fd, ["_law_deal_here"], [], ?_, gm, F.kp, F.binds (fun _ _ _ _ _ _ us hl => match us, hl with | [_], _ => rfl), .nil⟩
  refine F.ok scProg (fun vs H Q E h => ?_) (fun cdv A outer s H vs Q E hr h => ?_)
  · obtain ⟨d, l, rfl, _⟩ := h
    rfl
  · obtain ⟨d, l, rfl, hD, k⟩ := h
    have hu := hu_of hr
    refine ⟨_, (pss_cons (ps_set (i := 1) scProg.nd rfl (Or.inl rfl) (pe_disp (pps_cons pe_str (C8.pe_c C_law_words hr (by omega) rfl (pa_cons (pv 0) (pa_cons (pe_op op_add pe_int (C8.pe_c C_law_draw hr (by omega) rfl (pa_cons (pv 0) (pa_cons pe_int pa_nil)))) pa_nil))) (pps_cons pe_str (pe_ix ix_list (pe_lst (pa_cons pe_int (pa_cons pe_int (pa_cons pe_int (pa_cons pe_int pa_nil))))) (C8.pe_c C_law_draw hr (by omega) rfl (pa_cons (pv 0) (pa_cons pe_int pa_nil))) (fun _ _ => rfl)) pps_nil)) (by rfl) (by rfl) (fun z => by cases z) (by decide)))
  (pss_cons (ps_set (i := 2) scProg.nd rfl (Or.inl rfl) (pe_lst pa_nil))
  (C8.pss_cut (ps_while PassesOwn.never (pt_cmpR op_gt (pe_dget hu (pv 1) pe_str (fun _ _ => rfl)) pe_int (nomark _)) (pss_cons (ps_dput hu (pv 1) pe_str (pe_op op_sub (pe_dget hu (pv 1) pe_str (fun _ _ => rfl)) pe_int) rfl)
  (pss_one (ps_expr (pe_bm PySem.F.plainAttrs_list PySem.F.slot_list_append PySem.F.type_list_append mt_append (pv 2) (pa_cons (C8.pe_c C_law_any_statement hr (by omega) rfl (pa_cons (pv 0) (pa_cons (pv 1) (pa_cons pe_int pa_nil)))) pa_nil))))))
  (pss_one (ps_ret (pe_callTy call_tuple_of (by rfl) T.n_tuple (by decide +kernel) (pa_cons (pv 2) pa_nil))))))), ?_⟩
    intro wd nwd
    have s0 := same_new (o := .dK []) nwd
    have D0 := hD.same s0
    refine ⟨_, rfl, _, rfl, d, l, _, rfl, D0, by decide, by decide, fun r H1 r0 r1 D1 K1 => ⟨_, _, rfl, rfl, d, l, _, rfl, D1, by omega, by omega, fun ln ns H2 nln hln lns gns D2 K2 => ⟨fit (show 4 ≤ 1000 by decide), fun q nq => ⟨_, rfl, d, l, _, rfl, D2.same (same_new nq), by decide, by decide, fun j H3 j0 j1 D3 K3 => ?_⟩⟩⟩⟩
    obtain ⟨v, hv, mv⟩ := atI_ok (xs := ([0, 3, 12, 60] : List Nat).map fun z : Nat => V.int (z : Int)) (i := j) j0 (by rw [List.length_map]; exact j1)
    have hq3 : H3 q = some (.lst (([0, 3, 12, 60] : List Nat).map fun z : Nat => V.int (z : Int))) := K3 q _ upd_same (D2.d_ne nq) (D2.l_ne nq)
    obtain ⟨mN, mm, rfl⟩ := List.mem_map.mp mv
    have hmN : mN ≤ 60 := by
      simp only [List.mem_cons, List.not_mem_nil, or_false] at mm
      rcases mm with e | e | e | e <;> (subst e; decide)
    have K03 : Keep d l (L2.upd H wd (.dK [])) H3 := K1.trans (K2.trans ((Keep.of (same_new nq)).trans K3))
    have wdd := hD.d_ne nwd
    have wdl := hD.l_ne nwd
    have hwd3 : H3 wd = some (.dK []) := K03 wd _ upd_same wdd wdl
    have hln3 : H3 ln = some (.lst (ns.map V.str)) := ((Keep.of (same_new nq)).trans K3) ln _ hln (D1.d_ne nln) (D1.l_ne nln)
    have nlw : ln ≠ wd := fun z => by rw [z, hwd3] at hln3; cases hln3
    refine ⟨q, _, j, _, rfl, rfl, SqL.of hq3, hv, hwd3, wD ln mN, rfl, by show 2 ≤ 15; decide, ?_⟩
    rw [merge_w]
    have G4 : GenAt (L2.upd H3 wd (.dK (wD ln mN))) d l wd ln ns mN := ⟨D3.upd wdd wdl, upd_same, by rw [upd_ne nlw]; exact hln3, by omega, by omega, gns, wdd, D1.l_ne nln⟩
    have M4 : Mod [d, l, wd] H (L2.upd H3 wd (.dK (wD ln mN))) := ((Mod.of s0).trans K03.mod).put (.inl (by simp))
    -- found = []
    refine ⟨fit (by decide), fun p np => ?_⟩
    have hfr := G4.fresh np
    have ho := out3 G4 np
    have npH : H p = none := free3 (m := mN) G4 M4 np
    have G5 := G4.same (same_new (o := .lst []) np)
    have M5 := M4.trans (Mod.of (same_new (o := .lst []) np))
    refine ⟨fun σ H6 => ∃ (b : Blk) (vs : List V) (m' : Nat), σ = [some (.ref d), some (.ref wd), some (.ref p)] ∧ GenAt H6 d l wd ln ns m' ∧ Mod [d, l, wd] H H6 ∧ H6 p = some (.lst vs) ∧ DpAll K H6 vs (dB b) ∧ goodB b ∧ nB b ≤ 60 ∧ PyData.depthAll (dB b) ≤ 18, ?_, ?_⟩
    · refine ⟨fun n σ H6 => ∃ (b : Blk) (vs : List V) (m' : Nat), n = m' ∧ σ = [some (.ref d), some (.ref wd), some (.ref p)] ∧ GenAt H6 d l wd ln ns m' ∧ Mod [d, l, wd] H H6 ∧ H6 p = some (.lst vs) ∧ DpAll K H6 vs (dB b) ∧ goodB b ∧ m' ≤ mN ∧ nB b ≤ mN - m' ∧ PyData.depthAll (dB b) ≤ 18 ∧ vs.length ≤ mN - m', ⟨mN, .nil, [], mN, rfl, rfl, G5, M5, upd_same, .nil, by rw [goodB]; exact True.intro, Nat.le_refl _, Nat.zero_le _, Nat.zero_le _, Nat.zero_le _⟩, ?_⟩
      rintro n σ H6 ⟨b, vs, m', rfl, rfl, G6, M6, hp6, dv, gb, hm', nb, db, lv⟩
      refine ⟨_, rfl, wd, _, rfl, gw_left G6.wa, _, _, rfl, rfl, _, rfl, ite2 (fun e => ?_) (fun e => ?_)⟩
      · have hpos : 0 < n := by
          have := of_decide_eq_true e
          omega
        have em : ((n : Int) - 1) = ((n - 1 : Nat) : Int) := by omega
        refine ⟨fun σ' H' => ∃ (b : Blk) (vs : List V) (m' : Nat), m' < n ∧ σ' = [some (.ref d), some (.ref wd), some (.ref p)] ∧ GenAt H' d l wd ln ns m' ∧ Mod [d, l, wd] H H' ∧ H' p = some (.lst vs) ∧ DpAll K H' vs (dB b) ∧ goodB b ∧ m' ≤ mN ∧ nB b ≤ mN - m' ∧ PyData.depthAll (dB b) ≤ 18 ∧ vs.length ≤ mN - m', fun σ' H' ⟨b, vs, m', a0, a⟩ => ⟨m', a0, b, vs, m', rfl, a⟩, ?_⟩
        refine ⟨_, rfl, wd, _, rfl, gw_left G6.wa, _, _, rfl, rfl, _, rfl, wd, L2.upd H6 wd (.dK (wD ln (n - 1))), rfl, (by show DPut H6 wd _ (V.int ((n : Int) - 1)) _; rw [em]; exact uw_left G6.wa), ?_⟩
        have G7 : GenAt (L2.upd H6 wd (.dK (wD ln (n - 1)))) d l wd ln ns (n - 1) := G6.left
        have npw : p ≠ wd := fun z => hfr (by rw [z]; simp)
        have hp7 : (L2.upd H6 wd (.dK (wD ln (n - 1)))) p = some (.lst vs) := by rw [upd_ne npw]; exact hp6
        have M7 : Mod [d, l, wd] H6 (L2.upd H6 wd (.dK (wD ln (n - 1)))) := (Mod.refl _ _).put (.inl (by simp))
        refine ⟨_, rfl, .inl ⟨rfl, _, SqL.of hp7⟩, _, rfl, _, rfl, d, l, wd, ln, ns, n - 1, 8, rfl, rfl, G7, by omega, fun v s H8 m8 dv8 gs hm8 ns8 ds8 G8 M8 => ?_⟩
        have hp8 := M8 p _ hp7 ho
        have ex := (G6.ext (M7.trans M8)).trans (ext_put (o := .lst (vs ++ [v])) hp8)
        refine ⟨p, vs, v, rfl, rfl, hp8, small1000 (by omega), snoc b s, vs ++ [v], m8, by omega, rfl, G8.upd hfr, (M6.trans (M7.trans M8)).put (.inr npH), upd_same, ?_, goodB_snoc gb gs, by omega, ?_, ?_, ?_⟩
        · rw [dB_snoc]
          exact dps_snoc (dps_ext ex _ _ dv (noL_dB b gb)) (dp_ext (ext_put hp8) _ _ dv8 (noL_dS s gs))
        · rw [nB_snoc]
          omega
        · rw [dB_snoc, dep_snoc]
          omega
        · rw [List.length_append]
          show vs.length + 1 ≤ _
          omega
      · exact ⟨b, vs, n, rfl, G6, M6, hp6, dv, gb, by omega, db⟩
    rintro σ H6 ⟨b, vs, m', rfl, G6, M6, hp6, dv, gb, nb, db⟩
    refine ⟨_, rfl, p, vs, rfl, .inl ⟨SqL.of hp6, fun t nt => ?_⟩⟩
    refine k _ b _ (.tup (SqT.of upd_same) (dps_ext (ext_new nt) _ _ dv (noL_dB b gb))) gb nb db (G6.same (same_new nt)).dl fun c o e h1 h2 => ?_
    refine same_new nt _ _ (M6 c o e ?_)
    simp only [List.mem_cons, List.not_mem_nil, or_false, not_or]
    exact ⟨h1, h2, ne_of_none e nwd⟩
end
end K03
set_option Elab.async false
set_option linter.all false
set_option maxRecDepth 100000
set_option maxHeartbeats 4000000
namespace K03
open PySem PySem.Spec PyProof.Rows L2 Fb
abbrev F5 (ls la lb lg lm : Addr) : List Addr := [ls, la, lb, lg, lm]
def innT (sort : Str) (k a : PyData) (blk : Blk) (body : Nat) (t : Fb.TS) : Fb.TS := layB blk t.gr.length body { t with gr := t.gr ++ [rowG sort k a] }
def fnT (x : Str) (ps : List Str) (blk : Blk) (k g : Nat) (t : Fb.TS) : Fb.TS :=
  innT "body" (nD k) (nD g) blk t.bd.length { t with mm := t.mm ++ (rowM x k g :: ps.map fun p => rowM p k t.gr.length), bd := t.bd ++ [rowB (nD k) ps] }
def spLay (K : PySem.W.Frag) (n : Nat) : Sp := fun vs H Q _ => ∃ (fd ls la lb lg lm pb : Addr) (t : Fb.TS) (blk : Blk) (g b : Nat) (gi bi : Int), vs = [.ref fd, .ref pb, .int gi, .int bi] ∧ gi = (g : Int) ∧ bi = (b : Int) ∧ FoundAt K H fd ls la lb lg lm t ∧
  Dp K H (.ref pb) (.tuple (dB blk)) ∧ goodB blk ∧ hB blk ≤ n ∧ t.n + wB blk ≤ 900 ∧ ∀ H', FoundAt K H' fd ls la lb lg lm (layB blk g b t) → Mod (F5 ls la lb lg lm) H H' → Q .non H'
def spInner (K : PySem.W.Frag) (n : Nat) : Sp := fun vs H Q _ => ∃ (fd ls la lb lg lm pb : Addr) (t : Fb.TS) (blk : Blk) (sort : Str) (kV aV : V) (k a : PyData) (b : Nat) (bi : Int), vs = [.ref fd, .str sort, kV, aV, .ref pb, .int bi] ∧ bi = (b : Int) ∧ Sc kV k ∧ Sc aV a ∧ FoundAt K H fd ls la lb lg lm t ∧
  Dp K H (.ref pb) (.tuple (dB blk)) ∧ goodB blk ∧ hB blk ≤ n ∧ t.n + 1 + wB blk ≤ 900 ∧ ∀ H', FoundAt K H' fd ls la lb lg lm (innT sort k a blk b t) → Mod (F5 ls la lb lg lm) H H' → Q .non H'
def spLayFn (K : PySem.W.Frag) (n : Nat) : Sp := fun vs H Q _ => ∃ (fd ls la lb lg lm : Addr) (t : Fb.TS) (v : V) (x : Str) (ps : List Str) (blk : Blk) (k g : Nat), vs = [.ref fd, v, .int (k : Int), .int (g : Int)] ∧ FoundAt K H fd ls la lb lg lm t ∧
  Dp K H v (dS (.fn x ps blk)) ∧ goodS (.fn x ps blk) ∧ hB blk ≤ n ∧ t.n + 3 + ps.length + wB blk ≤ 900 ∧ ∀ H', FoundAt K H' fd ls la lb lg lm (fnT x ps blk k g t) → Mod (F5 ls la lb lg lm) H H' → Q .non H'
section
variable {K : PySem.W.Frag} {H H' : Hp} {fd ls la lb lg lm : Addr} {t : Fb.TS}
theorem m1 (m : Mod [ls] H H') : Mod (F5 ls la lb lg lm) H H' := m.wide fun b hb => by rw [List.mem_singleton.mp hb]; simp
theorem m2 (m : Mod [la] H H') : Mod (F5 ls la lb lg lm) H H' := m.wide fun b hb => by rw [List.mem_singleton.mp hb]; simp
theorem m3 (m : Mod [lb] H H') : Mod (F5 ls la lb lg lm) H H' := m.wide fun b hb => by rw [List.mem_singleton.mp hb]; simp
theorem m4 (m : Mod [lg] H H') : Mod (F5 ls la lb lg lm) H H' := m.wide fun b hb => by rw [List.mem_singleton.mp hb]; simp
theorem m5 (m : Mod [lm] H H') : Mod (F5 ls la lb lg lm) H H' := m.wide fun b hb => by rw [List.mem_singleton.mp hb]; simp
theorem fu_gr (h : FoundAt K H fd ls la lb lg lm t) (m : Mod [lg] H H') {ds : List PyData} (r : Rw K H' lg ds) : FoundAt K H' fd ls la lb lg lm { t with gr := ds } := by
  obtain ⟨a, b, c, d, e, f⟩ := h.up_gr m r
  exact ⟨a, b, c, d, e, f, h.nd⟩
theorem fu_mm (h : FoundAt K H fd ls la lb lg lm t) (m : Mod [lm] H H') {ds : List PyData} (r : Rw K H' lm ds) : FoundAt K H' fd ls la lb lg lm { t with mm := ds } := by
  obtain ⟨a, b, c, d, e, f⟩ := h.up_mm m r
  exact ⟨a, b, c, d, e, f, h.nd⟩
theorem fu_bd (h : FoundAt K H fd ls la lb lg lm t) (m : Mod [lb] H H') {ds : List PyData} (r : Rw K H' lb ds) : FoundAt K H' fd ls la lb lg lm { t with bd := ds } := by
  obtain ⟨a, b, c, d, e, f⟩ := h.up_bd m r
  exact ⟨a, b, c, d, e, f, h.nd⟩
end
section
variable {P : Program} {w : World} {K : PySem.W.Frag} {mg : Str → Option Value} {base : Heap} {CB CP CT : Addr}
theorem scInner : FnScope ["_law_found", "_law_sort", "_law_k", "_law_around", "_law_block", "_law_body"] ["_law_found", "_law_sort", "_law_k", "_law_around", "_law_block", "_law_body"] (defScope s_l_lay_inner) := ⟨rfl, rfl, rfl, by decide +kernel, rfl, by decide +kernel, by decide +kernel⟩
theorem ok_inner (T : Top K mg CB CP CT) (n : Nat) (C_law_lay : C8.Cal P w K mg base (2 + 3 * n) "_law_lay" (spLay K n) []) : C8.Cal P w K mg base (3 + 3 * n) "_law_lay_inner" (spInner K n) [] := by
  obtain ⟨f, fd0, F, gm⟩ := T.h_l_lay_inner
  refine ⟨f, fd0, ["_law_found", "_law_sort", "_law_k", "_law_around", "_law_block", "_law_body"], [], ?_, gm, F.kp, F.binds (fun _ _ _ _ _ _ us hl => match us, hl with | [_, _, _, _, _, _], _ => rfl), .nil⟩
  rw [show 3 + 3 * n = (2 + 3 * n) + 1 by omega]
  refine F.ok scInner (fun vs H Q E h => ?_) (fun cdv A outer s H vs Q E hr h => ?_)
  · obtain ⟨fd, ls, la, lb, lg, lm, pb, t, blk, sort, kV, aV, k, a, b, bi, rfl, _⟩ := h
    rfl
  · obtain ⟨fd, ls, la, lb, lg, lm, pb, t, blk, sort, kV, aV, kD, aD, b, bi, rfl, ebi, sk, sa, hF, hd, gb, hh, hn, k⟩ := h
    have hu := hu_of hr
    obtain ⟨gv, hg, dg, ng⟩ := hF.gr
    have lgv := dps_len dg
    refine ⟨_, (pss_cons (ps_expr (pe_bm PySem.F.plainAttrs_list PySem.F.slot_list_append PySem.F.type_list_append mt_append (pe_dget hu (pv 0) pe_str (fun _ _ => rfl)) (pa_cons (pe_tup (pa_cons (pv 1) (pa_cons (pv 2) (pa_cons (pv 3) pa_nil)))) pa_nil)))
  (pss_one (ps_expr (C8.pe_c C_law_lay hr (by omega) rfl (pa_cons (pv 0) (pa_cons (pv 4) (pa_cons (pe_op op_sub (pe_callB call_len_seq (by rfl) T.n_len (by decide +kernel) (pa_cons (pe_dget hu (pv 0) pe_str (fun _ _ => rfl)) pa_nil)) pe_int) (pa_cons (pv 5) pa_nil)))))))), ?_⟩
    refine ⟨_, rfl, fd, _, rfl, gf_gr hF.di, .inl ⟨rfl, _, SqL.of hg⟩, _, rfl, _, rfl, _, rfl, fit (show 3 ≤ 1000 by decide), fun tt nt => ⟨lg, _, _, rfl, rfl, same_new nt _ _ hg, small1000 (by unfold TS.n at hn; omega), ?_⟩⟩
    have mo : Mod [lg] H (L2.upd (L2.upd H tt (.tup [.str sort, kV, aV])) lg (.lst (gv ++ [.ref tt]))) := mod_push nt
    have F1 : FoundAt K (L2.upd (L2.upd H tt (.tup [.str sort, kV, aV])) lg (.lst (gv ++ [.ref tt]))) fd ls la lb lg lm { t with gr := t.gr ++ [rowG sort kD aD] } :=
      fu_gr hF mo (rw_push hg dg ng nt (noL_rowG sk sa) (.tup (SqT.of (push_at hg nt)) (.cons (.str _) (.cons sk.dp (.cons sa.dp .nil)))))
    have hg1 : (L2.upd (L2.upd H tt (.tup [.str sort, kV, aV])) lg (.lst (gv ++ [.ref tt]))) lg = some (.lst (gv ++ [.ref tt])) := upd_same
    refine ⟨_, rfl, _, rfl, _, rfl, fd, _, rfl, gf_gr F1.di, lg, _, rfl, .inl (SqL.of hg1), _, _, rfl, rfl, _, rfl, fd, ls, la, lb, lg, lm, pb, _, blk, t.gr.length, b, _, bi, rfl, ?_, ebi, F1, dp_ext (hF.ext5 (m4 mo)) _ _ hd (noL_blk gb), gb, hh, ?_, fun H' F2 M2 => ?_⟩
    · rw [List.length_append, lgv]
      simp
    · simp only [TS.n, List.length_append, List.length_cons, List.length_nil] at hn ⊢
      omega
    · exact k H' F2 ((m4 mo).trans M2)
theorem scLayFn : FnScope ["_law_found", "_law_one", "_law_k", "_law_ground", "_law_inner", "_law_name"] ["_law_found", "_law_one", "_law_k", "_law_ground"] (defScope s_l_lay_fn) := ⟨rfl, rfl, rfl, by decide +kernel, rfl, by decide +kernel, by decide +kernel⟩
theorem ok_layfn (T : Top K mg CB CP CT) (n : Nat) (C_law_lay_inner : C8.Cal P w K mg base (3 + 3 * n) "_law_lay_inner" (spInner K n) []) : C8.Cal P w K mg base (4 + 3 * n) "_law_lay_fn" (spLayFn K n) [] := by
  obtain ⟨f, fd0, F, gm⟩ := T.h_l_lay_fn
  refine ⟨f, fd0, ["_law_found", "_law_one", "_law_k", "_law_ground"], [], ?_, gm, F.kp, F.binds (fun _ _ _ _ _ _ us hl => match us, hl with | [_, _, _, _], _ => rfl), .nil⟩
  rw [show 4 + 3 * n = (3 + 3 * n) + 1 by omega]
  refine F.ok scLayFn (fun vs H Q E h => ?_) (fun cdv A outer s H vs Q E hr h => ?_)
  · obtain ⟨fd, ls, la, lb, lg, lm, t, v, x, ps, blk, k, g, rfl, _⟩ := h
    rfl
  · obtain ⟨fd, ls, la, lb, lg, lm, t, v, x, ps, blk, kN, gN, rfl, hF, hd, hg0, hh, hn, k⟩ := h
    have hu := hu_of hr
    obtain ⟨gv, hg, dg, ng⟩ := hF.gr
    have lgv := dps_len dg
    obtain ⟨a, pa, ba, rfl, q, qp, hb⟩ := view_fn hd
    have hg1 := hg0
    rw [goodS] at hg1
    have hn2 : t.pl.length + t.bd.length + t.gr.length + t.mm.length + 3 + ps.length + wB blk ≤ 900 := hn
    refine ⟨_, (pss_cons (ps_set (i := 4) scLayFn.nd rfl (Or.inr rfl) (pe_callB call_len_seq (by rfl) T.n_len (by decide +kernel) (pa_cons (pe_dget hu (pv 0) pe_str (fun _ _ => rfl)) pa_nil)))
  (C8.pss_cut (ps_expr (pe_bm PySem.F.plainAttrs_list PySem.F.slot_list_extend PySem.F.type_list_extend mt_extend (pe_dget hu (pv 0) pe_str (fun _ _ => rfl)) (pa_cons (pe_op op_cat (pe_lst (pa_cons (pe_tup (pa_cons (pe_ix ix_tup (pv 1) pe_int (fun _ _ => rfl)) (pa_cons (pv 2) (pa_cons (pv 3) pa_nil)))) pa_nil)) (pe_lc (own := [("_law_name", 5)]) rfl scLayFn.nd (pi_tup (pe_ix ix_tup (pv 1) pe_int (fun _ _ => rfl))) (blkOk_by (own := [("_law_name", 5)]) (N := ["_law_found", "_law_one", "_law_k", "_law_ground", "_law_inner", "_law_name"]) (sc := defScope s_l_lay_fn) (by decide +kernel)) (fun _ _ _ _ _ => (pg_name (i := 5) scLayFn.nd rfl (Or.inl rfl))) (fun _ _ _ _ _ => pts_nil) (fun _ _ _ _ _ => (pe_tup (pa_cons (pv 5) (pa_cons (pv 2) (pa_cons (pv 4) pa_nil))))))) pa_nil)))
  (C8.pss_cut (ps_expr (pe_bm PySem.F.plainAttrs_list PySem.F.slot_list_append PySem.F.type_list_append mt_append (pe_dget hu (pv 0) pe_str (fun _ _ => rfl)) (pa_cons (pe_tup (pa_cons (pv 2) (pa_cons (pe_ix ix_tup (pv 1) pe_int (fun _ _ => rfl)) pa_nil))) pa_nil)))
  (pss_one (ps_expr (C8.pe_c C_law_lay_inner hr (by omega) rfl (pa_cons (pv 0) (pa_cons pe_str (pa_cons (pv 2) (pa_cons (pv 3) (pa_cons (pe_ix ix_tup (pv 1) pe_int (fun _ _ => rfl)) (pa_cons (pe_op op_sub (pe_callB call_len_seq (by rfl) T.n_len (by decide +kernel) (pa_cons (pe_dget hu (pv 0) pe_str (fun _ _ => rfl)) pa_nil)) pe_int) pa_nil)))))))))))), ?_⟩
    refine ⟨_, rfl, fd, _, rfl, gf_gr hF.di, lg, _, rfl, .inl (SqL.of hg), ?_⟩
    rw [lgv]
    -- makings
    refine ⟨fun σ H1 => σ = [some (.ref fd), some (.ref a), some (.int (kN : Int)), some (.int (gN : Int)), some (.int (t.gr.length : Int)), none] ∧ Mod (F5 ls la lb lg lm) H H1 ∧ FoundAt K H1 fd ls la lb lg lm { t with mm := t.mm ++ (rowM x kN gN :: ps.map fun p => rowM p kN t.gr.length) }, ?_, ?_⟩
    · obtain ⟨mv, hm, dm, nmm⟩ := hF.mm
      have lmv := dps_len dm
      refine ⟨_, rfl, fd, _, rfl, gf_mm hF.di, .inl ⟨rfl, _, SqL.of hm⟩, _, rfl, a, _, _, _, rfl, rfl, q, atI_nat (j := 1) rfl, _, rfl, _, rfl, fit (show 3 ≤ 1000 by decide), fun t2 nt2 => ⟨fit (show 1 ≤ 1000 by decide), fun p np => ?_⟩⟩
      have s2 := (same_new (o := .tup [.str x, .int (kN : Int), .int (gN : Int)]) nt2).trans (same_new (o := .lst [V.ref t2]) np)
      have hp : (L2.upd (L2.upd H t2 (.tup [.str x, .int (kN : Int), .int (gN : Int)])) p (.lst [V.ref t2])) p = some (.lst [V.ref t2]) := upd_same
      have ht2 : (L2.upd (L2.upd H t2 (.tup [.str x, .int (kN : Int), .int (gN : Int)])) p (.lst [V.ref t2])) t2 = some (.tup [.str x, .int (kN : Int), .int (gN : Int)]) := same_new np _ _ upd_same
      refine ⟨_, rfl, a, _, _, _, rfl, rfl, sq_same s2 q, atI_nat (j := 2) rfl, pa, rfl, ⟨_, sq_same s2 qp⟩, fun D nD => lc_it (walk_tup (K := K) (xs := ps.map V.str)) (fun i H2 => Same H H2 ∧ H2 p = some (.lst [V.ref t2]) ∧ H2 t2 = some (.tup [.str x, .int (kN : Int), .int (gN : Int)]) ∧ ∃ us, H2 D = some (.lst us) ∧ DpAll K H2 us ((ps.take i).map fun y => rowM y kN t.gr.length)) ⟨s2.trans (same_new nD), same_new nD _ _ hp, same_new nD _ _ ht2, [], upd_same, .nil⟩ (fun i H2 _ z => sq_same z.1 qp) ?_ ?_⟩
      · rintro i y H2 H3 hi ⟨z1, zp, zt, us, hD, du⟩ ⟨rfl, hy⟩
        obtain ⟨nmx, hnx, rfl⟩ : ∃ nx, ps[i]? = some nx ∧ y = .str nx := by
          rw [List.getElem?_map] at hy
          cases e : ps[i]? with
          | none => rw [e] at hy; cases hy
          | some nx => rw [e] at hy; exact ⟨nx, rfl, (Option.some.inj hy).symm⟩
        have lu := dps_len du
        rw [List.length_map, List.length_take] at lu
        refine ⟨rfl, _, rfl, _, rfl, _, rfl, fit (show 3 ≤ 1000 by decide), fun t3 nt3 => ⟨us, same_new nt3 _ _ hD, small1000 (by omega), ?_, ?_, ?_, us ++ [.ref t3], upd_same, ?_⟩⟩
        · intro c o e
          rw [upd_ne (ne_of_none (s2 c o e) nD)]
          exact same_new nt3 _ _ (z1 c o e)
        · rw [upd_ne (ne_of_none hp nD)]
          exact same_new nt3 _ _ zp
        · rw [upd_ne (ne_of_none ht2 nD)]
          exact same_new nt3 _ _ zt
        · rw [take_snoc hnx, List.map_append]
          have ex : Ext H3 (L2.upd (L2.upd H3 t3 (.tup [.str nmx, .int (kN : Int), .int (t.gr.length : Int)])) D (.lst (us ++ [.ref t3]))) := (ext_new nt3).trans (ext_put (same_new nt3 _ _ hD))
          refine dps_snoc (dps_ext ex _ _ du (noLs_all fun d hd => ?_)) (dp_row ?_)
          · obtain ⟨y, _, rfl⟩ := List.mem_map.mp hd
            rfl
          · rw [upd_ne (ne_of_none hD nt3).symm, upd_same]
      · rintro H2 ⟨z1, zp, zt, us, hD, du⟩
        rw [List.length_map, List.take_length] at du
        have lu := dps_len du
        rw [List.length_map] at lu
        have nrow : noLs (ps.map fun y => rowM y kN t.gr.length) = true := noLs_all fun d hd => by obtain ⟨y, _, rfl⟩ := List.mem_map.mp hd; rfl
        refine ⟨p, D, _, _, rfl, rfl, zp, hD, fit (by rw [List.length_cons, List.length_nil]; omega), fun p2 np2 => ⟨lm, p2, _, _, rfl, rfl, same_new np2 _ _ (z1 _ _ hm), upd_same, fit (by rw [List.length_append, List.length_cons, List.length_nil]; omega), rfl, ?_, ?_⟩⟩
        · exact (Mod.of (z1.trans (same_new np2))).trans (m5 mod1)
        · have sx := z1.trans (same_new (o := .lst ([V.ref t2] ++ us)) np2)
          have ex := ext_put (o := .lst (mv ++ ([V.ref t2] ++ us))) (sx _ _ hm)
          refine fu_mm (hF.same sx) mod1 ⟨_, upd_same, dps_app (.cons (dp_row ?_) (dps_ext ((ext_new np2).trans ex) _ _ du nrow)) (dps_ext ((Same.ext sx).trans ex) _ _ dm nmm), noLs_app nmm (noL_cons rfl nrow)⟩
          have z3 := same_new (o := .lst ([V.ref t2] ++ us)) np2 _ _ zt
          rw [upd_ne (ne_of z3 (sx _ _ hm) (by intro z; cases z))]
          exact z3
    rintro σ H1 ⟨rfl, M1, F1⟩
    have hd1 := dp_ext (hF.ext5 M1) _ _ hd (noL_dS _ hg0)
    obtain ⟨a1, pa1, ba1, ea1, q1, qp1, hb1⟩ := view_fn hd1
    cases ea1
    -- bodies
    refine ⟨fun σ H2 => σ = [some (.ref fd), some (.ref a), some (.int (kN : Int)), some (.int (gN : Int)), some (.int (t.gr.length : Int)), none] ∧ Mod (F5 ls la lb lg lm) H H2 ∧ FoundAt K H2 fd ls la lb lg lm { t with mm := t.mm ++ (rowM x kN gN :: ps.map fun p => rowM p kN t.gr.length), bd := t.bd ++ [rowB (nD kN) ps] }, ?_, ?_⟩
    · obtain ⟨bv, hbv, db, nb⟩ := F1.bd
      have lbv := dps_len db
      refine ⟨_, rfl, fd, _, rfl, gf_bd F1.di, .inl ⟨rfl, _, SqL.of hbv⟩, _, rfl, _, rfl, a, _, _, _, rfl, rfl, q1, atI_nat (j := 2) rfl, fit (show 2 ≤ 1000 by decide), fun tt nt => ⟨lb, _, _, rfl, rfl, same_new nt _ _ hbv, small1000 (by have z : t.bd.length = bv.length := lbv.symm; omega), rfl, M1.trans (m3 (mod_push nt)), ?_⟩⟩
      refine fu_bd F1 (mod_push nt) (rw_push hbv db nb nt ?_ (.tup (SqT.of (push_at hbv nt)) (.cons (.int _) (.cons (.tup (sqT_ext ((ext_new nt).trans (ext_put (same_new nt _ _ hbv))) qp1) (dps_strs ps)) .nil))))
      show noL (.tuple [nD kN, .tuple (ps.map .str)]) = true
      simp only [noL, noLs, noLs_strs, Bool.and_true]
    rintro σ H2 ⟨rfl, M2, F2⟩
    have hd2 := dp_ext (hF.ext5 M2) _ _ hd (noL_dS _ hg0)
    obtain ⟨a2, pa2, ba2, ea2, q2, qp2, hb2⟩ := view_fn hd2
    cases ea2
    obtain ⟨bv2, hbv2, db2, nb2⟩ := F2.bd
    have lbv2 := dps_len db2
    refine ⟨_, rfl, _, rfl, _, rfl, _, rfl, a, _, _, _, rfl, rfl, q2, atI_nat (j := 3) rfl, _, rfl, fd, _, rfl, gf_bd F2.di, lb, _, rfl, .inl (SqL.of hbv2), _, _, rfl, rfl, fd, ls, la, lb, lg, lm, ba2, _, blk, "body", _, _, nD kN, nD gN, t.bd.length, _, rfl, ?_, .inr ⟨_, rfl, rfl⟩, .inr ⟨_, rfl, rfl⟩, F2, hb2, hg1.2.2.2, hh, ?_, fun H3 F3 M3 => ?_⟩
    · rw [lbv2, List.length_append]
      simp
    · simp only [TS.n, List.length_append, List.length_cons, List.length_nil, List.length_map]
      omega
    · exact k H3 F3 (M2.trans M3)
end
end K03
set_option Elab.async false
set_option linter.all false
set_option maxRecDepth 100000
set_option maxHeartbeats 4000000
namespace K03
open PySem PySem.Spec PyProof.Rows L2 Fb
def belowI (K : PySem.W.Frag) : Nat → Sp
  | 0 => fun _ _ _ _ => False
  | n + 1 => spInner K n
def belowF (K : PySem.W.Frag) : Nat → Sp
  | 0 => fun _ _ _ _ => False
  | n + 1 => spLayFn K n
def mkD : Stm → Nat → Nat → List PyData
  | .mk _ x _ _, k, g => [rowM x k g]
  | _, _, _ => []
section
variable {K : PySem.W.Frag} {H : Hp} {fd ls la lb lg lm : Addr} {pl : List (PyData × Nat × Nat)} {bd gr mm : List PyData} {s : Stm} {k g : Nat}
theorem nil_mm (h : mkD s k g = []) (f : FoundAt K H fd ls la lb lg lm ⟨pl, bd, gr, mm⟩) : FoundAt K H fd ls la lb lg lm ⟨pl, bd, gr, mm ++ mkD s k g⟩ := by
  rw [h, List.append_nil]
  exact f
theorem un_mm (h : mkD s k g = []) (f : FoundAt K H fd ls la lb lg lm ⟨pl, bd, gr, mm ++ mkD s k g⟩) : FoundAt K H fd ls la lb lg lm ⟨pl, bd, gr, mm⟩ := by
  rw [h, List.append_nil] at f
  exact f
end
theorem layL_take {blk : Blk} {i : Nat} {s : Stm} (h : (stms blk)[i]? = some s) (g b : Nat) (t : Fb.TS) : layL ((stms blk).take (i + 1)) g b t = layS s g b (layL ((stms blk).take i) g b t) := by
  rw [take_snoc h, layL_snoc]
theorem stm_at {blk : Blk} {i : Nat} {d : PyData} (h : (dB blk)[i]? = some d) : ∃ s, (stms blk)[i]? = some s ∧ d = dS s := by
  rw [dB_stms, List.getElem?_map] at h
  cases e : (stms blk)[i]? with
  | none => rw [e] at h; cases h
  | some s => rw [e] at h; exact ⟨s, rfl, (Option.some.inj h).symm⟩
section
variable {P : Program} {w : World} {K : PySem.W.Frag} {mg : Str → Option Value} {base : Heap} {CB CP CT : Addr}
theorem no_inner (T : Top K mg CB CP CT) (k : Nat) : C8.Cal P w K mg base k "_law_lay_inner" (fun _ _ _ _ => False) [] := by
  obtain ⟨f, fd, F, gm⟩ := T.h_l_lay_inner
  exact ⟨f, fd, ["_law_found", "_law_sort", "_law_k", "_law_around", "_law_block", "_law_body"], [], ⟨fun _ _ _ _ h => h.elim, fun _ _ _ _ _ _ _ _ _ _ _ _ _ h => h.elim⟩, gm, F.kp, F.binds (fun _ _ _ _ _ _ us hl => match us, hl with | [_, _, _, _, _, _], _ => rfl), .nil⟩
theorem no_layfn (T : Top K mg CB CP CT) (k : Nat) : C8.Cal P w K mg base k "_law_lay_fn" (fun _ _ _ _ => False) [] := by
  obtain ⟨f, fd, F, gm⟩ := T.h_l_lay_fn
  exact ⟨f, fd, ["_law_found", "_law_one", "_law_k", "_law_ground"], [], ⟨fun _ _ _ _ h => h.elim, fun _ _ _ _ _ _ _ _ _ _ _ _ _ h => h.elim⟩, gm, F.kp, F.binds (fun _ _ _ _ _ _ us hl => match us, hl with | [_, _, _, _], _ => rfl), .nil⟩
theorem scLay : FnScope ["_law_found", "_law_block", "_law_ground", "_law_body", "_law_one", "_law_k", "_law_around"] ["_law_found", "_law_block", "_law_ground", "_law_body"] (defScope s_l_lay) := ⟨rfl, rfl, rfl, by decide +kernel, rfl, by decide +kernel, by decide +kernel⟩
theorem ok_lay (T : Top K mg CB CP CT) (n : Nat) (C_law_lay_inner : C8.Cal P w K mg base (0 + 3 * n) "_law_lay_inner" (belowI K n) []) (C_law_lay_fn : C8.Cal P w K mg base (1 + 3 * n) "_law_lay_fn" (belowF K n) []) : C8.Cal P w K mg base (2 + 3 * n) "_law_lay" (spLay K n) [] := by
  obtain ⟨f, fd0, F, gm⟩ := T.h_l_lay
  refine ⟨f, fd0, ["_law_found", "_law_block", "_law_ground", "_law_body"], [], ?_, gm, F.kp, F.binds (fun _ _ _ _ _ _ us hl => match us, hl with | [_, _, _, _], _ => rfl), .nil⟩
  rw [show 2 + 3 * n = (1 + 3 * n) + 1 by omega]
  refine F.ok scLay (fun vs H Q E h => ?_) (fun cdv A outer s H vs Q E hr h => ?_)
  · obtain ⟨fd, ls, la, lb, lg, lm, pb, t, blk, g, b, gi, bi, rfl, _⟩ := h
    rfl
  · obtain ⟨fd, ls, la, lb, lg, lm, pb, t0, blk, g, b, gi, bi, rfl, rfl, rfl, hF0, hd0, gb, hh, hn0, k⟩ := h
    have hu := hu_of hr
    obtain ⟨pb', bv, epb, qb, db⟩ := view_tup hd0
    cases epb
    have lbv := dps_len db
    refine ⟨_, (pss_one (ps_for PassesOwn.never rfl (pi_tup (pv 1)) (pg_name (i := 4) scLay.nd rfl (Or.inl rfl))
    (pss_cons (ps_set (i := 5) scLay.nd rfl (Or.inl rfl) (pe_callB call_len_seq (by rfl) T.n_len (by decide +kernel) (pa_cons (pe_dget hu (pv 0) pe_str (fun _ _ => rfl)) pa_nil)))
  (pss_cons (ps_expr (pe_bm PySem.F.plainAttrs_list PySem.F.slot_list_append PySem.F.type_list_append mt_append (pe_dget hu (pv 0) pe_str (fun _ _ => rfl)) (pa_cons (pv 4) pa_nil)))
  (C8.pss_cut (ps_expr (pe_bm PySem.F.plainAttrs_list PySem.F.slot_list_append PySem.F.type_list_append mt_append (pe_dget hu (pv 0) pe_str (fun _ _ => rfl)) (pa_cons (pv 3) pa_nil)))
  (C8.pss_cut (ps_if (pt_cmpR op_in_seq (pe_ix ix_tup (pv 4) pe_int (fun _ _ => rfl)) (pe_tup (pa_cons pe_str (pa_cons pe_str (pa_cons pe_str pa_nil)))) (by rfl))
    (pss_one (ps_expr (pe_bm PySem.F.plainAttrs_list PySem.F.slot_list_append PySem.F.type_list_append mt_append (pe_dget hu (pv 0) pe_str (fun _ _ => rfl)) (pa_cons (pe_tup (pa_cons (pe_ix ix_tup (pv 4) pe_int (fun _ _ => rfl)) (pa_cons (pv 5) (pa_cons (pv 2) pa_nil)))) pa_nil))))
    pss_nil)
  (pss_cons (ps_if (pt_cmpR op_eq (pe_ix ix_tup (pv 4) pe_int (fun _ _ => rfl)) pe_str (nomark _))
    (pss_one (ps_expr (C8.pe_c C_law_lay_fn hr (by omega) rfl (pa_cons (pv 0) (pa_cons (pv 4) (pa_cons (pv 5) (pa_cons (pv 2) pa_nil)))))))
    pss_nil)
  (pss_cons (ps_if (pt_cmpR op_eq (pe_ix ix_tup (pv 4) pe_int (fun _ _ => rfl)) pe_str (nomark _))
    (pss_cons (ps_expr (C8.pe_c C_law_lay_inner hr (by omega) rfl (pa_cons (pv 0) (pa_cons pe_str (pa_cons (pv 5) (pa_cons (pv 2) (pa_cons (pe_ix ix_tup (pv 4) pe_int (fun _ _ => rfl)) (pa_cons (pv 3) pa_nil))))))))
  (pss_one (ps_expr (C8.pe_c C_law_lay_inner hr (by omega) rfl (pa_cons (pv 0) (pa_cons pe_str (pa_cons (pv 5) (pa_cons (pv 2) (pa_cons (pe_ix ix_tup (pv 4) pe_int (fun _ _ => rfl)) (pa_cons (pv 3) pa_nil))))))))))
    pss_nil)
  (pss_cons (ps_if (pt_cmpR op_eq (pe_ix ix_tup (pv 4) pe_int (fun _ _ => rfl)) pe_str (nomark _))
    (pss_one (ps_expr (C8.pe_c C_law_lay_inner hr (by omega) rfl (pa_cons (pv 0) (pa_cons pe_str (pa_cons (pv 5) (pa_cons (pv 2) (pa_cons (pe_ix ix_tup (pv 4) pe_int (fun _ _ => rfl)) (pa_cons (pv 3) pa_nil)))))))))
    pss_nil)
  (pss_one (ps_if (pt_cmpR op_eq (pe_ix ix_tup (pv 4) pe_int (fun _ _ => rfl)) pe_str (nomark _))
    (C8.pss_cut (ps_expr (pe_bm PySem.F.plainAttrs_list PySem.F.slot_list_append PySem.F.type_list_append mt_append (pe_dget hu (pv 0) pe_str (fun _ _ => rfl)) (pa_cons (pe_tup (pa_cons (pe_ix ix_tup (pv 4) pe_int (fun _ _ => rfl)) (pa_cons (pv 5) (pa_cons (pe_callB call_len_seq (by rfl) T.n_len (by decide +kernel) (pa_cons (pe_dget hu (pv 0) pe_str (fun _ _ => rfl)) pa_nil)) pa_nil)))) pa_nil)))
  (pss_cons (ps_set (i := 6) scLay.nd rfl (Or.inl rfl) (pv 2))
  (pss_cons (ps_if (pt_cmpR op_eq (pe_ix ix_tup (pv 4) pe_int (fun _ _ => rfl)) pe_str (nomark _))
    (pss_cons (ps_set (i := 6) scLay.nd rfl (Or.inl rfl) (pe_callB call_len_seq (by rfl) T.n_len (by decide +kernel) (pa_cons (pe_dget hu (pv 0) pe_str (fun _ _ => rfl)) pa_nil)))
  (pss_one (ps_expr (pe_bm PySem.F.plainAttrs_list PySem.F.slot_list_append PySem.F.type_list_append mt_append (pe_dget hu (pv 0) pe_str (fun _ _ => rfl)) (pa_cons (pe_tup (pa_cons pe_str (pa_cons (pv 5) (pa_cons (pv 2) pa_nil)))) pa_nil)))))
    pss_nil)
  (pss_one (ps_expr (C8.pe_c C_law_lay_inner hr (by omega) rfl (pa_cons (pv 0) (pa_cons pe_str (pa_cons (pv 5) (pa_cons (pv 6) (pa_cons (pe_ix ix_tup (pv 4) pe_int (fun _ _ => rfl)) (pa_cons (pv 3) pa_nil))))))))))))
    pss_nil))))))))))), ?_⟩
    refine ⟨_, rfl, pb, rfl, ⟨_, qb⟩, for_it (walk_tup (K := K) (xs := bv)) (fun i σ H1 => (∃ y4 y5 y6 : Option V, σ = [some (.ref fd), some (.ref pb), some (.int (g : Int)), some (.int (b : Int)), y4, y5, y6]) ∧ Mod (F5 ls la lb lg lm) H H1 ∧ FoundAt K H1 fd ls la lb lg lm (layL ((stms blk).take i) g b t0)) ⟨⟨none, none, none, rfl⟩, Mod.refl _ _, hF0⟩ (fun i σ H1 _ z => sqT_ext (hF0.ext5 z.2.1) qb) ?_ ?_⟩
    · rintro i y σ H1 H1' hi ⟨⟨y4, y5, y6, rfl⟩, M1, F1⟩ ⟨rfl, hy⟩
      obtain ⟨d, hd, dy⟩ := dps_at (dps_ext (hF0.ext5 M1) _ _ db (noL_dB blk gb)) hy
      obtain ⟨s, hs, rfl⟩ := stm_at hd
      have gs := good_stms gb s (List.mem_of_getElem? hs)
      have hhs : hS s ≤ n := Nat.le_trans (hB_mem (List.mem_of_getElem? hs)) hh
      have wt := w_layL ((stms blk).take i) g b t0
      have wk := wL_take (stms blk) (i + 1)
      rw [take_snoc hs, wL_snoc, ← wB_stms] at wk
      have fin : ∀ {σ' : L2.St} {H' : Hp}, (∃ y4 y5 y6 : Option V, σ' = [some (.ref fd), some (.ref pb), some (.int (g : Int)), some (.int (b : Int)), y4, y5, y6]) → Mod (F5 ls la lb lg lm) H H' → FoundAt K H' fd ls la lb lg lm (layS s g b (layL ((stms blk).take i) g b t0)) → ((∃ y4 y5 y6 : Option V, σ' = [some (.ref fd), some (.ref pb), some (.int (g : Int)), some (.int (b : Int)), y4, y5, y6]) ∧ Mod (F5 ls la lb lg lm) H H' ∧ FoundAt K H' fd ls la lb lg lm (layL ((stms blk).take (i + 1)) g b t0)) := fun a1 a2 a3 => ⟨a1, a2, by rw [layL_take hs]; exact a3⟩
      generalize layL ((stms blk).take i) g b t0 = t at F1 wt fin
      have hn : t.n + wS s ≤ 900 := by omega
      have hn2 : t.pl.length + t.bd.length + t.gr.length + t.mm.length + wS s ≤ 900 := hn
      have wpos := wS_pos s
      obtain ⟨sv, hsv, dsv, nsv⟩ := F1.st
      have lsv := dps_len dsv
      rw [List.length_map] at lsv
      obtain ⟨ya, yx, rfl, _, _⟩ := view_any dy
      -- k, statements
      refine ⟨_, rfl, fd, _, rfl, gf_st F1.di, ls, _, rfl, .inl (SqL.of hsv), ?_⟩
      refine ⟨_, rfl, fd, _, rfl, gf_st F1.di, .inl ⟨rfl, _, SqL.of hsv⟩, _, rfl, ls, _, _, rfl, rfl, hsv, small1000 (by omega), ?_⟩
      rw [lsv]
      have ex1 := ext_put (o := .lst (sv ++ [.ref ya])) hsv
      have mo1 : Mod [ls] H1' (L2.upd H1' ls (.lst (sv ++ [.ref ya]))) := mod1
      obtain ⟨u1, u2, u3, u4, u5, u6⟩ := F1.up_st mo1 (ds := t.pl.map (·.1) ++ [dS s]) ⟨_, upd_same, dps_snoc (dps_ext ex1 _ _ dsv nsv) (dp_ext ex1 _ _ dy (noL_dS s gs)), noLs_app nsv (noL_cons (noL_dS s gs) rfl)⟩
      obtain ⟨av, hav, dav, nav⟩ := u3
      have lav := dps_len dav
      rw [List.length_map] at lav
      -- at
      refine ⟨fun σ' H3 => σ' = [some (.ref fd), some (.ref pb), some (.int (g : Int)), some (.int (b : Int)), some (.ref ya), some (.int (t.pl.length : Int)), y6] ∧ Mod (F5 ls la lb lg lm) H H3 ∧ FoundAt K H3 fd ls la lb lg lm { t with pl := t.pl ++ [(dS s, g, b)] }, ?_, ?_⟩
      · refine ⟨_, rfl, fd, _, rfl, gf_at_ u1, .inl ⟨rfl, _, SqL.of hav⟩, _, rfl, la, _, _, rfl, rfl, hav, small1000 (by omega), rfl, M1.trans ((m1 mo1).trans (m2 mod1)), ?_⟩
        have ex2 := ext_put (o := .lst (av ++ [.int (b : Int)])) hav
        have kk : ∀ {x : Addr}, x ≠ la → ∀ o, (L2.upd H1' ls (.lst (sv ++ [.ref ya]))) x = some o → (L2.upd (L2.upd H1' ls (.lst (sv ++ [.ref ya]))) la (.lst (av ++ [.int (b : Int)]))) x = some o := fun hx o q => by rw [upd_ne hx]; exact q
        obtain ⟨⟨n01, n02, n03, n04⟩, ⟨n12, n13, n14⟩, ⟨n23, n24⟩, n34⟩ := F1.nes
        have nf : fd ≠ la := ne_of u1 hav (by intro z; cases z)
        refine ⟨kk nf _ u1, ?_, ⟨_, upd_same, ?_, ?_⟩, u4.mod ex2 (kk n12.symm), u5.mod ex2 (kk n13.symm), u6.mod ex2 (kk n14.symm), F1.nd⟩
        · rw [List.map_append]
          exact u2.mod ex2 (kk n01)
        · rw [List.map_append]
          exact dps_snoc (dps_ext ex2 _ _ dav nav) (.int _)
        · rw [List.map_append]
          exact noLs_app nav rfl
      rintro σ' H3 ⟨rfl, M3, F3⟩
      have dy3 := dp_ext (hF0.ext5 M3) _ _ (show Dp K H (.ref ya) (dS s) from by
        obtain ⟨d', hd', dy'⟩ := dps_at db hy
        rw [hd] at hd'
        cases hd'
        exact dy') (noL_dS s gs)
      -- one[0] in (..)
      refine ⟨fun σ' H4 => σ' = [some (.ref fd), some (.ref pb), some (.int (g : Int)), some (.int (b : Int)), some (.ref ya), some (.int (t.pl.length : Int)), y6] ∧ Mod (F5 ls la lb lg lm) H H4 ∧ FoundAt K H4 fd ls la lb lg lm { t with pl := t.pl ++ [(dS s, g, b)], mm := t.mm ++ mkD s t.pl.length g }, ?_, ?_⟩
      · cases s with
        | mk w0 x r h0 =>
          obtain ⟨a, rs, ea, q, _⟩ := view_mk dy3
          cases ea
          obtain ⟨mv, hmv, dm, nmm⟩ := F3.mm
          have lmv := dps_len dm
          refine ⟨_, rfl, ya, _, _, _, rfl, rfl, q, atI_nat (j := 0) rfl, fit (show 3 ≤ 1000 by decide), fun tt nt => ⟨tt, mkW.map V.str, rfl, .inr (SqT.of upd_same), rfl, flat3, _, rfl, boolT (c := inV (.str w0) (mkW.map V.str)) (mkW_in h0) ?_⟩⟩
          have s1 := same_new (o := .tup (mkW.map V.str)) nt
          have F4 := F3.same s1
          refine ⟨_, rfl, fd, _, rfl, gf_mm F4.di, .inl ⟨rfl, _, SqL.of (s1 _ _ hmv)⟩, _, rfl, ya, _, _, _, rfl, rfl, sq_same s1 q, atI_nat (j := 1) rfl, _, rfl, _, rfl, fit (show 3 ≤ 1000 by decide), fun t2 nt2 => ⟨lm, _, _, rfl, rfl, same_new nt2 _ _ (s1 _ _ hmv), small1000 (by have z : t.mm.length = mv.length := lmv.symm; omega), rfl, M3.trans ((Mod.of s1).trans (m5 (mod_push nt2))), ?_⟩⟩
          exact fu_mm F4 (mod_push nt2) (rw_push (s1 _ _ hmv) (dps_ext (Same.ext s1) _ _ dm nmm) nmm nt2 rfl (dp_row (push_at (s1 _ _ hmv) nt2)))
        | no w0 r h0 =>
          obtain ⟨a, rs, ea, q, _⟩ := view_no dy3
          cases ea
          refine ⟨_, rfl, ya, _, _, _, rfl, rfl, q, atI_nat (j := 0) rfl, fit (show 3 ≤ 1000 by decide), fun tt nt => ⟨tt, mkW.map V.str, rfl, .inr (SqT.of upd_same), rfl, flat3, _, rfl, boolF (c := inV (.str w0) (mkW.map V.str)) (noW_in h0) ?_⟩⟩
          have s1 := same_new (o := .tup (mkW.map V.str)) nt
          exact ⟨rfl, M3.trans (Mod.of s1), nil_mm rfl (F3.same s1)⟩
        | fn x ps b1 =>
          obtain ⟨a, _, _, ea, q, _⟩ := view_fn dy3
          cases ea
          refine ⟨_, rfl, ya, _, _, _, rfl, rfl, q, atI_nat (j := 0) rfl, fit (show 3 ≤ 1000 by decide), fun tt nt => ⟨tt, mkW.map V.str, rfl, .inr (SqT.of upd_same), rfl, flat3, _, rfl, boolF (c := inV (.str "fn") (mkW.map V.str)) (by decide +kernel) ?_⟩⟩
          have s1 := same_new (o := .tup (mkW.map V.str)) nt
          exact ⟨rfl, M3.trans (Mod.of s1), nil_mm rfl (F3.same s1)⟩
        | ite c b1 b2 =>
          obtain ⟨a, _, _, _, ea, q, _⟩ := view_ite dy3
          cases ea
          refine ⟨_, rfl, ya, _, _, _, rfl, rfl, q, atI_nat (j := 0) rfl, fit (show 3 ≤ 1000 by decide), fun tt nt => ⟨tt, mkW.map V.str, rfl, .inr (SqT.of upd_same), rfl, flat3, _, rfl, boolF (c := inV (.str "if") (mkW.map V.str)) (by decide +kernel) ?_⟩⟩
          have s1 := same_new (o := .tup (mkW.map V.str)) nt
          exact ⟨rfl, M3.trans (Mod.of s1), nil_mm rfl (F3.same s1)⟩
        | whl c b1 =>
          obtain ⟨a, _, _, ea, q, _⟩ := view_whl dy3
          cases ea
          refine ⟨_, rfl, ya, _, _, _, rfl, rfl, q, atI_nat (j := 0) rfl, fit (show 3 ≤ 1000 by decide), fun tt nt => ⟨tt, mkW.map V.str, rfl, .inr (SqT.of upd_same), rfl, flat3, _, rfl, boolF (c := inV (.str "while") (mkW.map V.str)) (by decide +kernel) ?_⟩⟩
          have s1 := same_new (o := .tup (mkW.map V.str)) nt
          exact ⟨rfl, M3.trans (Mod.of s1), nil_mm rfl (F3.same s1)⟩
        | tms one x c b1 =>
          obtain ⟨a, _, _, ea, q, _⟩ := view_tms dy3
          cases ea
          refine ⟨_, rfl, ya, _, _, _, rfl, rfl, q, atI_nat (j := 0) rfl, fit (show 3 ≤ 1000 by decide), fun tt nt => ⟨tt, mkW.map V.str, rfl, .inr (SqT.of upd_same), rfl, flat3, _, rfl, boolF (c := inV (.str "times") (mkW.map V.str)) (by decide +kernel) ?_⟩⟩
          have s1 := same_new (o := .tup (mkW.map V.str)) nt
          exact ⟨rfl, M3.trans (Mod.of s1), nil_mm rfl (F3.same s1)⟩
      rintro σ' H4 ⟨rfl, M4, F4⟩
      have dy4 := dp_ext (hF0.ext5 M4) _ _ (show Dp K H (.ref ya) (dS s) from by
        obtain ⟨d', hd', dy'⟩ := dps_at db hy
        rw [hd] at hd'
        cases hd'
        exact dy') (noL_dS s gs)
      cases s with
      | mk w0 x r h0 =>
        obtain ⟨a, rs, ea, q, _⟩ := view_mk dy4
        cases ea
        have nw := mkW_ne h0
        refine ⟨_, rfl, ya, _, _, _, rfl, rfl, q, atI_nat (j := 0) rfl, rfl, _, rfl, strF nw.1 ?_⟩
        refine ⟨_, rfl, ya, _, _, _, rfl, rfl, q, atI_nat (j := 0) rfl, rfl, _, rfl, strF nw.2.1 ?_⟩
        refine ⟨_, rfl, ya, _, _, _, rfl, rfl, q, atI_nat (j := 0) rfl, rfl, _, rfl, strF nw.2.2.1 ?_⟩
        refine ⟨_, rfl, ya, _, _, _, rfl, rfl, q, atI_nat (j := 0) rfl, rfl, _, rfl, strF nw.2.2.2 ?_⟩
        exact fin ⟨_, _, _, rfl⟩ M4 (by rw [layS]; exact F4)
      | no w0 r h0 =>
        obtain ⟨a, rs, ea, q, _⟩ := view_no dy4
        cases ea
        have nw := noW_ne h0
        refine ⟨_, rfl, ya, _, _, _, rfl, rfl, q, atI_nat (j := 0) rfl, rfl, _, rfl, strF nw.1 ?_⟩
        refine ⟨_, rfl, ya, _, _, _, rfl, rfl, q, atI_nat (j := 0) rfl, rfl, _, rfl, strF nw.2.1 ?_⟩
        refine ⟨_, rfl, ya, _, _, _, rfl, rfl, q, atI_nat (j := 0) rfl, rfl, _, rfl, strF nw.2.2.1 ?_⟩
        refine ⟨_, rfl, ya, _, _, _, rfl, rfl, q, atI_nat (j := 0) rfl, rfl, _, rfl, strF nw.2.2.2 ?_⟩
        exact fin ⟨_, _, _, rfl⟩ M4 (by rw [layS]; exact un_mm rfl F4)
      | fn x ps b1 =>
        obtain ⟨a, pa, ba, ea, q, qp, hb⟩ := view_fn dy4
        cases ea
        cases n with
        | zero => simp only [hS] at hhs; omega
        | succ n =>
        refine ⟨_, rfl, ya, _, _, _, rfl, rfl, q, atI_nat (j := 0) rfl, rfl, _, rfl, strT rfl ?_⟩
        refine ⟨_, rfl, _, rfl, _, rfl, _, rfl, fd, ls, la, lb, lg, lm, { t with pl := t.pl ++ [(dS (.fn x ps b1), g, b)] }, .ref ya, x, ps, b1, t.pl.length, g, rfl, un_mm rfl F4, dy4, gs, by simp only [hS] at hhs; omega, by simp only [wS] at hn2; simp only [TS.n, List.length_append, List.length_cons, List.length_nil]; omega, fun H5 F5' M5 => ?_⟩
        have M45 := M4.trans M5
        have q5 := sqT_ext (F4.ext5 M5) q
        refine ⟨_, rfl, ya, _, _, _, rfl, rfl, q5, atI_nat (j := 0) rfl, rfl, _, rfl, strF (by decide +kernel) ?_⟩
        refine ⟨_, rfl, ya, _, _, _, rfl, rfl, q5, atI_nat (j := 0) rfl, rfl, _, rfl, strF (by decide +kernel) ?_⟩
        refine ⟨_, rfl, ya, _, _, _, rfl, rfl, q5, atI_nat (j := 0) rfl, rfl, _, rfl, strF (by decide +kernel) ?_⟩
        exact fin ⟨_, _, _, rfl⟩ M45 (by rw [layS]; exact F5')
      | ite c b1 b2 =>
        obtain ⟨a, u, p1, p2, ea, q, hb1, hb2⟩ := view_ite dy4
        cases ea
        rw [goodS] at gs
        cases n with
        | zero => simp only [hS] at hhs; omega
        | succ n =>
        simp only [hS] at hhs
        simp only [wS] at hn2
        refine ⟨_, rfl, ya, _, _, _, rfl, rfl, q, atI_nat (j := 0) rfl, rfl, _, rfl, strF (by decide +kernel) ?_⟩
        refine ⟨_, rfl, ya, _, _, _, rfl, rfl, q, atI_nat (j := 0) rfl, rfl, _, rfl, strT rfl ?_⟩
        refine ⟨_, rfl, _, rfl, _, rfl, _, rfl, ya, _, _, _, rfl, rfl, q, atI_nat (j := 2) rfl, _, rfl, fd, ls, la, lb, lg, lm, p1, { t with pl := t.pl ++ [(dS (.ite c b1 b2), g, b)] }, b1, "one", _, _, nD t.pl.length, nD g, b, _, rfl, rfl, .inr ⟨_, rfl, rfl⟩, .inr ⟨_, rfl, rfl⟩, un_mm rfl F4, hb1, gs.2.1, by omega, by simp only [TS.n, List.length_append, List.length_cons, List.length_nil]; omega, fun H5 F5' M5 => ?_⟩
        have q5 := sqT_ext (F4.ext5 M5) q
        have hb25 := dp_ext (F4.ext5 M5) _ _ hb2 (noL_blk gs.2.2)
        have wi := w_layB b1 t.gr.length b { t with pl := t.pl ++ [(dS (.ite c b1 b2), g, b)], gr := t.gr ++ [rowG "one" (nD t.pl.length) (nD g)] }
        refine ⟨_, rfl, _, rfl, _, rfl, _, rfl, ya, _, _, _, rfl, rfl, q5, atI_nat (j := 3) rfl, _, rfl, fd, ls, la, lb, lg, lm, p2, _, b2, "other", _, _, nD t.pl.length, nD g, b, _, rfl, rfl, .inr ⟨_, rfl, rfl⟩, .inr ⟨_, rfl, rfl⟩, F5', hb25, gs.2.2, by omega, ?_, fun H6 F6 M6 => ?_⟩
        · simp only [TS.n, List.length_append, List.length_cons, List.length_nil] at wi
          simp only [innT, TS.n]
          omega
        have q6 := sqT_ext (F5'.ext5 M6) q5
        refine ⟨_, rfl, ya, _, _, _, rfl, rfl, q6, atI_nat (j := 0) rfl, rfl, _, rfl, strF (by decide +kernel) ?_⟩
        refine ⟨_, rfl, ya, _, _, _, rfl, rfl, q6, atI_nat (j := 0) rfl, rfl, _, rfl, strF (by decide +kernel) ?_⟩
        exact fin ⟨_, _, _, rfl⟩ (M4.trans (M5.trans M6)) (by rw [layS]; exact F6)
      | whl c b1 =>
        obtain ⟨a, u, p1, ea, q, hb1⟩ := view_whl dy4
        cases ea
        rw [goodS] at gs
        cases n with
        | zero => simp only [hS] at hhs; omega
        | succ n =>
        simp only [hS] at hhs
        simp only [wS] at hn2
        refine ⟨_, rfl, ya, _, _, _, rfl, rfl, q, atI_nat (j := 0) rfl, rfl, _, rfl, strF (by decide +kernel) ?_⟩
        refine ⟨_, rfl, ya, _, _, _, rfl, rfl, q, atI_nat (j := 0) rfl, rfl, _, rfl, strF (by decide +kernel) ?_⟩
        refine ⟨_, rfl, ya, _, _, _, rfl, rfl, q, atI_nat (j := 0) rfl, rfl, _, rfl, strT rfl ?_⟩
        refine ⟨_, rfl, _, rfl, _, rfl, _, rfl, ya, _, _, _, rfl, rfl, q, atI_nat (j := 2) rfl, _, rfl, fd, ls, la, lb, lg, lm, p1, { t with pl := t.pl ++ [(dS (.whl c b1), g, b)] }, b1, "while", _, _, nD t.pl.length, nD g, b, _, rfl, rfl, .inr ⟨_, rfl, rfl⟩, .inr ⟨_, rfl, rfl⟩, un_mm rfl F4, hb1, gs.2, by omega, by simp only [TS.n, List.length_append, List.length_cons, List.length_nil]; omega, fun H5 F5' M5 => ?_⟩
        have q5 := sqT_ext (F4.ext5 M5) q
        refine ⟨_, rfl, ya, _, _, _, rfl, rfl, q5, atI_nat (j := 0) rfl, rfl, _, rfl, strF (by decide +kernel) ?_⟩
        exact fin ⟨_, _, _, rfl⟩ (M4.trans M5) (by rw [layS]; exact F5')
      | tms one x c b1 =>
        obtain ⟨a, u, p1, ea, q, hb1⟩ := view_tms dy4
        cases ea
        rw [goodS] at gs
        cases n with
        | zero => simp only [hS] at hhs; omega
        | succ n =>
        simp only [hS] at hhs
        simp only [wS] at hn2
        refine ⟨_, rfl, ya, _, _, _, rfl, rfl, q, atI_nat (j := 0) rfl, rfl, _, rfl, strF (by decide +kernel) ?_⟩
        refine ⟨_, rfl, ya, _, _, _, rfl, rfl, q, atI_nat (j := 0) rfl, rfl, _, rfl, strF (by decide +kernel) ?_⟩
        refine ⟨_, rfl, ya, _, _, _, rfl, rfl, q, atI_nat (j := 0) rfl, rfl, _, rfl, strF (by decide +kernel) ?_⟩
        refine ⟨_, rfl, ya, _, _, _, rfl, rfl, q, atI_nat (j := 0) rfl, rfl, _, rfl, strT rfl ?_⟩
        have F40 := un_mm rfl F4
        obtain ⟨mv, hmv, dm, nmm⟩ := F40.mm
        have lmv := dps_len dm
        obtain ⟨gv, hgv, dg, ng⟩ := F40.gr
        have lgv := dps_len dg
        refine ⟨fun σ' H5 => σ' = [some (.ref fd), some (.ref pb), some (.int (g : Int)), some (.int (b : Int)), some (.ref ya), some (.int (t.pl.length : Int)), y6] ∧ Mod (F5 ls la lb lg lm) H4 H5 ∧ FoundAt K H5 fd ls la lb lg lm { t with pl := t.pl ++ [(dS (.tms one x c b1), g, b)], mm := t.mm ++ [rowM x t.pl.length t.gr.length] }, ?_, ?_⟩
        · refine ⟨_, rfl, fd, _, rfl, gf_mm F40.di, .inl ⟨rfl, _, SqL.of hmv⟩, _, rfl, ya, _, _, _, rfl, rfl, q, atI_nat (j := 2) rfl, _, rfl, _, rfl, fd, _, rfl, gf_gr F40.di, lg, _, rfl, .inl (SqL.of hgv), fit (show 3 ≤ 1000 by decide), fun t2 nt2 => ⟨lm, _, _, rfl, rfl, same_new nt2 _ _ hmv, small1000 (by have z : t.mm.length = mv.length := lmv.symm; omega), rfl, m5 (mod_push nt2), ?_⟩⟩
          refine fu_mm F40 (mod_push nt2) (rw_push hmv dm nmm nt2 rfl (dp_row ?_))
          rw [push_at hmv nt2, lgv]
        rintro σ' H5 ⟨rfl, M5, F50⟩
        have q5 := sqT_ext (F4.ext5 M5) q
        have hb15 := dp_ext (F4.ext5 M5) _ _ hb1 (noL_blk gs.2.2)
        obtain ⟨gv5, hgv5, dg5, ng5⟩ := F50.gr
        have lgv5 := dps_len dg5
        refine ⟨_, rfl, ?_⟩
        cases one with
        | false =>
          refine ⟨_, rfl, ya, _, _, _, rfl, rfl, q5, atI_nat (j := 1) rfl, rfl, _, rfl, strF (by decide +kernel) ?_⟩
          refine ⟨_, rfl, _, rfl, _, rfl, _, rfl, ya, _, _, _, rfl, rfl, q5, atI_nat (j := 4) rfl, _, rfl, fd, ls, la, lb, lg, lm, p1, _, b1, "times", _, _, nD t.pl.length, nD g, b, _, rfl, rfl, .inr ⟨_, rfl, rfl⟩, .inr ⟨_, rfl, rfl⟩, F50, hb15, gs.2.2, by omega, by simp only [TS.n, List.length_append, List.length_cons, List.length_nil]; omega, fun H6 F6 M6 => ?_⟩
          exact fin ⟨_, _, _, rfl⟩ (M4.trans (M5.trans M6)) (by rw [layS]; exact F6)
        | true =>
          refine ⟨_, rfl, ya, _, _, _, rfl, rfl, q5, atI_nat (j := 1) rfl, rfl, _, rfl, strT rfl ?_⟩
          refine ⟨_, rfl, fd, _, rfl, gf_gr F50.di, lg, _, rfl, .inl (SqL.of hgv5), ?_⟩
          refine ⟨_, rfl, fd, _, rfl, gf_gr F50.di, .inl ⟨rfl, _, SqL.of hgv5⟩, _, rfl, _, rfl, fit (show 3 ≤ 1000 by decide), fun t3 nt3 => ⟨lg, _, _, rfl, rfl, same_new nt3 _ _ hgv5, small1000 (by have z : t.gr.length = gv5.length := lgv5.symm; omega), ?_⟩⟩
          have mo6 : Mod [lg] H5 (L2.upd (L2.upd H5 t3 (.tup [.str "head", .int (t.pl.length : Int), .int (g : Int)])) lg (.lst (gv5 ++ [.ref t3]))) := mod_push nt3
          have F60 := fu_gr F50 mo6 (rw_push (d := rowG "head" (nD t.pl.length) (nD g)) hgv5 dg5 ng5 nt3 rfl (.tup (SqT.of (push_at hgv5 nt3)) (.cons (.str _) (.cons (.int _) (.cons (.int _) .nil)))))
          have e6 := F50.ext5 (m4 mo6)
          refine ⟨_, rfl, _, rfl, _, rfl, _, rfl, ya, _, _, _, rfl, rfl, sqT_ext e6 q5, atI_nat (j := 4) rfl, _, rfl, fd, ls, la, lb, lg, lm, p1, _, b1, "times", _, _, nD t.pl.length, nD t.gr.length, b, _, rfl, rfl, .inr ⟨_, rfl, rfl⟩, .inr ⟨t.gr.length, by rw [lgv5], rfl⟩, F60, dp_ext e6 _ _ hb15 (noL_blk gs.2.2), gs.2.2, by omega, by simp only [TS.n, List.length_append, List.length_cons, List.length_nil]; omega, fun H6 F6 M6 => ?_⟩
          refine fin ⟨_, _, _, rfl⟩ (M4.trans (M5.trans ((m4 mo6).trans M6))) ?_
          rw [layS]
          have z : innT "times" (nD t.pl.length) (nD t.gr.length) b1 b { t with pl := t.pl ++ [(dS (.tms true x c b1), g, b)], mm := t.mm ++ [rowM x t.pl.length t.gr.length], gr := t.gr ++ [rowG "head" (nD t.pl.length) (nD g)] } = layB b1 (t.gr.length + 1) b { t with pl := t.pl ++ [(dS (.tms true x c b1), g, b)], mm := t.mm ++ [rowM x t.pl.length t.gr.length], gr := t.gr ++ [rowG "head" (nD t.pl.length) (nD g)] ++ [rowG "times" (nD t.pl.length) (nD t.gr.length)] } := by
            unfold innT
            simp only [List.length_append, List.length_cons, List.length_nil]
          rw [z] at F6
          exact F6
    · rintro σ H1 ⟨⟨y4, y5, y6, rfl⟩, M1, F1⟩
      refine k H1 ?_ M1
      rw [lbv, dB_stms, List.length_map, List.take_length] at F1
      rw [layB_stms]
      exact F1
end
end K03
set_option Elab.async false
set_option linter.all false
set_option maxRecDepth 100000
set_option maxHeartbeats 4000000
namespace K03
open PySem PySem.Spec PyProof.Rows L2 Fb
def t11 : Fb.TS := ⟨[], [rowB .none []], [rowG "body" .none .none], []⟩
def okP (b : Blk) : Prop := goodB b ∧ nB b ≤ 60 ∧ PyData.depthAll (dB b) ≤ 18
def spLaid (K : PySem.W.Frag) : Sp := fun vs H Q _ => vs = [] ∧ ∀ fd ls la lb lg lm H', FoundAt K H' fd ls la lb lg lm t11 → Same H H' → (∀ x ∈ F5 ls la lb lg lm, H x = none) → Q (.ref fd) H'
def spDue (K : PySem.W.Frag) : Sp := fun vs H Q _ => ∃ (v : V) (b : Blk), vs = [v] ∧ Dp K H v (.tuple (dB b)) ∧ okP b ∧ ∀ fd ls la lb lg lm H', FoundAt K H' fd ls la lb lg lm (final b) → Same H H' → Q (.ref fd) H'
theorem okP.w {b : Blk} (h : okP b) : wB b ≤ 540 := by
  have := w9B b h.1
  have := h.2.1
  omega
theorem okP.h {b : Blk} (h : okP b) : hB b ≤ 9 := by
  have := hB_dep b
  have := h.2.2
  omega
theorem okP.rows {b : Blk} (h : okP b) : RowsOk (final b) := by
  refine rowsB b 0 0 _ h.1 (by decide) ?_ ⟨fun d z => ?_, (fun d z => by cases z), fun d z => ?_⟩
  · have := h.w
    simp only [TS.n, List.length_cons, List.length_nil]
    omega
  · rw [List.mem_singleton.mp z]
    exact sh_rowG (by decide +kernel) (sh_none _ _ (by decide)) (sh_none _ _ (by decide))
  · rw [List.mem_singleton.mp z]
    exact sh_rowB (sh_none _ _ (by decide)) (by decide) (fun p hp => by cases hp)
theorem okP.n {b : Blk} (h : okP b) : (final b).n ≤ 542 := by
  have h1 := w_layB b 0 0 ⟨[], [rowB .none []], [rowG "body" .none .none], []⟩
  have := h.w
  have e : TS.n ⟨[], [rowB .none []], [rowG "body" .none .none], []⟩ = 2 := rfl
  rw [e] at h1
  exact Nat.le_trans h1 (by omega)
section
variable {P : Program} {w : World} {K : PySem.W.Frag} {mg : Str → Option Value} {base : Heap} {CB CP CT : Addr}
theorem scLaid : FnScope [] [] (defScope s_l_laid) := ⟨rfl, rfl, rfl, by decide +kernel, rfl, by decide +kernel, by decide +kernel⟩
theorem ok_laid (T : Top K mg CB CP CT) : C8.Cal P w K mg base 1 "_law_laid" (spLaid K) [] := by
  obtain ⟨f, fd0, F, gm⟩ := T.h_l_laid
  refine ⟨f, fd0, [], [], ?_, gm, F.kp, F.binds (fun _ _ _ _ _ _ us hl => match us, hl with | [], _ => rfl), .nil⟩
  refine F.ok scLaid (fun vs H Q E h => ?_) (fun cdv A outer s H vs Q E hr h => ?_)
  · rw [h.1]
    rfl
  · obtain ⟨rfl, k⟩ := h
    refine ⟨_, (pss_one (ps_ret (pe_disp (pps_cons pe_str (pe_lst pa_nil) (pps_cons pe_str (pe_lst pa_nil) (pps_cons pe_str (pe_lst (pa_cons (pe_tup (pa_cons pe_non (pa_cons (pe_tup pa_nil) pa_nil))) pa_nil)) (pps_cons pe_str (pe_lst (pa_cons (pe_tup (pa_cons pe_str (pa_cons pe_non (pa_cons pe_non pa_nil)))) pa_nil)) (pps_cons pe_str (pe_lst pa_nil) pps_nil))))) (by rfl) (by rfl) (fun z => by cases z) (by decide)))), ?_⟩
    intro fd nfd
    refine ⟨fit (by decide), fun ls nls => ⟨fit (by decide), fun la nla => ⟨Nat.zero_le _, fun t0 nt0 => ⟨fit (show 2 ≤ 1000 by decide), fun t1 nt1 => ⟨fit (show 1 ≤ 1000 by decide), fun lb nlb => ⟨fit (show 3 ≤ 1000 by decide), fun t2 nt2 => ⟨fit (show 1 ≤ 1000 by decide), fun lg nlg => ⟨fit (by decide), fun lm nlm => ?_⟩⟩⟩⟩⟩⟩⟩⟩
    have s1 := same_new (o := .dK []) nfd
    have s2 := same_new (o := .lst []) nls
    have s3 := same_new (o := .lst []) nla
    have s4 := same_new (o := .tup []) nt0
    have s5 := same_new (o := .tup [.non, .ref t0]) nt1
    have s6 := same_new (o := .lst [.ref t1]) nlb
    have s7 := same_new (o := .tup [.str "body", .non, .non]) nt2
    have s8 := same_new (o := .lst [.ref t2]) nlg
    have s9 := same_new (o := .lst []) nlm
    have c89 := s8.trans s9
    have c79 := s7.trans c89
    have c69 := s6.trans c79
    have c59 := s5.trans c69
    have c49 := s4.trans c59
    have c39 := s3.trans c49
    have c29 := s2.trans c39
    have hfd := c29 fd _ upd_same
    have hls := c39 ls _ upd_same
    have hla := c49 la _ upd_same
    have ht0 := c59 t0 _ upd_same
    have ht1 := c69 t1 _ upd_same
    have hlb := c79 lb _ upd_same
    have ht2 := c89 t2 _ upd_same
    have hlg := s9 lg _ upd_same
    refine ⟨hfd, fD ls la lb lg lm, rfl, by show 5 ≤ 15; decide, ?_⟩
    rw [merge_f]
    have a1 : ls ≠ fd := ne_of hls hfd (by intro z; cases z)
    have a2 : la ≠ fd := ne_of hla hfd (by intro z; cases z)
    have a3 : lb ≠ fd := ne_of hlb hfd (by intro z; cases z)
    have a4 : lg ≠ fd := ne_of hlg hfd (by intro z; cases z)
    have a5 : lm ≠ fd := (ne_of_none ((s2.trans (s3.trans (s4.trans (s5.trans (s6.trans (s7.trans s8)))))) fd _ upd_same) nlm).symm
    have b0 : t0 ≠ fd := ne_of ht0 hfd (by intro z; cases z)
    have b1 : t1 ≠ fd := ne_of ht1 hfd (by intro z; cases z)
    have b2 : t2 ≠ fd := ne_of ht2 hfd (by intro z; cases z)
    refine k fd ls la lb lg lm _ ⟨upd_same, ⟨[], by rw [upd_ne a1]; exact hls, .nil, rfl⟩, ⟨[], by rw [upd_ne a2]; exact hla, .nil, rfl⟩, ⟨[.ref t1], by rw [upd_ne a3]; exact hlb, .cons (.tup (SqT.of (xs := [.non, .ref t0]) (by rw [upd_ne b1]; exact ht1)) (.cons .non (.cons (.tup (SqT.of (xs := []) (by rw [upd_ne b0]; exact ht0)) .nil) .nil))) .nil, rfl⟩, ⟨[.ref t2], by rw [upd_ne a4]; exact hlg, .cons (.tup (SqT.of (xs := [.str "body", .non, .non]) (by rw [upd_ne b2]; exact ht2)) (.cons (.str _) (.cons .non (.cons .non .nil)))) .nil, rfl⟩, ⟨[], by rw [upd_ne a5]; exact upd_same, .nil, rfl⟩, ?_⟩ ?_ ?_
    · simp only [List.nodup_cons, List.mem_cons, List.not_mem_nil, or_false, not_or, List.nodup_nil, and_true, not_false_eq_true]
      exact ⟨⟨ne_of_none (upd_same (H := L2.upd H fd (.dK [])) (a := ls) (o := .lst [])) nla, ne_of_none ((s3.trans (s4.trans s5)) ls _ upd_same) nlb, ne_of_none ((s3.trans (s4.trans (s5.trans (s6.trans s7)))) ls _ upd_same) nlg, ne_of_none ((s3.trans (s4.trans (s5.trans (s6.trans (s7.trans s8))))) ls _ upd_same) nlm⟩, ⟨ne_of_none ((s4.trans s5) la _ upd_same) nlb, ne_of_none ((s4.trans (s5.trans (s6.trans s7))) la _ upd_same) nlg, ne_of_none ((s4.trans (s5.trans (s6.trans (s7.trans s8)))) la _ upd_same) nlm⟩, ⟨ne_of_none (s7 lb _ upd_same) nlg, ne_of_none ((s7.trans s8) lb _ upd_same) nlm⟩, ne_of_none upd_same nlm⟩
    · intro b o e
      rw [upd_ne (ne_of_none e nfd)]
      exact (s1.trans c29) b o e
    · intro x hx
      simp only [List.mem_cons, List.not_mem_nil, or_false] at hx
      rcases hx with e | e | e | e | e <;> subst e
      · exact s1.free nls
      · exact (s1.trans s2).free nla
      · exact (s1.trans (s2.trans (s3.trans (s4.trans s5)))).free nlb
      · exact (s1.trans (s2.trans (s3.trans (s4.trans (s5.trans (s6.trans s7)))))).free nlg
      · exact (s1.trans (s2.trans (s3.trans (s4.trans (s5.trans (s6.trans (s7.trans s8))))))).free nlm
theorem lays (T : Top K mg CB CP CT) : ∀ n : Nat, C8.Cal P w K mg base (2 + 3 * n) "_law_lay" (spLay K n) []
  | 0 => ok_lay T 0 (no_inner T _) (no_layfn T _)
  | n + 1 => by
    have h1 := ok_inner T n (lays T n)
    have h2 := ok_layfn T n h1
    refine ok_lay T (n + 1) ?_ ?_
    · rw [show 0 + 3 * (n + 1) = 3 + 3 * n by omega]
      exact h1
    · rw [show 1 + 3 * (n + 1) = 4 + 3 * n by omega]
      exact h2
theorem scDue : FnScope ["_law_program", "_law_found"] ["_law_program"] (defScope s_l_due) := ⟨rfl, rfl, rfl, by decide +kernel, rfl, by decide +kernel, by decide +kernel⟩
theorem ok_due (T : Top K mg CB CP CT) : C8.Cal P w K mg base 30 "_law_due" (spDue K) [] := by
  have C_law_laid : C8.Cal P w K mg base 1 "_law_laid" (spLaid K) [] := ok_laid T
  have C_law_lay : C8.Cal P w K mg base 29 "_law_lay" (spLay K 9) [] := lays T 9
  obtain ⟨f, fd0, F, gm⟩ := T.h_l_due
  refine ⟨f, fd0, ["_law_program"], [], ?_, gm, F.kp, F.binds (fun _ _ _ _ _ _ us hl => match us, hl with | [_], _ => rfl), .nil⟩
  refine F.ok scDue (fun vs H Q E h => ?_) (fun cdv A outer s H vs Q E hr h => ?_)
  · obtain ⟨v, b, rfl, _⟩ := h
    rfl
  · obtain ⟨v, b, rfl, hd, ok, k⟩ := h
    obtain ⟨pb, bv, rfl, qb, db⟩ := view_tup hd
    refine ⟨_, (pss_cons (ps_set (i := 1) scDue.nd rfl (Or.inl rfl) (Fb.pe_c0 C_law_laid hr (by omega) rfl))
  (pss_cons (ps_expr (C8.pe_c C_law_lay hr (by omega) rfl (pa_cons (pv 1) (pa_cons (pv 0) (pa_cons pe_int (pa_cons pe_int pa_nil))))))
  (pss_one (ps_ret (pv 1))))), ?_⟩
    refine ⟨rfl, fun fd ls la lb lg lm H1 F1 s1 fr => ?_⟩
    refine ⟨_, rfl, _, rfl, fd, ls, la, lb, lg, lm, pb, t11, b, 0, 0, 0, 0, rfl, rfl, rfl, F1, dp_ext (Same.ext s1) _ _ hd (noL_blk ok.1), ok.1, ok.h, ?_, fun H2 F2 M2 => ?_⟩
    · have := ok.w
      show 2 + wB b ≤ 900
      omega
    · refine ⟨_, rfl, k fd ls la lb lg lm H2 F2 fun c o e => M2 c o (s1 c o e) fun hc => ?_⟩
      rw [fr c hc] at e
      cases e
end
end K03
set_option Elab.async false
set_option linter.all false
set_option maxRecDepth 100000
set_option maxHeartbeats 4000000
namespace K03
open PySem PySem.Spec PyProof.Rows L2 Fb
abbrev sLaw : Stmt := top 24
def spRowsOf (K : PySem.W.Frag) : Sp := fun vs H Q _ => ∃ (v : V) (b : Blk), vs = [v] ∧ Dp K H v (.tuple (dB b)) ∧ okP b ∧ ∀ l H', Rw K H' l (final b).bd → H l = none → Same H H' → Q (.ref l) H'
def spStms (K : PySem.W.Frag) : Sp := fun vs H Q _ => ∃ (v : V) (b : Blk), vs = [v] ∧ Dp K H v (.tuple (dB b)) ∧ okP b ∧ ∀ l H', Rw K H' l ((final b).pl.map (·.1)) → H l = none → Same H H' → Q (.ref l) H'
def spBodyAt (K : PySem.W.Frag) : Sp := fun vs H Q _ => ∃ (v : V) (b : Blk) (k : Nat) (e : PyData × Nat × Nat) (ki : Int), vs = [v, .int ki] ∧ ki = (k : Int) ∧ Dp K H v (.tuple (dB b)) ∧ okP b ∧ (final b).pl[k]? = some e ∧ ∀ H', Same H H' → Q (.int (e.2.2 : Int)) H'
def spRight (K : PySem.W.Frag) : Sp := fun vs H Q _ => ∃ (v : V) (b : Blk), vs = [v] ∧ Dp K H v (.tuple (dB b)) ∧ okP b ∧ ∀ H', Same H H' → Q (.bl true) H'
def spLaw (K : PySem.W.Frag) : Sp := fun vs H Q _ => ∃ (a : Addr) (ns : List Int), vs = [.ref a] ∧ SqL K H a (ns.map V.int) ∧ ns.length ≤ 63 ∧ ∀ H', Q (.bl true) H'
/-- programs, each let be what it may -/
def PAll (K : PySem.W.Frag) (H : Hp) (vs : List V) : Prop := ∀ x ∈ vs, ∃ b, Dp K H x (.tuple (dB b)) ∧ okP b
theorem PAll.ext {K : PySem.W.Frag} {H H' : Hp} {vs : List V} (h : PAll K H vs) (e : Ext H H') : PAll K H' vs := fun x hx => by
  obtain ⟨b, d, o⟩ := h x hx
  exact ⟨b, dp_ext e _ _ d (noL_blk o.1), o⟩
theorem mem_cut {vs : List V} {lo hi : Option Int} {x : V} (h : x ∈ cutV vs lo hi) : x ∈ vs := List.mem_of_mem_drop (List.mem_of_mem_take h)
theorem pl_at {K : PySem.W.Frag} {CP : Addr} {H : Hp} : ∀ {vs : List V} {es : List (PyData × Nat × Nat)} {i : Nat} {v : V}, PlAll K CP H vs es → vs[i]? = some v → ∃ e, es[i]? = some e ∧ PlAt K CP H v e
  | _, _, 0, _, .cons a _, h => ⟨_, rfl, by cases h; exact a⟩
  | _, _, i + 1, _, .cons _ t, h => pl_at (i := i) t h
  | _, _, _, _, .nil, h => by cases h
theorem pl_nol {K : PySem.W.Frag} {CP : Addr} {H : Hp} : ∀ {vs : List V} {es : List (PyData × Nat × Nat)}, PlAll K CP H vs es → ∀ e ∈ es, noL e.1 = true
  | _, _, .nil, _, h => by cases h
  | _, _, .cons ⟨_, _, _, _, _, _, n⟩ t, e, h => by
    rcases List.mem_cons.mp h with q | q
    · rw [q]; exact n
    · exact pl_nol t e q
theorem nol_take {es : List (PyData × Nat × Nat)} (h : ∀ e ∈ es, noL e.1 = true) (i : Nat) : noLs ((es.take i).map (·.1)) = true := noLs_all fun d z => by
  obtain ⟨e, he, rfl⟩ := List.mem_map.mp z
  exact h e (List.mem_of_mem_take he)
theorem okP.pl {b : Blk} (h : okP b) : PlOk (final b) := by
  refine plB b 0 0 _ h.1 h.2.1 (by have := h.2.2; omega) (by decide) ?_ (fun e z => by cases z)
  have := h.w
  simp only [TS.n, List.length_cons, List.length_nil]
  omega
theorem okP.pln {b : Blk} (h : okP b) : (final b).pl.length ≤ 60 := by
  have z := lenB b 0 0 ⟨[], [rowB .none []], [rowG "body" .none .none], []⟩
  have := h.2.1
  show (layB b 0 0 ⟨[], [rowB .none []], [rowG "body" .none .none], []⟩).pl.length ≤ 60
  rw [z]
  simp only [List.length_nil]
  omega
section
variable {P : Program} {w : World} {K : PySem.W.Frag} {mg : Str → Option Value} {base : Heap} {CB CP CT : Addr}
theorem scFn : FnScope ["program"] ["program"] (defScope s_bodies) := ⟨rfl, rfl, rfl, by decide +kernel, rfl, by decide +kernel, by decide +kernel⟩
theorem ok_fn (T : Top K mg CB CP CT) : C8.Cal P w K mg base 6 "bodies" (spRowsOf K) [] := by
  have M_Tree : C8.Mak P w K mg base 4 "Tree" CT (spTInit K CP CT) [] := mk_tree T
  obtain ⟨f, fd0, F, gm⟩ := T.h_bodies
  refine ⟨f, fd0, ["program"], [], ?_, gm, F.kp, F.binds (fun _ _ _ _ _ _ us hl => match us, hl with | [_], _ => rfl), .nil⟩
  refine F.ok scFn (fun vs H Q E h => ?_) (fun cdv A outer s H vs Q E hr h => ?_)
  · obtain ⟨v, b, rfl, _⟩ := h
    rfl
  · obtain ⟨v, b, rfl, hd, ok, k⟩ := h
    obtain ⟨pb, bv, rfl, qb, db⟩ := view_tup hd
    have w0 := ok.w
    refine ⟨_, (pss_one (ps_ret (pe_fld (C8.pe_mk M_Tree hr (by omega) rfl (pa_cons (pv 0) pa_nil)) rfl))), ?_⟩
    refine ⟨_, rfl, fun x dx nx ndx ne => ?_⟩
    have s1 : Same H (L2.upd (L2.upd H dx (.own x)) x (.ins CT dx [])) := (same_new ndx).trans (same_new (show (L2.upd H dx (.own x)) x = none by rw [upd_ne ne.symm]; exact nx))
    refine ⟨x, dx, pb, b, rfl, upd_same, dp_ext (Same.ext s1) _ _ hd (noL_blk ok.1), ok.1, by omega, fun H' lp lb lg lm T' M' fr => ⟨rfl, ?_⟩⟩
    obtain ⟨dT, hself⟩ := T'.ob
    refine ⟨x, CT, dT, _, _, rfl, hself, T.clT, T.nT_body_rows, tF_bodies, k lb H' T'.bd (s1.free (fr lb (by simp))) fun c o e => M' c o (s1 c o e) ?_⟩
    simpa using ne_of_none e nx
theorem scStms : FnScope ["program", "place"] ["program"] (defScope s_statements) := ⟨rfl, rfl, rfl, by decide +kernel, rfl, by decide +kernel, by decide +kernel⟩
theorem ok_stms (T : Top K mg CB CP CT) : C8.Cal P w K mg base 6 "statements" (spStms K) [] := by
  have M_Tree : C8.Mak P w K mg base 4 "Tree" CT (spTInit K CP CT) [] := mk_tree T
  obtain ⟨f, fd0, F, gm⟩ := T.h_statements
  refine ⟨f, fd0, ["program"], [], ?_, gm, F.kp, F.binds (fun _ _ _ _ _ _ us hl => match us, hl with | [_], _ => rfl), .nil⟩
  refine F.ok scStms (fun vs H Q E h => ?_) (fun cdv A outer s H vs Q E hr h => ?_)
  · obtain ⟨v, b, rfl, _⟩ := h
    rfl
  · obtain ⟨v, b, rfl, hd, ok, k⟩ := h
    obtain ⟨pb, bv, rfl, qb, db⟩ := view_tup hd
    have w0 := ok.w
    have w60 := ok.pln
    refine ⟨_, (pss_one (ps_ret (pe_lc (own := [("place", 1)]) rfl scStms.nd (pi_list (pe_fld (C8.pe_mk M_Tree hr (by omega) rfl (pa_cons (pv 0) pa_nil)) rfl)) (blkOk_by (own := [("place", 1)]) (N := ["program", "place"]) (sc := defScope s_statements) (by decide +kernel)) (fun _ _ _ _ _ => (pg_name (i := 1) scStms.nd rfl (Or.inl rfl))) (fun _ _ _ _ _ => pts_nil) (fun _ _ _ _ _ => (Fb.pe_fldK K rfl (pv 1) rfl))))), ?_⟩
    refine ⟨_, rfl, fun x dx nx ndx ne => ?_⟩
    have s1 : Same H (L2.upd (L2.upd H dx (.own x)) x (.ins CT dx [])) := (same_new ndx).trans (same_new (show (L2.upd H dx (.own x)) x = none by rw [upd_ne ne.symm]; exact nx))
    refine ⟨x, dx, pb, b, rfl, upd_same, dp_ext (Same.ext s1) _ _ hd (noL_blk ok.1), ok.1, by omega, fun H' lp lb lg lm T' M' fr => ⟨rfl, ?_⟩⟩
    obtain ⟨dT, hself⟩ := T'.ob
    obtain ⟨pvs, hlp, pla⟩ := T'.pl
    have sH : Same H H' := fun c o e => M' c o (s1 c o e) (by simpa using ne_of_none e nx)
    have nol := pl_nol pla
    have lpv := pla.len
    refine ⟨x, CT, dT, _, _, rfl, hself, T.clT, T.nT_places, tF_places, lp, rfl, ⟨_, SqL.of hlp⟩, fun D nQ => lc_it (walk_list (K := K) (xs := pvs)) (fun i H2 => Same H' H2 ∧ ∃ us, H2 D = some (.lst us) ∧ DpAll K H2 us (((final b).pl.take i).map (·.1))) ⟨same_new nQ, [], upd_same, .nil⟩ (fun i H2 _ z => SqL.of (z.1 _ _ hlp)) ?_ ?_⟩
    · rintro i y H2 H3 hi ⟨z1, us, hD, du⟩ ⟨rfl, hy⟩
      obtain ⟨e, he, q, dq, sp, rfl, hq, dsp, nsp⟩ := pl_at (pla.ext (Same.ext z1)) hy
      have lu := dps_len du
      rw [List.length_map, List.length_take] at lu
      refine ⟨rfl, _, rfl, q, CP, dq, _, _, rfl, hq, T.clP, T.nP_statement, pF_statement, us, hD, small1000 (by omega), fun c o ec => ?_, us ++ [.ref sp], upd_same, ?_⟩
      · rw [upd_ne (ne_of_none ec nQ)]
        exact z1 c o ec
      · rw [take_snoc he, List.map_append]
        have ex := ext_put (o := .lst (us ++ [.ref sp])) hD
        exact dps_snoc (dps_ext ex _ _ du (nol_take nol i)) (dp_ext ex _ _ dsp nsp)
    · rintro H2 ⟨z1, us, hD, du⟩
      rw [lpv, List.take_length] at du
      refine k D H2 ⟨us, hD, du, ?_⟩ (sH.free nQ) (sH.trans z1)
      have z := nol_take nol (final b).pl.length
      rw [List.take_length] at z
      exact z
theorem scBodyAt : FnScope ["program", "k"] ["program", "k"] (defScope s_body_at) := ⟨rfl, rfl, rfl, by decide +kernel, rfl, by decide +kernel, by decide +kernel⟩
theorem ok_bodyat (T : Top K mg CB CP CT) : C8.Cal P w K mg base 6 "body_at" (spBodyAt K) [] := by
  have M_Tree : C8.Mak P w K mg base 4 "Tree" CT (spTInit K CP CT) [] := mk_tree T
  obtain ⟨f, fd0, F, gm⟩ := T.h_body_at
  refine ⟨f, fd0, ["program", "k"], [], ?_, gm, F.kp, F.binds (fun _ _ _ _ _ _ us hl => match us, hl with | [_, _], _ => rfl), .nil⟩
  refine F.ok scBodyAt (fun vs H Q E h => ?_) (fun cdv A outer s H vs Q E hr h => ?_)
  · obtain ⟨v, b, k0, e, ki, rfl, _⟩ := h
    rfl
  · obtain ⟨v, b, k0, e, ki, rfl, rfl, hd, ok, he, k⟩ := h
    obtain ⟨pb, bv, rfl, qb, db⟩ := view_tup hd
    have w0 := ok.w
    refine ⟨_, (pss_one (ps_ret (pe_fld (pe_ix ix_list (pe_fld (C8.pe_mk M_Tree hr (by omega) rfl (pa_cons (pv 0) pa_nil)) rfl) (pv 1) (fun _ _ => rfl)) rfl))), ?_⟩
    refine ⟨_, rfl, fun x dx nx ndx ne => ?_⟩
    have s1 : Same H (L2.upd (L2.upd H dx (.own x)) x (.ins CT dx [])) := (same_new ndx).trans (same_new (show (L2.upd H dx (.own x)) x = none by rw [upd_ne ne.symm]; exact nx))
    refine ⟨x, dx, pb, b, rfl, upd_same, dp_ext (Same.ext s1) _ _ hd (noL_blk ok.1), ok.1, by omega, fun H' lp lb lg lm T' M' fr => ⟨rfl, ?_⟩⟩
    obtain ⟨dT, hself⟩ := T'.ob
    obtain ⟨pvs, hlp, pla⟩ := T'.pl
    have sH : Same H H' := fun c o e => M' c o (s1 c o e) (by simpa using ne_of_none e nx)
    have lpv := pla.len
    have hk : k0 < pvs.length := by
      rw [lpv]
      exact (List.getElem?_eq_some_iff.mp he).1
    obtain ⟨e', he', q, dq, sp, ev, hq, dsp, nsp⟩ := pl_at pla (List.getElem?_eq_getElem hk)
    rw [he] at he'
    cases he'
    exact ⟨x, CT, dT, _, _, rfl, hself, T.clT, T.nT_places, tF_places, _, rfl, lp, pvs, _, _, rfl, rfl, SqL.of hlp, atI_nat (List.getElem?_eq_getElem hk), q, CP, dq, _, _, ev, hq, T.clP, T.nP_body, pF_body, k H' sH⟩
theorem scRight : FnScope ["_law_program", "_law_due_here", "_law_told", "_law_some", "_law_k"] ["_law_program"] (defScope s_l_right) := ⟨rfl, rfl, rfl, by decide +kernel, rfl, by decide +kernel, by decide +kernel⟩
theorem ok_right (T : Top K mg CB CP CT) : CalG P w K mg base 31 "_law_right" (spRight K) := by
  have C_statements : C8.Cal P w K mg base 6 "statements" (spStms K) [] := ok_stms T
  have C_bodies : C8.Cal P w K mg base 6 "bodies" (spRowsOf K) [] := ok_fn T
  have C_body_at : C8.Cal P w K mg base 6 "body_at" (spBodyAt K) [] := ok_bodyat T
  have C_law_due : C8.Cal P w K mg base 30 "_law_due" (spDue K) [] := ok_due T
  obtain ⟨f, fd0, F, gm⟩ := T.h_l_right
  refine ⟨f, fd0, ["_law_program"], ?_, gm, F.kp, F.binds (fun _ _ _ _ _ _ us hl => match us, hl with | [_], _ => rfl)⟩
  refine ok_G F scRight (fun vs H Q E h => ?_) (fun cdv A outer s H vs Q E gd hr h => ?_)
  · obtain ⟨v, b, rfl, _⟩ := h
    rfl
  · obtain ⟨v, b, rfl, dv, ok, k⟩ := h
    have hu := hu_of hr
    have hrow := ok.rows
    have hnn := ok.n
    have hpl := ok.pl
    have w60 := ok.pln
    have sh1 : Sh (.list ((final b).pl.map (·.1))) 6000000 41 := sh_stms hpl w60
    have sh2 : Sh (.list (final b).bd) 1000000 3 := sh_rows hrow.2.2 (by simp only [TS.n] at hnn; omega)
    have sh3 : Sh (.list ((final b).pl.map fun e => nD e.2.2)) 1000 1 := sh_nums hpl w60
    have sh4 : Sh (.list [.list ((final b).pl.map (·.1)), .list (final b).bd]) 8000000 42 := by
      have z := sh_lst (sha_cons sh1 (sha_cons (sh2.mono (Nat.le_refl _) (by decide : 3 ≤ 41)) (sha_nil 0 41)))
      exact z.mono (by omega) (by omega)
    refine ⟨_, (pss_cons (ps_set (i := 1) scRight.nd rfl (Or.inl rfl) (C8.pe_c C_law_due hr (by omega) rfl (pa_cons (pv 0) pa_nil)))
  (pss_cons (ps_set (i := 2) scRight.nd rfl (Or.inl rfl) (pe_lst (pa_cons (C8.pe_c C_statements hr (by omega) rfl (pa_cons (pv 0) pa_nil)) (pa_cons (C8.pe_c C_bodies hr (by omega) rfl (pa_cons (pv 0) pa_nil)) pa_nil))))
  (pss_cons (ps_if (pt_cmpR op_ne (pe_callB (Fb.call_reprD gd hr.units) (by rfl) T.n_repr (by decide +kernel) (pa_cons (pv 2) pa_nil)) (pe_callB (Fb.call_reprD gd hr.units) (by rfl) T.n_repr (by decide +kernel) (pa_cons (pe_lst (pa_cons (pe_dget hu (pv 1) pe_str (fun _ _ => rfl)) (pa_cons (pe_dget hu (pv 1) pe_str (fun _ _ => rfl)) pa_nil))) pa_nil)) (nomark _))
    (pss_one (ps_ret pe_bl))
    pss_nil)
  (pss_cons (ps_for PassesOwn.never rfl (pi_list (pv 2)) (pg_name (i := 3) scRight.nd rfl (Or.inl rfl))
    (pss_one (ps_expr (pe_bm0 PySem.F.plainAttrs_list PySem.F.slot_list_clear PySem.F.type_list_clear mt_clear (pv 3)))))
  (pss_one (ps_ret (pe_cmpR op_eq (pe_callB (Fb.call_reprD gd hr.units) (by rfl) T.n_repr (by decide +kernel) (pa_cons (pe_lc (own := [("_law_k", 4)]) rfl scRight.nd (pi_range1 rfl T.n_range (pa_cons (pe_callB call_len_seq (by rfl) T.n_len (by decide +kernel) (pa_cons (pe_dget hu (pv 1) pe_str (fun _ _ => rfl)) pa_nil)) pa_nil)) (blkOk_by (own := [("_law_k", 4)]) (N := ["_law_program", "_law_due_here", "_law_told", "_law_some", "_law_k"]) (sc := defScope s_l_right) (by decide +kernel)) (fun _ _ _ _ _ => (pg_name (i := 4) scRight.nd rfl (Or.inl rfl))) (fun _ _ _ _ _ => pts_nil) (fun _ _ _ _ _ => (C8.pe_c C_body_at hr (by omega) rfl (pa_cons (pv 0) (pa_cons (pv 4) pa_nil))))) pa_nil)) (pe_callB (Fb.call_reprD gd hr.units) (by rfl) T.n_repr (by decide +kernel) (pa_cons (pe_dget hu (pv 1) pe_str (fun _ _ => rfl)) pa_nil)) (nomark _)))))))), ?_⟩
    refine ⟨_, rfl, v, b, rfl, dv, ok, fun fd ls la lb lg lm H1 F1 s1 => ?_⟩
    refine ⟨_, rfl, v, b, rfl, dp_ext (Same.ext s1) _ _ dv (noL_blk ok.1), ok, fun l2 H2 r2 nl2 s2 => ⟨_, rfl, v, b, rfl, dp_ext (Same.ext (s1.trans s2)) _ _ dv (noL_blk ok.1), ok, fun l3 H3 r3 nl3 s3 => ⟨fit (show 2 ≤ 1000 by decide), fun p np => ?_⟩⟩⟩
    have s4 := same_new (o := .lst [.ref l2, .ref l3]) np
    obtain ⟨v2, h2, d2, n2⟩ := r2
    obtain ⟨v3, h3, d3, n3⟩ := r3
    have F4 := ((F1.same s2).same s3).same s4
    have h24 := s4 _ _ (s3 _ _ h2)
    have h34 := s4 _ _ h3
    have hp4 : (L2.upd H3 p (.lst [.ref l2, .ref l3])) p = some (.lst [.ref l2, .ref l3]) := upd_same
    have d24 := dps_ext (Same.ext (s3.trans s4)) _ _ d2 n2
    have d34 := dps_ext (Same.ext s4) _ _ d3 n3
    refine ⟨_, rfl, p, _, rfl, .lst (SqL.of hp4) (.cons (.lst (SqL.of h24) d24) (.cons (.lst (SqL.of h34) d34) .nil)), sh4.sw, sh4.nd, Nat.le_trans sh4.dp (by decide), Nat.le_trans sh4.ln (by decide), ?_⟩
    obtain ⟨vs5, hs5, ds5, ns5⟩ := F4.st
    obtain ⟨vb5, hb5, db5, nb5⟩ := F4.bd
    refine ⟨_, rfl, fd, _, rfl, gf_st F4.di, _, rfl, fd, _, rfl, gf_bd F4.di, fit (show 2 ≤ 1000 by decide), fun p2 np2 => ?_⟩
    have s5 := same_new (o := .lst [.ref ls, .ref lb]) np2
    have hp5 : (L2.upd (L2.upd H3 p (.lst [.ref l2, .ref l3])) p2 (.lst [.ref ls, .ref lb])) p2 = some (.lst [.ref ls, .ref lb]) := upd_same
    refine ⟨p2, _, rfl, .lst (SqL.of hp5) (.cons (.lst (SqL.of (s5 _ _ hs5)) (dps_ext (Same.ext s5) _ _ ds5 ns5)) (.cons (.lst (SqL.of (s5 _ _ hb5)) (dps_ext (Same.ext s5) _ _ db5 nb5)) .nil)), sh4.sw, sh4.nd, Nat.le_trans sh4.dp (by decide), Nat.le_trans sh4.ln (by decide), rfl, _, rfl, iteNS rfl ?_⟩
    -- the lists are emptied
    have f2 : H1 l2 = none := nl2
    have f3 : H1 l3 = none := s2.free nl3
    have np1 : p ≠ l2 := fun z => by exact absurd np (by rw [z, s3 _ _ h2]; simp)
    have np3 : p ≠ l3 := fun z => by exact absurd np (by rw [z, h3]; simp)
    have s15 : Same H1 (L2.upd (L2.upd H3 p (.lst [.ref l2, .ref l3])) p2 (.lst [.ref ls, .ref lb])) := s2.trans (s3.trans (s4.trans s5))
    refine ⟨_, rfl, p, rfl, ⟨_, SqL.of (s5 _ _ hp4)⟩, for_it (walk_list (K := K) (xs := [.ref l2, .ref l3])) (fun i σ H6 => (∃ y3 : Option V, σ = [some v, some (.ref fd), some (.ref p), y3, none]) ∧ Same H1 H6 ∧ H6 p = some (.lst [.ref l2, .ref l3]) ∧ (∃ xs, H6 l2 = some (.lst xs)) ∧ ∃ ys, H6 l3 = some (.lst ys)) ⟨⟨none, rfl⟩, s15, s5 _ _ hp4, ⟨_, s5 _ _ h24⟩, ⟨_, s5 _ _ h34⟩⟩ (fun i σ H6 _ z => SqL.of z.2.2.1) ?_ ?_⟩
    · rintro i x σ H6 H6' hi ⟨⟨y3, rfl⟩, S6, hp6, ⟨xs, h26⟩, ⟨ys, h36⟩⟩ ⟨rfl, hx⟩
      have hx2 : x = .ref l2 ∨ x = .ref l3 := by
        have z := List.mem_of_getElem? hx
        simpa using z
      have emp : ∀ {l : Addr} {zs : List V}, H6' l = some (.lst zs) → H1 l = none → p ≠ l → ((∃ y3 : Option V, [some v, some (.ref fd), some (.ref p), some x, none] = [some v, some (.ref fd), some (.ref p), y3, none]) ∧ Same H1 (L2.upd H6' l (.lst [])) ∧ (L2.upd H6' l (.lst [])) p = some (.lst [.ref l2, .ref l3]) ∧ (∃ xs, (L2.upd H6' l (.lst [])) l2 = some (.lst xs)) ∧ ∃ ys, (L2.upd H6' l (.lst [])) l3 = some (.lst ys)) := fun {l zs} hl fl npl => by
        have upl : ∀ {l' : Addr} {ws : List V}, H6' l' = some (.lst ws) → ∃ xs, (L2.upd H6' l (.lst [])) l' = some (.lst xs) := fun {l' ws} hl' => by
          by_cases e : l' = l
          · rw [e]; exact ⟨_, upd_same⟩
          · exact ⟨_, by rw [upd_ne e]; exact hl'⟩
        refine ⟨⟨_, rfl⟩, fun c o e => ?_, ?_, upl h26, upl h36⟩
        · rw [upd_ne (ne_of_none e fl)]
          exact S6 c o e
        · rw [upd_ne npl]
          exact hp6
      rcases hx2 with rfl | rfl
      · exact ⟨_, rfl, .inl ⟨rfl, _, SqL.of h26⟩, l2, xs, rfl, rfl, h26, emp h26 f2 np1⟩
      · exact ⟨_, rfl, .inl ⟨rfl, _, SqL.of h36⟩, l3, ys, rfl, rfl, h36, emp h36 f3 np3⟩
    · rintro σ H6 ⟨⟨y3, rfl⟩, S6, hp6, _, _⟩
      have F6 := F1.same S6
      have dv6 := dp_ext (Same.ext (s1.trans S6)) _ _ dv (noL_blk ok.1)
      obtain ⟨va, ha, da, na⟩ := F6.at_
      have lva := dps_len da
      rw [List.length_map] at lva
      refine ⟨_, rfl, fd, _, rfl, gf_at_ F6.di, la, _, rfl, .inl (SqL.of ha), _, rfl, by omega, by omega, fun D nQ => lc_range (lo := 0) (n := ((va.length : Int)).toNat) (fun i H7 => Same H6 H7 ∧ ∃ us, H7 D = some (.lst us) ∧ DpAll K H7 us (((final b).pl.take i).map fun e => nD e.2.2)) ⟨same_new nQ, [], upd_same, .nil⟩ ?_ ?_⟩
      · rintro i H7 hi ⟨z1, us, hD, du⟩
        have hi2 : i < (final b).pl.length := by omega
        have he := List.getElem?_eq_getElem hi2
        have lu := dps_len du
        rw [List.length_map, List.length_take] at lu
        refine ⟨rfl, _, rfl, _, rfl, v, b, i, _, _, rfl, by omega, dp_ext (Same.ext z1) _ _ dv6 (noL_blk ok.1), ok, he, fun H8 s8 => ⟨us, s8 _ _ hD, small1000 (by omega), fun c o ec => ?_, us ++ [.int (((final b).pl[i]).2.2 : Int)], upd_same, ?_⟩⟩
        · rw [upd_ne (ne_of_none ec nQ)]
          exact s8 _ _ (z1 c o ec)
        · rw [take_snoc he, List.map_append]
          have ex := (Same.ext s8).trans (ext_put (o := .lst (us ++ [.int (((final b).pl[i]).2.2 : Int)])) (s8 _ _ hD))
          exact dps_snoc (dps_ext ex _ _ du (noLs_all fun d hd => by obtain ⟨e, _, rfl⟩ := List.mem_map.mp hd; rfl)) (.int _)
      · rintro H7 ⟨z1, us, hD, du⟩
        rw [show ((va.length : Int)).toNat = (final b).pl.length by omega, List.take_length] at du
        refine ⟨D, _, rfl, .lst (SqL.of hD) du, sh3.sw, sh3.nd, Nat.le_trans sh3.dp (by decide), Nat.le_trans sh3.ln (by decide), ?_⟩
        have F7 := F6.same z1
        refine ⟨_, rfl, fd, _, rfl, gf_at_ F7.di, la, _, rfl, .lst (SqL.of (z1 _ _ ha)) (dps_ext (Same.ext z1) _ _ da na), sh3.sw, sh3.nd, Nat.le_trans sh3.dp (by decide), Nat.le_trans sh3.ln (by decide), rfl, ?_⟩
        have kk := k H7 (s1.trans (S6.trans z1))
        show Q (.bl (decide _)) H7
        rw [decide_eq_true rfl]
        exact kk
theorem scLaw : FnScope ["_law_script", "_law_deal_here", "_law_programs", "_law_k", "_law_program"] ["_law_script"] (defScope sLaw) := ⟨rfl, rfl, rfl, by decide +kernel, rfl, by decide +kernel, by decide +kernel⟩
theorem ok_law {f : Addr} {fd : FuncData} (F : L2.Fun K "law" "law" sLaw f fd) (T : Top K mg CB CP CT) : FnG P w K mg base 32 f fd ["_law_script"] (spLaw K) := by
  have C_law_deal : C8.Cal P w K mg base 1 "_law_deal" (spDeal K) [] := ok_deal T
  have C_law_any_program : C8.Cal P w K mg base 21 "_law_any_program" (spProg K) [] := ok_prog T
  have C_law_right : CalG P w K mg base 31 "_law_right" (spRight K) := ok_right T
  refine ok_G F scLaw (fun vs H Q E h => ?_) (fun cdv A outer s H vs Q E gd hr h => ?_)
  · obtain ⟨a, ns, rfl, _⟩ := h
    rfl
  · obtain ⟨a, ns, rfl, hS, hl, k⟩ := h
    have hu := hu_of hr
    refine ⟨_, (pss_cons (ps_set (i := 1) scLaw.nd rfl (Or.inr rfl) (C8.pe_c C_law_deal hr (by omega) rfl (pa_cons (pv 0) pa_nil)))
  (pss_cons (ps_setLc (i := 2) (own := [("_law_k", 3)]) rfl scLaw.nd rfl rfl (sw_true rfl rfl rfl (by decide +kernel)) (pi_range1 rfl T.n_range (pa_cons pe_int pa_nil)) (blkOk_by (own := [("_law_k", 3)]) (N := ["_law_script", "_law_deal_here", "_law_programs", "_law_k", "_law_program"]) (sc := defScope sLaw) (by decide +kernel)) (fun _ _ _ _ _ => (pg_name (i := 3) scLaw.nd rfl (Or.inl rfl))) (fun _ _ _ _ _ => pts_nil) (fun _ _ _ _ _ => (C8.pe_c C_law_any_program hr (by omega) rfl (pa_cons (pv 1) pa_nil))))
  (pss_one (ps_ret (pe_callB (cr_all rfl) (by rfl) T.n_all (by decide +kernel) (pa_cons (pe_lc (own := [("_law_program", 4)]) rfl scLaw.nd (pi_list (pe_op op_cat (pv 2) (pe_slice sl_list (pv 2) po_none (po_some pe_int)))) (blkOk_by (own := [("_law_program", 4)]) (N := ["_law_script", "_law_deal_here", "_law_programs", "_law_k", "_law_program"]) (sc := defScope sLaw) (by decide +kernel)) (fun _ _ _ _ _ => (pg_name (i := 4) scLaw.nd rfl (Or.inl rfl))) (fun _ _ _ _ _ => pts_nil) (fun _ _ _ _ _ => (Fb.pe_cG C_law_right gd hr (by omega) rfl (pa_cons (pv 4) pa_nil)))) pa_nil)))))), ?_⟩
    refine ⟨_, rfl, a, ns, rfl, hS, hl, fun d l H1 nd nl D1 s1 => ?_⟩
    refine ⟨3, rfl, by decide, by decide, fun p np => lc_range (lo := 0) (n := 3) (fun i H2 => DealAt H2 d l ∧ ∃ vs, H2 p = some (.lst vs) ∧ vs.length = i ∧ PAll K H2 vs) ⟨D1.same (same_new np), [], upd_same, rfl, fun _ z => nomatch z⟩ ?_ ?_⟩
    · rintro i H2 hi ⟨D2, vs, hp, lv, pa⟩
      have pd := D1.d_ne np
      have pl := D1.l_ne np
      refine ⟨rfl, _, rfl, d, l, rfl, D2, fun v b H3 dv gb nb db D3 K3 => ?_⟩
      have hp3 := K3 p _ hp pd pl
      have ex := ext_put (o := .lst (vs ++ [v])) hp3
      refine ⟨vs, hp3, small1000 (by omega), D3.upd pd pl, vs ++ [v], upd_same, by rw [List.length_append, lv]; rfl, fun x hx => ?_⟩
      rcases List.mem_append.mp hx with z | z
      · exact (pa.ext ((Keep.ext D2 K3).trans ex)) x z
      · rw [List.mem_singleton.mp z]
        exact ⟨b, dp_ext ex _ _ dv (noL_blk gb), gb, nb, db⟩
    · rintro H2 ⟨D2, vs, hp, lv, pa⟩
      have lcut : (cutV vs none (some 1)).length ≤ vs.length := by
        unfold cutV
        rw [List.length_take, List.length_drop]
        omega
      refine ⟨_, rfl, _, rfl, 1, rfl, p, vs, rfl, SqL.of hp, fun c nc => ⟨p, c, _, _, rfl, rfl, same_new nc _ _ hp, upd_same, fit (by omega), fun q nq => ?_⟩⟩
      have s4 := (same_new (o := .lst (cutV vs none (some 1))) nc).trans (same_new (o := .lst (vs ++ cutV vs none (some 1))) nq)
      have pa4 : PAll K H2 (vs ++ cutV vs none (some 1)) := fun x hx => by
        rcases List.mem_append.mp hx with z | z
        · exact pa x z
        · exact pa x (mem_cut z)
      have hq4 : (L2.upd (L2.upd H2 c (.lst (cutV vs none (some 1)))) q (.lst (vs ++ cutV vs none (some 1)))) q = some (.lst (vs ++ cutV vs none (some 1))) := upd_same
      refine ⟨q, rfl, ⟨_, SqL.of hq4⟩, fun D nQ => lc_it (walk_list (K := K) (xs := vs ++ cutV vs none (some 1))) (fun i H5 => Same H2 H5 ∧ H5 q = some (.lst (vs ++ cutV vs none (some 1))) ∧ H5 D = some (.lst ((List.replicate i true).map V.bl))) ⟨s4.trans (same_new nQ), same_new nQ _ _ hq4, upd_same⟩ (fun i H5 _ z => SqL.of z.2.1) ?_ ?_⟩
      · rintro i x H5 H5' hi ⟨S5, hq5, hD5⟩ ⟨rfl, hx⟩
        obtain ⟨b, dv, ok⟩ := (pa4.ext (Same.ext S5)) x (List.mem_of_getElem? hx)
        rw [List.length_append] at hi
        refine ⟨rfl, _, rfl, x, b, rfl, dv, ok, fun H6 s6 => ⟨_, s6 _ _ hD5, small1000 (by rw [List.length_map, List.length_replicate]; omega), fun c o e => ?_, ?_, ?_⟩⟩
        · rw [upd_ne (ne_of_none (s4 c o e) nQ)]
          exact s6 _ _ (S5 c o e)
        · rw [upd_ne (ne_of_none hq4 nQ)]
          exact s6 _ _ hq5
        · rw [upd_same, List.replicate_succ', List.map_append]
          rfl
      · rintro H5 ⟨S5, hq5, hD5⟩
        refine ⟨D, _, rfl, SqL.of hD5, ?_⟩
        have z : (List.replicate (vs ++ cutV vs none (some 1)).length true).all id = true := by
          rw [List.all_eq_true]
          intro y hy
          rw [(List.mem_replicate.mp hy).2]
          rfl
        rw [z]
        exact k H5
end
end K03
set_option Elab.async false
set_option linter.all false
set_option maxRecDepth 100000
namespace K03
open PySem PySem.W PyProof.Rows L2 Fb
theorem fin {l : OpenLaw} {w : World} {K : Frag} {h : Heap} {mg : Str → Option Value} {fa f2 CB CP CT : Addr} {od2 an2 : Option Addr} {sl2 : Array (Option Value)} {oc2 kV2 dc2 pm2 cd2 ct2 : Value} (X : K.In h) (G : h.Ns mainGlobals mg) (hfa : mg "law" = some (.ref fa)) (T : Top K mg CB CP CT)
    (a2 : nsIn K mainGlobals "law" = some (some (.ref f2))) (l2 : K.lookup f2 = some ⟨oc2, od2, .func (fnOf "law" "law" (defArgs sLaw) (defBody sLaw) (defScope sLaw) .none kV2 dc2 pm2 an2 cd2 ct2), sl2⟩) (c2 : codeIn K cd2 "law" = true) (k2 : keepIn K (.ref f2) = true) :
    ∃ fd : FuncData, (∀ (s : Shared) (v : Value), BindsTo s fd ⟨[v], []⟩ [("_law_script", v)]) ∧ ∀ base : Heap, K.In base → base.Ns mainGlobals mg → FnG l.prog w K mg base 32 fa fd ["_law_script"] (spLaw K) := by
  have e := hfa.symm.trans (mg_of X G a2)
  cases e
  exact ⟨_, fun s v => .of_eq rfl, fun base _ _ => ok_law (fun_mk (st := sLaw) l2 c2 k2) T⟩
end K03
open PySem PySem.W PyProof.Rows L2
set_option maxHeartbeats 0 in
theorem PySem.Challenge.cw_fourbind_k03_statements_and_bodies_holds : PySem.Challenge.rw_fourbind_k03_statements_and_bodies.Holds := by
  w_on; o_law; k_head; (case hw => w_witness2)
  k_fill
  refine Fb.walk_G (l := PySem.Challenge.rw_fourbind_k03_statements_and_bodies) (n := 63) (k := 32) (x := "_law_script") (sp := fun w => K03.spLaw _) rfl (by decide) rfl ⟨rfl, by decide, by decide⟩ (fun w h Y => PySem.W.kIn_of Y) ?F (fun _ _ a ns hl hS => ⟨a, ns, rfl, hS, hl, fun _ => rfl⟩)
  case F =>
    intro w mg fa h KX G XP hmg
    refine' K03.fin KX G hmg (K03.Top.mk (mg_none_of KX G ?n_len) (mg_none_of KX G ?n_isinstance) (mg_none_of KX G ?n_max) (mg_none_of KX G ?n_list) (mg_none_of KX G ?n_reversed) (mg_none_of KX G ?n_range) (mg_none_of KX G ?n_int) (mg_none_of KX G ?n_repr) (mg_none_of KX G ?n_tuple) (mg_none_of KX G ?n_all) ⟨?pg_B, ?hd_B, ?po_B, ?sa_B⟩ (Fb.cn_in KX G ?mc_B ?me_B) (mg_of KX G ?mm_B) (Fb.noattr ?nn_B_kind) (Fb.noattr ?nn_B_k) (Fb.noattr ?nn_B_around) (Fb.noattr ?nn_B_body) (Fb.noattr ?nn_B_inside) ⟨_, _, fun_mk ?il_B ?ic_B ?ik_B, ⟨?im_B, ?ii_B, ?if_B, ?io_B⟩⟩ ⟨?pg_P, ?hd_P, ?po_P, ?sa_P⟩ (Fb.cn_in KX G ?mc_P ?me_P) (mg_of KX G ?mm_P) (Fb.noattr ?nn_P_statement) (Fb.noattr ?nn_P_ground) (Fb.noattr ?nn_P_body) ⟨_, _, fun_mk ?il_P ?ic_P ?ik_P, ⟨?im_P, ?ii_P, ?if_P, ?io_P⟩⟩ ⟨?pg_T, ?hd_T, ?po_T, ?sa_T⟩ (Fb.cn_in KX G ?mc_T ?me_T) (mg_of KX G ?mm_T) (Fb.noattr ?nn_T_places) (Fb.noattr ?nn_T_body_rows) (Fb.noattr ?nn_T_ground_rows) (Fb.noattr ?nn_T_making_rows) ⟨_, _, fun_mk ?il_T ?ic_T ?ik_T, ⟨?im_T, ?ii_T, ?if_T, ?io_T⟩⟩ ⟨_, _, fun_mk ?ml_enter ?mc2_enter ?mk2_enter, ⟨?ma_enter, ?mf_enter, ?mp_enter⟩⟩ ⟨_, _, fun_mk ?ml_meet ?mc2_meet ?mk2_meet, ⟨?ma_meet, ?mf_meet, ?mp_meet⟩⟩ ⟨⟨?qg_B, ?qd_B, ?qo_B, ?qa_B⟩, ?qh_B, ?qn_B, ?qt_B, ?qm_B, Fb.kit_self⟩ ⟨⟨?qg_P, ?qd_P, ?qo_P, ?qa_P⟩, ?qh_P, ?qn_P, ?qt_P, ?qm_P, Fb.kit_self⟩ (Fb.kit_no ?kn ?kc ?kt ?ks) (Fb.has_mk KX G ?da_blocks_of ?dl_blocks_of ?dc_blocks_of ?dk_blocks_of) (Fb.has_mk KX G ?da_made_by ?dl_made_by ?dc_made_by ?dk_made_by) (Fb.has_mk KX G ?da_statements ?dl_statements ?dc_statements ?dk_statements) (Fb.has_mk KX G ?da_body_at ?dl_body_at ?dc_body_at ?dk_body_at) (Fb.has_mk KX G ?da_bodies ?dl_bodies ?dc_bodies ?dk_bodies) (Fb.has_mk KX G ?da_l_deal ?dl_l_deal ?dc_l_deal ?dk_l_deal) (Fb.has_mk KX G ?da_l_draw ?dl_l_draw ?dc_l_draw ?dk_l_draw) (Fb.has_mk KX G ?da_l_words ?dl_l_words ?dc_l_words ?dk_l_words) (Fb.has_mk KX G ?da_l_any_atom ?dl_l_any_atom ?dc_l_any_atom ?dk_l_any_atom) (Fb.has_mk KX G ?da_l_any_flat ?dl_l_any_flat ?dc_l_any_flat ?dk_l_any_flat) (Fb.has_mk KX G ?da_l_any_statement ?dl_l_any_statement ?dc_l_any_statement ?dk_l_any_statement) (Fb.has_mk KX G ?da_l_any_block ?dl_l_any_block ?dc_l_any_block ?dk_l_any_block) (Fb.has_mk KX G ?da_l_any_program ?dl_l_any_program ?dc_l_any_program ?dk_l_any_program) (Fb.has_mk KX G ?da_l_laid ?dl_l_laid ?dc_l_laid ?dk_l_laid) (Fb.has_mk KX G ?da_l_lay_inner ?dl_l_lay_inner ?dc_l_lay_inner ?dk_l_lay_inner) (Fb.has_mk KX G ?da_l_lay_fn ?dl_l_lay_fn ?dc_l_lay_fn ?dk_l_lay_fn) (Fb.has_mk KX G ?da_l_lay ?dl_l_lay ?dc_l_lay ?dk_l_lay) (Fb.has_mk KX G ?da_l_due ?dl_l_due ?dc_l_due ?dk_l_due) (Fb.has_mk KX G ?da_l_right ?dl_l_right ?dc_l_right ?dk_l_right)) ?a2 ?l2 ?c2 ?k2
    (case mm_B => k_is)
    (case mm_P => k_is)
    (case mm_T => k_is)
    (case mc_B => k_is)
    (case mc_P => k_is)
    (case mc_T => k_is)
    (case me_B => rfl)
    (case me_P => rfl)
    (case me_T => rfl)
    (case ii_B => k_is)
    (case ii_P => k_is)
    (case ii_T => k_is)
    (case ma_enter => k_is)
    (case ma_meet => k_is)
    (case da_blocks_of => k_is)
    (case da_made_by => k_is)
    (case da_statements => k_is)
    (case da_body_at => k_is)
    (case da_bodies => k_is)
    (case da_l_deal => k_is)
    (case da_l_draw => k_is)
    (case da_l_words => k_is)
    (case da_l_any_atom => k_is)
    (case da_l_any_flat => k_is)
    (case da_l_any_statement => k_is)
    (case da_l_any_block => k_is)
    (case da_l_any_program => k_is)
    (case da_l_laid => k_is)
    (case da_l_lay_inner => k_is)
    (case da_l_lay_fn => k_is)
    (case da_l_lay => k_is)
    (case da_l_due => k_is)
    (case da_l_right => k_is)
    (case il_B => k_is)
    (case il_P => k_is)
    (case il_T => k_is)
    (case ml_enter => k_is)
    (case ml_meet => k_is)
    (case dl_blocks_of => k_is)
    (case dl_made_by => k_is)
    (case dl_statements => k_is)
    (case dl_body_at => k_is)
    (case dl_bodies => k_is)
    (case dl_l_deal => k_is)
    (case dl_l_draw => k_is)
    (case dl_l_words => k_is)
    (case dl_l_any_atom => k_is)
    (case dl_l_any_flat => k_is)
    (case dl_l_any_statement => k_is)
    (case dl_l_any_block => k_is)
    (case dl_l_any_program => k_is)
    (case dl_l_laid => k_is)
    (case dl_l_lay_inner => k_is)
    (case dl_l_lay_fn => k_is)
    (case dl_l_lay => k_is)
    (case dl_l_due => k_is)
    (case dl_l_right => k_is)
    (case n_len => k_is)
    (case n_isinstance => k_is)
    (case n_max => k_is)
    (case n_list => k_is)
    (case n_reversed => k_is)
    (case n_range => k_is)
    (case n_int => k_is)
    (case n_repr => k_is)
    (case n_tuple => k_is)
    (case n_all => k_is)
    (case pg_B => k_is)
    (case hd_B => k_is)
    (case po_B => k_is)
    (case sa_B => k_is)
    (case nn_B_kind => k_is)
    (case nn_B_k => k_is)
    (case nn_B_around => k_is)
    (case nn_B_body => k_is)
    (case nn_B_inside => k_is)
    (case ic_B => k_is)
    (case ik_B => k_is)
    (case im_B => k_is)
    (case if_B => k_is)
    (case io_B => k_is)
    (case pg_P => k_is)
    (case hd_P => k_is)
    (case po_P => k_is)
    (case sa_P => k_is)
    (case nn_P_statement => k_is)
    (case nn_P_ground => k_is)
    (case nn_P_body => k_is)
    (case ic_P => k_is)
    (case ik_P => k_is)
    (case im_P => k_is)
    (case if_P => k_is)
    (case io_P => k_is)
    (case pg_T => k_is)
    (case hd_T => k_is)
    (case po_T => k_is)
    (case sa_T => k_is)
    (case nn_T_places => k_is)
    (case nn_T_body_rows => k_is)
    (case nn_T_ground_rows => k_is)
    (case nn_T_making_rows => k_is)
    (case ic_T => k_is)
    (case ik_T => k_is)
    (case im_T => k_is)
    (case if_T => k_is)
    (case io_T => k_is)
    (case mc2_enter => k_is)
    (case mk2_enter => k_is)
    (case mf_enter => k_is)
    (case mp_enter => k_is)
    (case mc2_meet => k_is)
    (case mk2_meet => k_is)
    (case mf_meet => k_is)
    (case mp_meet => k_is)
    (case qg_B => k_is)
    (case qd_B => k_is)
    (case qo_B => k_is)
    (case qa_B => k_is)
    (case qh_B => k_is)
    (case qn_B => k_is)
    (case qt_B => k_is)
    (case qm_B => k_is)
    (case qg_P => k_is)
    (case qd_P => k_is)
    (case qo_P => k_is)
    (case qa_P => k_is)
    (case qh_P => k_is)
    (case qn_P => k_is)
    (case qt_P => k_is)
    (case qm_P => k_is)
    (case kn => decide)
    (case kc => k_is)
    (case kt => k_is)
    (case ks => k_is)
    (case dc_blocks_of => k_is)
    (case dk_blocks_of => k_is)
    (case dc_made_by => k_is)
    (case dk_made_by => k_is)
    (case dc_statements => k_is)
    (case dk_statements => k_is)
    (case dc_body_at => k_is)
    (case dk_body_at => k_is)
    (case dc_bodies => k_is)
    (case dk_bodies => k_is)
    (case dc_l_deal => k_is)
    (case dk_l_deal => k_is)
    (case dc_l_draw => k_is)
    (case dk_l_draw => k_is)
    (case dc_l_words => k_is)
    (case dk_l_words => k_is)
    (case dc_l_any_atom => k_is)
    (case dk_l_any_atom => k_is)
    (case dc_l_any_flat => k_is)
    (case dk_l_any_flat => k_is)
    (case dc_l_any_statement => k_is)
    (case dk_l_any_statement => k_is)
    (case dc_l_any_block => k_is)
    (case dk_l_any_block => k_is)
    (case dc_l_any_program => k_is)
    (case dk_l_any_program => k_is)
    (case dc_l_laid => k_is)
    (case dk_l_laid => k_is)
    (case dc_l_lay_inner => k_is)
    (case dk_l_lay_inner => k_is)
    (case dc_l_lay_fn => k_is)
    (case dk_l_lay_fn => k_is)
    (case dc_l_lay => k_is)
    (case dk_l_lay => k_is)
    (case dc_l_due => k_is)
    (case dk_l_due => k_is)
    (case dc_l_right => k_is)
    (case dk_l_right => k_is)
    (case a2 => k_is)
    (case l2 => k_is)
    (case c2 => k_is)
    (case k2 => k_is)
