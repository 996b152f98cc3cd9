import PyProof.Rows.All
import Wide.All
import OpenK.AllK
import Wide.FinOn
import HandS.ForMost
import HandS.RaiseMore
import HandS.StrMore
import HandS.Rev
import HandS.Wide
import HandS.Walk
import HandS.Codes
import HandS.Ends
import HandS.WordsExc
import PySem.Challenge.RW_fourbind_k01_names_and_what_numbers_come
set_option Elab.async false
set_option linter.all false
set_option maxRecDepth 100000
set_option maxHeartbeats 2000000
namespace Fb
open PySem PySem.Spec PyProof.Rows
/-! list(reversed(xs)), at the library's level -/
abbrev nilL : Obj := { cls := .type "list", data := .seq #[] }
section
variable {prog : Program} {w : World} {A : Around} {E : Value → Shared → Prop} {s : Shared}
abbrev FromEnd (items acc : Array Value) : Prop := ItemsOf (fun i v => items[items.size - 1 - i]? = some v) acc items.size
theorem ext_rev {it l S : Addr} {items : Array Value} {c0 : Nat} {R : Result → Shared → Prop} (hh : A.handled = none)
    (hit : s.heap.IsRevIter it l ((items.size : Int) - 1)) (hl : s.heap.IsList l items) (hne : l ≠ it) (hn : items.size ≤ sizeLine) (hSi : S ≠ it) (hSl : S ≠ l)
    (hS : s.heap.get? S = some { cls := .type "list", data := .seq #[] c0 })
    (hR : ∀ h' tk acc c, (∀ b o, b ≠ S → b ≠ it → s.heap.get? b = some o → h'.get? b = some o) →
      h'.get? S = some { cls := .type "list", dict := none, data := .seq acc c, slots := #[] } → FromEnd items acc → R (.ok (.ret .none)) { s with heap := h', toks := tk }) :
    wpAny (model prog w) A.in1 (Builtin.List.listExtendWith (.ref S) (.ref it) .none)
      (fun fin s' => match fin with | .done f => R (.ok f) s' | .again c' => c'.quiet = true ∧ codeAny (model prog w) A c' R s')
      (fun e s' => R (.error e) s') s := by
  have W := (Walks.listRev (prog := prog) (w := w) (A := A.in1) hh it l hne items).toS
  have nf : S ∉ [it, l] := by
    simp only [List.mem_cons, List.not_mem_nil, or_false, not_or]
    exact ⟨hSi, hSl⟩
  have hT : s.TypeIs (.ref it) "list_reverseiterator" := hit.typeIs
  have h1 : Builtin.List.listSameRef (.ref S) (.ref it) = false := by
    simp [Builtin.List.listSameRef, hSi]
  unfold Builtin.List.listExtendWith
  refine wpAny_bind <| wpAny_typeOf hT ?_
  rw [if_neg <| by rw [h1]; decide]
  refine wpAny_bind <| wpAny_pyIter_revIter hit ?_
  refine wpAny_bind <| wpAny_holding ?_
  unfold Builtin.List.listLengthHint
  refine wpAny_bind <| wpAny_specialOf hT RT.nolen_lri ?_
  show wpAny _ A.in1 (specialOf (Value.ref it) (Str.ofString "__length_hint__") >>= _) _ _ s
  refine wpAny_bind <| wpAny_specialOf hT RT.hint_lri ?_
  generalize e0 : ("list_reverseiterator.__length_hint__" : String) = i0
  wp_delta
  rw [show splitId i0 = some ("list_reverseiterator", "__length_hint__") by subst e0; decide +kernel]
  subst e0
  refine wpAny_bind <| wpAny_isInstance (b := true) hT (by rw [isSubtype_type]; kernel_rfl) ?_
  refine wpAny_pure ?_
  rw [if_neg <| by decide]
  have ez : ((items.size : Nat) : Int) - 1 - ((0 : Nat) : Int) = (items.size : Int) - 1 := by omega
  refine wpAny_pure ⟨plainId_quiet F.plain_extend_loop _, codeAny_extend_loopS W hn _ nf _ items.size 0 _ _ _ rfl (Nat.zero_le _)
    ⟨Nat.zero_le _, by rw [ez]; exact hit, hl⟩ hS (ItemsOf.nil _) fun s' acc' c' hm hS' hacc => ?_⟩
  rw [Moved.eq_with hm]
  refine hR s'.heap s'.toks acc' c' (fun b o b1 b2 e => hm.heap b o (fun z => ?_) e) hS' hacc
  rcases List.mem_cons.mp z with q | q
  · exact b1 q
  · exact b2 (List.mem_singleton.mp q)
theorem call_list_rev {it l : Addr} {items : Array Value} {Q : Value → Shared → Prop} (hh : A.handled = none)
    (hit : s.heap.IsRevIter it l ((items.size : Int) - 1)) (hl : s.heap.IsList l items) (hne : l ≠ it) (hn : items.size ≤ sizeLine)
    (hQ : ∀ h' tk acc c, (∀ b o, b ≠ it → s.heap.get? b = some o → h'.get? b = some o) →
      h'.get? s.heap.objs.size = some { cls := .type "list", dict := none, data := .seq acc c, slots := #[] } → FromEnd items acc → Q (.ref s.heap.objs.size) { s with heap := h', toks := tk }) :
    wpAny (model prog w) A (call (.type "list") [.ref it]) Q E s := by
  obtain ⟨oi, hoi, _⟩ := id hit
  obtain ⟨ol, hol, _⟩ := id hl
  refine callType_codes (Q₁ := fun obj s₁ => obj = .ref s.heap.objs.size ∧ s₁ = { s with heap := s.heap.push nilL }) PySem.F.called_list (PySem.F.typeCall_list_1 _) PySem.F.entry_list_init (code_list_new _ ⟨rfl, rfl⟩) fun obj s₁ h₁ => ?_
  obtain ⟨rfl, rfl⟩ := h₁
  have hS : (s.heap.push nilL).get? s.heap.objs.size = some nilL := Heap.get?_push_size _ rfl
  refine ⟨⟨_, hS, rfl⟩, PySem.F.args_list_init_2 _ _, ?_⟩
  show wpAny _ _ (do let old ← Builtin.List.listItems (.ref s.heap.objs.size); Builtin.List.listUpdate (.ref s.heap.objs.size) (fun _ => #[]); letGo old.toList.reverse; Builtin.List.listExtendWith (.ref s.heap.objs.size) (.ref it) .none) _ _ _
  refine wpAny_bind ?_
  unfold Builtin.List.listItems
  refine wpAny_bind <| wpAny_seqItems hS rfl <| wpAny_pure ?_
  show wpAny _ _ (updateSeq s.heap.objs.size (fun _ => #[]) >>= fun _ => letGo (#[] : Array Value).toList.reverse >>= fun _ => Builtin.List.listExtendWith (.ref s.heap.objs.size) (.ref it) .none) _ _ _
  refine wpAny_bind <| wpAny_updateSeq hS rfl ?_
  have hS2 := Heap.get?_update_self (Obj.mapSeq (fun _ => (#[] : Array Value))) hS rfl
  have ni : s.heap.objs.size ≠ it := Nat.ne_of_gt (Heap.lt_size hoi)
  have nl : s.heap.objs.size ≠ l := Nat.ne_of_gt (Heap.lt_size hol)
  have oth : ∀ b o, b ≠ s.heap.objs.size → s.heap.get? b = some o → ((s.heap.push nilL).update s.heap.objs.size (Obj.mapSeq (fun _ => (#[] : Array Value)))).get? b = some o :=
    fun b o hb e => (Heap.get?_update_other _ _ (Ne.symm hb)).trans (Heap.get?_push_of_some _ e)
  refine wpAny_bind <| wpAny_letGo ?_
  refine ext_rev (A := A.in1) (l := l) hh (hit.at fun o e => oth it o (Ne.symm ni) e) (hl.at fun o e => oth l o (Ne.symm nl) e) hne hn ni nl hS2 fun h' tk acc c hk hS' hacc => ⟨rfl, ?_⟩
  exact hQ h' tk acc c (fun b o hb e => hk b o (Nat.ne_of_lt (Heap.lt_size e)) hb (oth b o (Nat.ne_of_lt (Heap.lt_size e)) e)) hS' hacc
end
end Fb
namespace Fb
open PySem PySem.Spec PyProof.Rows L2
section
variable {X : Cx}
/-- list(reversed(e)), e a list -/
def tListRev (K : PySem.W.Frag) (te : TE) : TE := fun σ H Q => te σ H fun v H1 => ∃ (a : Addr) (xs : List V), v = .ref a ∧ SqL K H1 a xs ∧ ∀ q, H1 q = none → Q (.ref q) (upd H1 q (.lst xs.reverse))
theorem pe_listRev {e : Expr} {te : TE} {p p2 pos pos2 : Pos} (hc : X.calm = true) (hg : Gl X "list") (hm : X.mg "list" = none) (hg2 : Gl X "reversed") (hm2 : X.mg "reversed" = none) (he : PE X e te)
    (hs : starEach [e] X.env = (false, eval e X.env) :: starEach [] X.env := by rfl)
    (hs2 : starEach [.Call (.Name "reversed" p2) [e] [] pos2] X.env = (false, eval (.Call (.Name "reversed" p2) [e] [] pos2) X.env) :: starEach [] X.env := by rfl) :
    PE X (.Call (.Name "list" p) [.Call (.Name "reversed" p2) [e] [] pos2] [] pos) (tListRev X.K te) := by
  refine ⟨fun pins s σ H Q I h => ?_⟩
  refine Call_ (ld_blt I hg hm boot_list (callWith_type1 (args_cons (Call_ (ld_blt I hg2 hm2 boot_reversed (callWith_type1 (args_cons (thn (he.run pins s σ H _ I h) fun u s1 ⟨v, H1, I1, r1, q1⟩ => args_nil ?_) hs) hs rfl))) hs2) hs2 rfl))
  obtain ⟨a, xs, ev, hq, q⟩ := q1
  subst ev
  obtain rfl : u = Value.ref a := r1
  obtain ⟨its, rv, pl, hz⟩ := I1.list hq
  refine call_reversed_list pl.isList (args_nil ?_)
  have I2 : Inv X pins σ H1 { s1 with heap := s1.heap.push (revObj a ((its.toArray.size : Int) - 1)) } := I1.kept (t' := s1.toks) fun b o e => Heap.get?_push_of_some _ e
  obtain ⟨f0, f1, f2, f3, f4, f5⟩ := I1.fpOk (H' := H1) (b := s1.heap.objs.size) (Nat.le_refl _) (I1.hok.fresh (Nat.le_refl _))
  have hl := pl.isList
  obtain ⟨ol, hol, _⟩ := id hl
  have hne : a ≠ s1.heap.objs.size := Nat.ne_of_lt (Heap.lt_size hol)
  have hn : its.toArray.size ≤ sizeLine := by rw [List.size_toArray, ← rv.length]; exact hz
  refine call_list_rev (s := { s1 with heap := s1.heap.push (revObj a ((its.toArray.size : Int) - 1)) }) (I1.ok.hd hc) ⟨_, Heap.get?_push_size _ rfl, rfl, rfl⟩ (hl.push _) hne hn fun h' tk acc c hk hS' hacc => ?_
  have fr : H1 (s1.heap.objs.size + 1) = none := I1.hok.fresh (Nat.le_succ _)
  have sz : (s1.heap.push (revObj a ((its.toArray.size : Int) - 1))).objs.size = s1.heap.objs.size + 1 := by simp [Heap.push]
  have I3 := I2.laid (t' := tk) (a := s1.heap.objs.size + 1) (o := .lst xs.reverse)
    (h' := (s1.heap.push (revObj a ((its.toArray.size : Int) - 1))).push { cls := .type "list", dict := none, data := .seq acc c, slots := #[] })
    (fun b o e => Heap.get?_push_of_some _ e) (Nat.le_of_eq sz)
    (show ObjOk X.prog X.w _ _ _ (.lst xs.reverse) from ⟨by rw [List.length_reverse]; exact hz, acc.toList, c, RT.vals_rev rv hacc, by
      rw [← sz, Array.toArray_toList]
      exact Heap.get?_push_size _ rfl⟩)
  have nit : s1.heap.objs.size ≠ s1.heap.objs.size + 1 := Nat.ne_of_lt (Nat.lt_succ_self _)
  have I4 := I3.turned (t' := tk) (it := s1.heap.objs.size) (h' := h') (fun b o hb e => ?_) (by rw [upd_ne nit]; exact f0) f1 f3 f4 f5
  · refine ⟨.ref (s1.heap.objs.size + 1), _, I4, ?_, q _ fr⟩
    exact congrArg Value.ref sz
  · rcases Heap.get?_push_cases e with ⟨eb, eo⟩ | e2
    · subst eb
      subst eo
      exact hS'
    · exact hk b o hb e2
end
end Fb
set_option Elab.async false
set_option linter.all false
set_option maxRecDepth 100000
set_option maxHeartbeats 2000000
namespace Fb
open PySem PySem.Spec PyProof.Rows L2
/-! ### calls without arguments; repr of a plain value -/
section
variable {X : Cx} {k j : Nat} {x : Str} {sp : Sp} {dvs : List V} {p pos : Pos}
theorem pe_c0 (c : C8.Cal X.prog X.w X.K X.mg X.base k x sp dvs) (hr : Room j X.A) (hk : k ≤ j) (hg : Gl X x) (hdb : (x == ("__debug__" : Str)) = false := by decide) :
    PE X (.Call (.Name x p) [] [] pos) (tCall sp dvs E0 tNil) := by
  obtain ⟨f, fd, ps, ds, F, hm, kp, b, d⟩ := c.ex
  exact pe_call0 F (hr.mono hk) hg hm kp b d pass0 hdb
def tf (b : Bool) : Str := if b then "True" else "False"
def rRepr0 : List V → Hp → VK → Prop := fun xs H Q => (∃ b, xs = [.bl b] ∧ Q (.str (tf b)) H) ∨ ∃ i, xs = [.int i] ∧ i.natAbs.log2 < 1920 ∧ Q (.str (toString i)) H
theorem call_repr0 : CallR X (.builtin "repr") rRepr0 := by
  intro pins s σ H xs us Q I r h
  rcases h with ⟨b, rfl, q⟩ | h
  · obtain ⟨u, rfl, rx⟩ := vals1 r
    cases rx
    exact PySem.P.repr_of_bool ⟨.str _, H, I.tok _, ⟨_, rfl⟩, q⟩
  · obtain ⟨i, rfl, hz, q⟩ := h
    obtain ⟨u, rfl, t, rfl⟩ := vals1 r
    exact PySem.P.repr_of_int hz ⟨V.str _, H, I.tok _, ⟨_, rfl⟩, q⟩
end
/-! ### heaps -/
theorem same_new {H : Hp} {p : Addr} {o : HO} (h : H p = none) : Same H (upd H p o) := fun b x e => by
  rw [upd_ne (ne_of_none e h)]
  exact e
/-! ### the deal: a dict of three -/
def dealD (s n : Int) (l : Addr) : List (Key × V) := [(.inr "seed", .int s), (.inr "number", .int n), (.inr "left", .ref l)]
abbrev kx (x : Str) : Key := .inr x
theorem ne_sn : ¬ (kx "seed" = kx "number") := by decide +kernel
theorem ne_sl : ¬ (kx "seed" = kx "left") := by decide +kernel
theorem ne_nl : ¬ (kx "number" = kx "left") := by decide +kernel
section
variable {s n x : Int} {l d : Addr} {H : Hp}
theorem v_seed : valV (dealD s n l) (.inr "seed") = some (.int s) := valV_pos rfl
theorem v_number : valV (dealD s n l) (.inr "number") = some (.int n) := (valV_neg ne_sn).trans (valV_pos rfl)
theorem v_left : valV (dealD s n l) (.inr "left") = some (.ref l) := (valV_neg ne_sl).trans ((valV_neg ne_nl).trans (valV_pos rfl))
theorem p_seed : putK (dealD s n l) (.inr "seed") (.int x) = dealD x n l := by
  have a : ¬ (kx "number" = kx "seed") := fun e => ne_sn e.symm
  have b : ¬ (kx "left" = kx "seed") := fun e => ne_sl e.symm
  simp [putK, dealD, a, b]
theorem p_number : putK (dealD s n l) (.inr "number") (.int x) = dealD s x l := by
  have a := ne_sn
  have b : ¬ (kx "left" = kx "number") := fun e => ne_nl e.symm
  simp [putK, dealD, a, b]
theorem g_seed (h : H d = some (.dK (dealD s n l))) : DGet H d (.str "seed") (some (.int s)) := by
  have z := DGet.k (k := Sum.inr "seed") h
  rw [v_seed] at z
  exact z
theorem g_number (h : H d = some (.dK (dealD s n l))) : DGet H d (.str "number") (some (.int n)) := by
  have z := DGet.k (k := Sum.inr "number") h
  rw [v_number] at z
  exact z
theorem g_left (h : H d = some (.dK (dealD s n l))) : DGet H d (.str "left") (some (.ref l)) := by
  have z := DGet.k (k := Sum.inr "left") h
  rw [v_left] at z
  exact z
theorem u_seed (h : H d = some (.dK (dealD s n l))) : DPut H d (.str "seed") (.int x) (upd H d (.dK (dealD x n l))) := by
  refine .inl ⟨dealD s n l, .inr "seed", h, rfl, ?_, ?_⟩
  · show 3 < sizeLine
    exact small1000 (by decide)
  · rw [p_seed]
theorem u_number (h : H d = some (.dK (dealD s n l))) : DPut H d (.str "number") (.int x) (upd H d (.dK (dealD s x l))) := by
  refine .inl ⟨dealD s n l, .inr "number", h, rfl, ?_, ?_⟩
  · show 3 < sizeLine
    exact small1000 (by decide)
  · rw [p_number]
end
/-- a deal stands at d, its list at l -/
def DealX (H : Hp) (d l : Addr) (s n : Int) (ns : List Int) : Prop :=
  H d = some (.dK (dealD s n l)) ∧ H l = some (.lst (ns.map V.int)) ∧ 0 ≤ s ∧ s < 2147483648 ∧ 0 ≤ n ∧ ∀ x ∈ ns, 0 < x
def DealAt (H : Hp) (d l : Addr) : Prop := ∃ s n ns, DealX H d l s n ns
/-- all else stays -/
def Keep (d l : Addr) (H H' : Hp) : Prop := ∀ b o, H b = some o → b ≠ d → b ≠ l → H' b = some o
theorem Keep.refl (d l : Addr) (H : Hp) : Keep d l H H := fun _ _ e _ _ => e
theorem Keep.trans {d l : Addr} {H H1 H2 : Hp} (a : Keep d l H H1) (b : Keep d l H1 H2) : Keep d l H H2 := fun c o e h1 h2 => b c o (a c o e h1 h2) h1 h2
theorem Keep.of {d l : Addr} {H H' : Hp} (s : Same H H') : Keep d l H H' := fun b o e _ _ => s b o e
theorem Keep.upd {d l p : Addr} {H H' : Hp} {o : HO} (k : Keep d l H H') (hp : H p = none) : Keep d l H (upd H' p o) := fun b x e h1 h2 => by
  rw [upd_ne (ne_of_none e hp)]
  exact k b x e h1 h2
theorem Keep.at_d {d l : Addr} {H H' : Hp} {o : HO} (k : Keep d l H H') : Keep d l H (L2.upd H' d o) := fun b x e h1 h2 => by
  rw [upd_ne h1]
  exact k b x e h1 h2
theorem Keep.at_l {d l : Addr} {H H' : Hp} {o : HO} (k : Keep d l H H') : Keep d l H (L2.upd H' l o) := fun b x e h1 h2 => by
  rw [upd_ne h2]
  exact k b x e h1 h2
theorem DealX.ne {H : Hp} {d l : Addr} {s n : Int} {ns : List Int} (h : DealX H d l s n ns) : d ≠ l := ne_of h.1 h.2.1 (by intro z; cases z)
theorem DealX.same {H H' : Hp} {d l : Addr} {s n : Int} {ns : List Int} (h : DealX H d l s n ns) (e : Same H H') : DealX H' d l s n ns := ⟨e _ _ h.1, e _ _ h.2.1, h.2.2⟩
theorem DealAt.same {H H' : Hp} {d l : Addr} (h : DealAt H d l) (e : Same H H') : DealAt H' d l := let ⟨s, n, ns, z⟩ := h; ⟨s, n, ns, z.same e⟩
theorem DealAt.d_ne {H : Hp} {d l p : Addr} (h : DealAt H d l) (hp : H p = none) : p ≠ d := let ⟨_, _, _, z⟩ := h; (ne_of_none z.1 hp).symm
theorem DealAt.l_ne {H : Hp} {d l p : Addr} (h : DealAt H d l) (hp : H p = none) : p ≠ l := let ⟨_, _, _, z⟩ := h; (ne_of_none z.2.1 hp).symm
theorem DealAt.upd {H : Hp} {d l p : Addr} {o : HO} (h : DealAt H d l) (h1 : p ≠ d) (h2 : p ≠ l) : DealAt (L2.upd H p o) d l := let ⟨s, n, ns, z⟩ := h; ⟨s, n, ns, by rw [upd_ne h1.symm]; exact z.1, by rw [upd_ne h2.symm]; exact z.2.1, z.2.2⟩
/-- a draw below many -/
def spDraw : Sp := fun vs H Q _ => ∃ (d l : Addr) (many : Int), vs = [.ref d, .int many] ∧ DealAt H d l ∧ 0 < many ∧ many < 4611686018427387904 ∧
  ∀ (r : Int) (H' : Hp), 0 ≤ r → r < many → DealAt H' d l → Keep d l H H' → Q (.int r) H'
def spDeal (K : PySem.W.Frag) : Sp := fun vs H Q _ => ∃ (a : Addr) (ns : List Int), vs = [.ref a] ∧ SqL K H a (ns.map V.int) ∧ ns.length ≤ 63 ∧
  ∀ (d l : Addr) (H' : Hp), H d = none → H l = none → DealAt H' d l → Same H H' → Q (.ref d) H'
theorem merge_deal {s n : Int} {l : Addr} : mergeK [] (dealD s n l) = dealD s n l := by
  have a := ne_sn
  have b := ne_sl
  have c := ne_nl
  simp [mergeK, putK, dealD, a, b, c]
theorem cut_ints (ns : List Int) (lo hi : Option Int) : ∃ ms : List Int, cutV (ns.map V.int) lo hi = ms.map V.int ∧ ms.length ≤ ns.length := by
  refine ⟨(ns.drop (HT.sIx (ns.map V.int).length 0 lo)).take (HT.sIx (ns.map V.int).length (ns.map V.int).length hi - HT.sIx (ns.map V.int).length 0 lo), ?_, ?_⟩
  · rw [cutV, List.map_take, List.map_drop]
  · rw [List.length_take, List.length_drop]
    omega
theorem int_at {ns : List Int} {i : Nat} {x : V} (h : (ns.map V.int)[i]? = some x) : ∃ z, x = .int z ∧ z ∈ ns := by
  rw [List.getElem?_map] at h
  cases e : ns[i]? with
  | none =>
    rw [e] at h
    cases h
  | some z =>
    rw [e] at h
    exact ⟨z, (Option.some.inj h).symm, List.mem_of_getElem? e⟩
theorem snoc_ints (zs : List Int) (z : Int) : zs.map V.int ++ [V.int z] = (zs ++ [z]).map V.int := by
  rw [List.map_append]
  rfl
theorem divW {i j : Int} (h : 0 < j) (h2 : j < 4611686018427387904) : CDivW i j := wide_div (b := 64) h (by omega) (by decide) (by decide)
theorem mulS {i j : Int} (h : 0 ≤ i) (h2 : i < 4611686018427387904) : CMul i j := .inl ⟨by omega, by omega⟩
theorem mod_lo {a b : Int} (h : 0 < b) : 0 ≤ a % b := Int.emod_nonneg a (by omega)
theorem mod_hi {a b : Int} (h : 0 < b) : a % b < b := Int.emod_lt_of_pos a h
theorem nest (a b : Int) : (if b > a then b else a) = max a b := by
  by_cases h : b > a
  · rw [if_pos h]; omega
  · rw [if_neg h]; omega
end Fb
set_option Elab.async false
set_option linter.all false
set_option maxRecDepth 100000
set_option maxHeartbeats 2000000
namespace Fb
open PySem PySem.W PySem.Calls PyProof.Rows L2
/-- a def as the top has left it -/
def Has (K : PySem.W.Frag) (mg : Str → Option Value) (x : Str) (st : Stmt) : Prop := ∃ f fd, L2.Fun K x x st f fd ∧ mg x = some (.ref f)
def Cn (mg : Str → Option Value) (x : Str) (v : V) : Prop := ∃ u, mg x = some u ∧ RelV v u
theorem has_mk {K : PySem.W.Frag} {mg : Str → Option Value} {h : Heap} {x : Str} {st : Stmt} {f : Addr} {oc : Value} {od an : Option Addr} {sl : Array (Option Value)} {kV dc pm cd ct : Value} (X : K.In h) (G : h.Ns mainGlobals mg)
    (a : nsIn K mainGlobals x = some (some (.ref f))) (l : K.lookup f = some ⟨oc, od, .func (fnOf x x (defArgs st) (defBody st) (defScope st) .none kV dc pm an cd ct), sl⟩) (c : codeIn K cd x = true) (k : keepIn K (.ref f) = true) : Has K mg x st :=
  ⟨f, _, fun_mk l c k, mg_of X G a⟩
theorem rel_abs {u : Value} {v : V} (h : absV u = some v) : RelV v u := by
  cases u with
  | none => cases h; rfl
  | bool b => cases h; rfl
  | int i t => cases h; exact ⟨t, rfl⟩
  | str x t => cases h; exact ⟨t, rfl⟩
  | bytes b t => cases h; exact ⟨t, rfl⟩
  | float b t => cases h; exact ⟨t, rfl⟩
  | ref a => cases h; rfl
  | type n => cases h; rfl
  | _ => cases h
theorem vals_abs : ∀ {us : List Value} {vs : List V}, us.map absV = vs.map some → Vals vs us
  | [], [], _ => .nil
  | [], _ :: _, h => by cases h
  | _ :: _, [], h => by cases h
  | u :: us, v :: vs, h => by
    rw [List.map_cons, List.map_cons] at h
    injection h with h1 h2
    exact .cons (rel_abs h1) (vals_abs h2)
theorem tup_in {K : PySem.W.Frag} {a : Addr} {od : Option Addr} {its : Array Value} {n : Nat} {sl : Array (Option Value)} {xs : List V} (l : K.lookup a = some ⟨.type "tuple", od, .seq its n, sl⟩) (z : its.size ≤ 1000) (e : its.toList.map absV = xs.map some) (H : Hp) : SqT K H a xs :=
  .inr ⟨_, its, n, l, rfl, rfl, Nat.le_of_lt (small1000 z), vals_abs e⟩
theorem cn_in {K : PySem.W.Frag} {mg : Str → Option Value} {h : Heap} {x : Str} {u : Value} {v : V} (X : K.In h) (G : h.Ns mainGlobals mg) (a : nsIn K mainGlobals x = some (some u)) (e : absV u = some v) : Cn mg x v := ⟨u, mg_of X G a, rel_abs e⟩
theorem cn_loose {p : Program} {lv : List (Str × WData)} {mg : Str → Option Value} {h : Heap} {x : Str} {n : Int} (X : XL p lv mg h) (m : (x, WData.int n) ∈ lv) : Cn mg x (.int n) := by
  obtain ⟨v, a, r⟩ := X.2.val _ m
  cases r
  exact ⟨_, a, ⟨_, rfl⟩⟩
/-- the end of a law, with what the top has reckoned told -/
theorem walk_X {l : OpenLaw} {n k : Nat} {q : Program} {loose : List Str} {XP : (Str → Option Value) → Heap → Prop} {YP : World → Heap → Prop} {d : DefRec} {K : Params → Frag} {sp : World → Sp} {x : Str}
    (hn : l.most = some n) (hn2 : n ≤ sizeLine) (hdf : d.params.defaults = []) (hr : Room k callerA) (hY : ∀ (w : World) (h : Heap), YP w h → (K w.params).In h)
    (F : ∀ (w : World) (mg : Str → Option Value) (fa : Addr) (h : Heap), (K w.params).In h → h.Ns mainGlobals mg → XP mg h → mg d.name = some (.ref fa) →
      ∃ fd : FuncData, (∀ (s : Shared) (u : Value), BindsTo s fd ⟨[u], []⟩ [(x, u)]) ∧ ∀ base : Heap, (K w.params).In base → base.Ns mainGlobals mg → FnOk l.prog w (K w.params) mg base CX0 k fa fd [x] (sp w))
    (hsp : ∀ (w : World) (H : Hp) (a : Addr) (ns : List Int), ns.length ≤ n → SqL (K w.params) H a (ns.map V.int) → sp w [.ref a] H (fun v _ => v = .bl true) fun _ _ _ => False) :
    WalkO q loose XP YP l.row.toRowW d [] (fun f vs => PySem.call f vs) := by
  refine Att.attach_call hn hdf fun w s₀ s₁ mg mb fa o pm cd doc a vs ns G Y ho hd hcd hmg hobj hints hlen hg => ?_
  obtain ⟨fd, hb, hF⟩ := F w mg fa _ (hY w _ Y) G.T.g G.X hmg
  exact law_call (hY w _ Y) G.T.g G.T.b G.T.builtins G.T.nolimit hg hobj hints (Nat.le_trans hlen hn2) hr hF hb (fun H _ hS => hsp w H a ns hlen hS) fun H e s' z => z
end Fb
set_option Elab.async false
set_option linter.all false
set_option maxRecDepth 100000
set_option maxHeartbeats 4000000
namespace K01
open PySem PySem.Spec PyProof.Rows L2 Fb
def top (i : Nat) : Stmt := PySem.Challenge.pw_fourbind_k01_names_and_what_numbers_come.main.body.getD i (.Pass ⟨0, 0, 0, 0⟩)
abbrev sIsName : Stmt := top 4
abbrev sComeTo : Stmt := top 5
abbrev sDeal : Stmt := top 7
abbrev sDraw : Stmt := top 8
abbrev sTaken : Stmt := top 9
abbrev sText : Stmt := top 10
abbrev sLIsName : Stmt := top 11
abbrev sNumber : Stmt := top 12
abbrev sCome : Stmt := top 13
abbrev sLaw : Stmt := top 14
def words : List Str := ["let", "fn", "call", "set", "tell", "if", "else", "while", "times", "own", "one", "give", "end"]
structure Top (K : PySem.W.Frag) (mg : Str → Option Value) (aw : Addr) : Prop where
  n_len : mg "len" = none
  n_all : mg "all" = none
  n_max : mg "max" = none
  n_list : mg "list" = none
  n_reversed : mg "reversed" = none
  n_range : mg "range" = none
  n_int : mg "int" = none
  n_repr : mg "repr" = none
  c_WIDE : Cn mg "WIDE" (.int 1000000000)
  c_LONGEST : Cn mg "LONGEST" (.int 6)
  c_WORDS : Cn mg "WORDS" (.ref aw)
  w_words : ∀ H, SqT K H aw (words.map V.str)
  h_isname : Has K mg "is_name" sIsName
  h_cometo : Has K mg "come_to" sComeTo
  h_deal : Has K mg "_law_deal" sDeal
  h_draw : Has K mg "_law_draw" sDraw
  h_taken : Has K mg "_law_taken" sTaken
  h_text : Has K mg "_law_text" sText
  h_lisname : Has K mg "_law_is_name" sLIsName
  h_number : Has K mg "_law_number" sNumber
  h_come : Has K mg "_law_come" sCome
section
variable {P : Program} {w : World} {K : PySem.W.Frag} {mg : Str → Option Value} {base : Heap} {aw : Addr}
theorem scDraw : FnScope ["_law_deal_here", "_law_many", "_law_number_here", "_law_one", "_law_other"] ["_law_deal_here", "_law_many"] (defScope sDraw) := ⟨rfl, rfl, rfl, by decide +kernel, rfl, by decide +kernel, by decide +kernel⟩
theorem ok_draw (T : Top K mg aw) : C8.Cal P w K mg base 1 "_law_draw" spDraw [] := by
  obtain ⟨f, fd, F, gm⟩ := T.h_draw
  refine ⟨f, fd, ["_law_deal_here", "_law_many"], [], ?_, gm, F.kp, F.binds (fun _ _ _ _ _ _ us hl => match us, hl with | [_, _], _ => rfl), .nil⟩
  refine F.ok scDraw (fun vs H Q E h => ?_) (fun cdv A outer s H vs Q E hr h => ?_)
  · obtain ⟨d, l, many, rfl, _⟩ := h
    rfl
  · obtain ⟨d, l, many, rfl, ⟨s0, n0, ns0, hD⟩, m0, m1, k⟩ := h
    have hu := hu_of hr
    have hdl := hD.ne
    refine ⟨_, (C8.pss_cut (ps_while PassesOwn.never (PW.pt (pw_and (pt_cmpR op_eq (pe_dget hu (pv 0) pe_str (fun _ _ => rfl)) pe_int (nomark _)) (pw_and1 (pt_cmpR op_gt (pe_callB call_len_seq (by rfl) T.n_len (by decide +kernel) (pa_cons (pe_dget hu (pv 0) pe_str (fun _ _ => rfl)) pa_nil)) pe_int (nomark _))))) (pss_one (ps_dput hu (pv 0) pe_str (pe_bm0 PySem.F.plainAttrs_list PySem.F.slot_list_pop PySem.F.type_list_pop mt_pop (pe_dget hu (pv 0) pe_str (fun _ _ => rfl))) rfl)))
  (pss_cons (ps_set (i := 2) scDraw.nd rfl (Or.inl rfl) (pe_dget hu (pv 0) pe_str (fun _ _ => rfl)))
  (pss_cons (ps_if (pt_cmpR op_gt (pv 2) pe_int (nomark _))
    (pss_cons (ps_dput hu (pv 0) pe_str (pe_op op_fdivW (pv 2) (pv 1)) rfl)
  (pss_one (ps_ret (pe_op op_mod (pv 2) (pv 1)))))
    pss_nil)
  (pss_cons (ps_set (i := 3) scDraw.nd rfl (Or.inl rfl) (pe_op op_mod (pe_op op_add (pe_op op_mul (pe_dget hu (pv 0) pe_str (fun _ _ => rfl)) pe_int) pe_int) pe_int))
  (pss_cons (ps_dput hu (pv 0) pe_str (pe_op op_mod (pe_op op_add (pe_op op_mul (pv 3) pe_int) pe_int) pe_int) rfl)
  (pss_cons (ps_set (i := 4) scDraw.nd rfl (Or.inl rfl) (pe_op op_mod (pe_op op_mul (pe_dget hu (pv 0) pe_str (fun _ _ => rfl)) (pe_dget hu (pv 0) pe_str (fun _ _ => rfl))) pe_int))
  (pss_one (ps_ret (pe_op op_mod (pe_op op_add (pe_op op_mul (pe_op op_mod (pe_op op_mul (pv 3) (pv 3)) pe_int) pe_int) (pv 4)) (pv 1)))))))))), ?_⟩
    refine ⟨fun σ H1 => σ = [some (.ref d), some (.int many), none, none, none] ∧ Keep d l H H1 ∧ DealAt H1 d l, ?_, ?_⟩
    · refine ⟨fun m σ H1 => σ = [some (.ref d), some (.int many), none, none, none] ∧ Keep d l H H1 ∧ ∃ s n ns, m = ns.length ∧ DealX H1 d l s n ns, ⟨_, rfl, Keep.refl _ _ _, s0, n0, ns0, rfl, hD⟩, ?_⟩
      rintro m σ H1 ⟨rfl, hk, s1, n1, ns, rfl, h1⟩
      refine ⟨.ref d, rfl, d, .int n1, rfl, g_number h1.1, rfl, _, rfl, ?_⟩
      refine ite2 (fun e => ?_) (fun e => ?_)
      · refine ⟨.ref d, rfl, d, .ref l, rfl, g_left h1.1, l, ns.map V.int, rfl, .inl (SqL.of h1.2.1), _, _, rfl, rfl, _, rfl, ?_⟩
        refine ite2 (fun e2 => ?_) (fun e2 => ?_)
        · have hpos : 0 < ns.length := by
            have z := of_decide_eq_true e2
            rw [List.length_map] at z
            omega
          have hlast : (ns.map V.int)[(ns.map V.int).length - 1]? = some (.int (ns.getLast (by intro z; rw [z] at hpos; exact Nat.lt_irrefl _ hpos))) := by
            rw [List.length_map, List.getElem?_map, ← List.getLast?_eq_getElem?, List.getLast?_eq_some_getLast]
            rfl
          refine ⟨fun σ2 H2 => σ2 = [some (.ref d), some (.int many), none, none, none] ∧ Keep d l H H2 ∧ ∃ s n ns', ns'.length < ns.length ∧ DealX H2 d l s n ns', fun σ2 H2 ⟨a1, a2, a3, a4, a5, a6, a7⟩ => ⟨_, a6, a1, a2, a3, a4, a5, rfl, a7⟩, ?_⟩
          refine ⟨.ref d, rfl, d, .ref l, rfl, g_left h1.1, .inl ⟨rfl, _, SqL.of h1.2.1⟩, l, _, _, rfl, rfl, h1.2.1, hlast, .ref d, rfl, d, _, rfl, u_number (by rw [upd_ne hdl]; exact h1.1), ?_⟩
          refine ⟨rfl, hk.at_l.at_d, s1, _, ns.dropLast, by rw [List.length_dropLast]; omega, upd_same, ?_, h1.2.2.1, h1.2.2.2.1, ?_, fun x hx => h1.2.2.2.2.2 x (List.dropLast_subset _ hx)⟩
          · rw [upd_ne hdl.symm, upd_same, List.map_dropLast]
          · exact Int.le_of_lt (h1.2.2.2.2.2 _ (List.getLast_mem _))
        · exact ⟨rfl, hk, _, _, _, h1⟩
      · exact iteF ⟨rfl, hk, _, _, _, h1⟩
    · rintro σ H1 ⟨rfl, hk, s1, n1, ns, h1⟩
      refine ⟨.ref d, rfl, d, .int n1, rfl, g_number h1.1, _, rfl, _, _, rfl, rfl, _, rfl, ?_⟩
      refine ite2 (fun e => ?_) (fun e => ?_)
      · have hn : 0 < n1 := of_decide_eq_true e
        refine ⟨_, rfl, _, rfl, _, _, rfl, rfl, divW m0 m1, .ref d, rfl, d, _, rfl, u_number h1.1, _, rfl, _, rfl, _, _, rfl, rfl, m0, ?_⟩
        refine k _ _ (mod_lo m0) (mod_hi m0) ⟨s1, n1 / many, ns, upd_same, by rw [upd_ne hdl.symm]; exact h1.2.1, h1.2.2.1, h1.2.2.2.1, Int.ediv_nonneg (by omega) (by omega), h1.2.2.2.2.2⟩ hk.at_d
      · have q1 : (0 : Int) < 2147483647 := by decide
        have q2 : (0 : Int) < 2147483399 := by decide
        have q3 : (0 : Int) < 2147483563 := by decide
        have q4 : (0 : Int) < 2147483629 := by decide
        have b1 := mod_lo (a := s1 * 48271 + 7919) q1
        have b2 := mod_hi (a := s1 * 48271 + 7919) q1
        refine ⟨.ref d, rfl, d, .int s1, rfl, g_seed h1.1, _, _, rfl, rfl, mulS h1.2.2.1 (by have := h1.2.2.2.1; omega), _, _, rfl, rfl, _, _, rfl, rfl, q1, ?_⟩
        have c1 := mod_lo (a := (s1 * 48271 + 7919) % 2147483647 * 40692 + 104729) q2
        have c2 := mod_hi (a := (s1 * 48271 + 7919) % 2147483647 * 40692 + 104729) q2
        refine ⟨_, rfl, _, _, rfl, rfl, mulS b1 (by omega), _, _, rfl, rfl, _, _, rfl, rfl, q2, .ref d, rfl, d, _, rfl, u_seed h1.1, ?_⟩
        refine ⟨.ref d, rfl, d, .int _, rfl, g_seed upd_same, .ref d, rfl, d, .int _, rfl, g_seed upd_same, _, _, rfl, rfl, mulS c1 (by omega), _, _, rfl, rfl, q3, ?_⟩
        refine ⟨_, rfl, _, rfl, _, _, rfl, rfl, mulS b1 (by omega), _, _, rfl, rfl, q4, _, _, rfl, rfl, mulS (mod_lo q4) (Int.lt_trans (mod_hi q4) (by decide)), _, rfl, _, _, rfl, rfl, _, rfl, _, _, rfl, rfl, m0, ?_⟩
        exact k _ _ (mod_lo m0) (mod_hi m0) ⟨_, n1, ns, upd_same, by rw [upd_ne hdl.symm]; exact h1.2.1, c1, Int.lt_trans c2 (by decide), h1.2.2.2.2⟩ hk.at_d
theorem scDeal : FnScope ["_law_script", "_law_some", "_law_number_here", "_law_one"] ["_law_script"] (defScope sDeal) := ⟨rfl, rfl, rfl, by decide +kernel, rfl, by decide +kernel, by decide +kernel⟩
theorem ok_deal (T : Top K mg aw) : C8.Cal P w K mg base 1 "_law_deal" (spDeal K) [] := by
  obtain ⟨f, fd, F, gm⟩ := T.h_deal
  refine ⟨f, fd, ["_law_script"], [], ?_, gm, F.kp, F.binds (fun _ _ _ _ _ _ us hl => match us, hl with | [_], _ => rfl), .nil⟩
  refine F.ok scDeal (fun vs H Q E h => ?_) (fun cdv A outer s H vs Q E hr h => ?_)
  · obtain ⟨a, ns, rfl, _⟩ := h
    rfl
  · obtain ⟨a, ns, rfl, hS, hl, k⟩ := h
    have hu := hu_of hr
    refine ⟨_, (pss_cons (ps_setLc (i := 1) (own := [("_law_one", 3)]) rfl scDeal.nd rfl rfl (sw_true rfl rfl rfl (by decide +kernel)) (pi_list (pe_slice sl_list (pv 0) po_none (po_some pe_int))) (blkOk_by (own := [("_law_one", 3)]) (N := ["_law_script", "_law_some", "_law_number_here", "_law_one"]) (sc := defScope sDeal) (by decide +kernel)) (fun _ _ _ _ _ => (pg_name (i := 3) scDeal.nd rfl (Or.inl rfl))) (fun _ _ _ _ _ => pts_nil) (fun _ _ _ _ _ => (pe_callB (call_max2 rfl) (by rfl) T.n_max (by decide +kernel) (pa_cons (pv 3) (pa_cons (pe_op op_sub pe_int (pv 3)) pa_nil)))))
  (pss_cons (ps_set (i := 2) scDeal.nd rfl (Or.inl rfl) pe_int)
  (pss_cons (ps_for PassesOwn.never rfl (pi_list (pv 1)) (pg_name (i := 3) scDeal.nd rfl (Or.inl rfl))
    (pss_one (ps_set (i := 2) scDeal.nd rfl (Or.inl rfl) (pe_op op_mod (pe_op op_add (pe_op op_mul (pv 2) pe_int) (pe_op op_mod (pv 3) pe_int)) pe_int))))
  (pss_one (ps_ret (pe_disp (pps_cons pe_str (pv 2) (pps_cons pe_str pe_int (pps_cons pe_str (Fb.pe_listRev rfl rfl T.n_list rfl T.n_reversed (pe_lc (own := [("_law_one", 3)]) rfl scDeal.nd (pi_list (pv 1)) (blkOk_by (own := [("_law_one", 3)]) (N := ["_law_script", "_law_some", "_law_number_here", "_law_one"]) (sc := defScope sDeal) (by decide +kernel)) (fun _ _ _ _ _ => (pg_name (i := 3) scDeal.nd rfl (Or.inl rfl))) (fun _ _ _ _ _ => pts_one (pt_cmpR op_ge (pv 3) (pe_op op_pow pe_int pe_int) (nomark _))) (fun _ _ _ _ _ => (pv 3)))) pps_nil))) (by rfl) (by rfl) (fun z => by cases z) (by decide))))))), ?_⟩
    refine ⟨.ref a, rfl, 60, rfl, a, ns.map V.int, rfl, hS, fun c nc => ?_⟩
    obtain ⟨ms, em, lm⟩ := cut_ints ns none (some 60)
    have s1 : Same H (L2.upd H c (.lst (cutV (ns.map V.int) none (some 60)))) := same_new nc
    have hc : (L2.upd H c (.lst (cutV (ns.map V.int) none (some 60)))) c = some (.lst (ms.map V.int)) := by rw [upd_same, em]
    generalize L2.upd H c (.lst (cutV (ns.map V.int) none (some 60))) = H1 at s1 hc
    refine ⟨c, rfl, ⟨_, SqL.of hc⟩, fun D nD => lc_list (K := K) (a := c) (xs := ms.map V.int) (fun i H2 => Same H1 H2 ∧ ∃ zs : List Int, H2 D = some (.lst (zs.map V.int)) ∧ zs.length = i ∧ ∀ z ∈ zs, 0 ≤ z)
      ⟨same_new nD, [], upd_same, rfl, fun _ z => nomatch z⟩ (fun i H2 _ ⟨e, _⟩ => SqL.of (e _ _ hc)) ?_ ?_⟩
    · rintro i x H2 hx ⟨e2, zs, hz, lz, pz⟩
      obtain ⟨z, rfl, _⟩ := int_at hx
      have hi := (List.getElem?_eq_some_iff.mp hx).1
      rw [List.length_map] at hi
      refine ⟨rfl, _, rfl, _, rfl, _, _, rfl, rfl, _, _, rfl, _, hz, small1000 (by rw [List.length_map]; omega), fun b o e => ?_, zs ++ [max z (0 - z)], ?_, ?_, ?_⟩
      · rw [upd_ne (ne_of_none e nD)]
        exact e2 b o e
      · rw [upd_same, Fb.nest, snoc_ints]
      · rw [List.length_append, lz]
        rfl
      · intro y hy
        rcases List.mem_append.mp hy with q | q
        · exact pz y q
        · rw [List.mem_singleton.mp q]
          omega
    · rintro H2 ⟨e2, zs, hz, lz, pz⟩
      rw [List.length_map] at lz
      refine ⟨.ref D, rfl, D, rfl, ⟨_, SqL.of hz⟩, for_list (K := K) (a := D) (xs := zs.map V.int) (fun i σ H3 => H3 = H2 ∧ ∃ n y, σ = [some (.ref a), some (.ref D), some (.int n), y] ∧ 0 ≤ n ∧ n < 2147483647)
        ⟨rfl, 7919, none, rfl, by decide, by decide⟩ (fun i σ H3 _ ⟨e, _⟩ => by rw [e]; exact SqL.of hz) ?_ ?_⟩
      · rintro i x σ H3 hx ⟨rfl, n, y, rfl, n0, n1⟩
        obtain ⟨z, rfl, _⟩ := int_at hx
        refine ⟨_, rfl, _, _, rfl, rfl, mulS n0 (by omega), _, rfl, _, _, rfl, rfl, (by decide : (0 : Int) < 2147483629), _, _, rfl, rfl, _, _, rfl, rfl, (by decide : (0 : Int) < 2147483647), ?_⟩
        exact ⟨rfl, _, _, rfl, mod_lo (by decide), mod_hi (by decide)⟩
      · rintro σ H3 ⟨rfl, n, y, rfl, n0, n1⟩
        intro p np
        have sp1 : Same H3 (L2.upd H3 p (.dK [])) := same_new np
        have hp1 : (L2.upd H3 p (.dK [])) p = some (.dK []) := upd_same
        generalize L2.upd H3 p (.dK []) = H4 at sp1 hp1
        have hz4 := sp1 _ _ hz
        refine ⟨_, rfl, .ref D, rfl, D, rfl, ⟨_, SqL.of hz4⟩, fun D2 nD2 => lc_list (K := K) (a := D) (xs := zs.map V.int) (fun i H5 => Same H4 H5 ∧ ∃ ws : List Int, H5 D2 = some (.lst (ws.map V.int)) ∧ ws.length ≤ i ∧ ∀ z ∈ ws, 0 < z)
          ⟨same_new nD2, [], upd_same, Nat.le_refl _, fun _ z => nomatch z⟩ (fun i H5 _ ⟨e, _⟩ => SqL.of (e _ _ hz4)) ?_ ?_⟩
        · rintro i x H5 hx ⟨e5, ws, hw, lw, pw⟩
          obtain ⟨z, rfl, hzm⟩ := int_at hx
          have hi := (List.getElem?_eq_some_iff.mp hx).1
          rw [List.length_map] at hi
          refine ⟨rfl, _, rfl, _, _, rfl, rfl, ⟨by decide, by decide, by decide⟩, _, _, rfl, rfl, _, rfl, ite2 (fun g => ?_) (fun g => ?_)⟩
          · have hg := of_decide_eq_true g
            refine ⟨_, rfl, _, hw, small1000 (by rw [List.length_map]; omega), fun b o e => ?_, ws ++ [z], ?_, ?_, ?_⟩
            · rw [upd_ne (ne_of_none e nD2)]
              exact e5 b o e
            · rw [upd_same, snoc_ints]
            · rw [List.length_append]
              show ws.length + 1 ≤ i + 1
              omega
            · intro y hy
              rcases List.mem_append.mp hy with q | q
              · exact pw y q
              · rw [List.mem_singleton.mp q]
                exact Int.lt_of_lt_of_le (by decide) hg
          · exact ⟨e5, ws, hw, Nat.le_succ_of_le lw, pw⟩
        · rintro H5 ⟨e5, ws, hw, lw, pw⟩
          refine ⟨D2, _, rfl, SqL.of hw, fun q nq => ?_⟩
          have s6 : Same H5 (L2.upd H5 q (.lst (ws.map V.int).reverse)) := same_new nq
          refine ⟨s6 _ _ (e5 _ _ hp1), dealD n 0 q, rfl, by show 3 ≤ 15; decide, ?_⟩
          have nqp : q ≠ p := (ne_of_none (e5 _ _ hp1) nq).symm
          have sH : Same H H5 := s1.trans (e2.trans (sp1.trans e5))
          have np0 : H p = none := (s1.trans e2).free np
          refine k p q _ np0 (sH.free nq) ⟨n, 0, ws.reverse, by rw [upd_same, merge_deal], by rw [upd_ne nqp, upd_same, List.map_reverse], n0, by omega, by decide, fun x hx => pw x (List.mem_reverse.mp hx)⟩ fun b o e => ?_
          rw [upd_ne (ne_of_none e np0)]
          exact s6 _ _ (sH _ _ e)
end
end K01
set_option Elab.async false
set_option linter.all false
set_option maxRecDepth 100000
set_option maxHeartbeats 4000000
namespace K01
open PySem PySem.Spec PyProof.Rows L2 Fb
def lowC (c : Nat) : Bool := decide (97 ≤ c) && decide (c ≤ 122)
def nameB (z : Str) : Bool := (decide (1 ≤ z.length) && decide (z.length ≤ 6)) && (!inV (.str z) (words.map V.str) && z.cps.toList.all lowC)
def comeB (z : Str) (a b : Int) : Int :=
  if z = "+" then (a + b) % 1000000000 else if z = "-" then (a - b) % 1000000000 else if z = "*" then (a * b) % 1000000000 else if z = "<" then (if a < b then 1 else 0) else (if a = b then 1 else 0)
theorem comeB_range (z : Str) (a b : Int) : 0 ≤ comeB z a b ∧ comeB z a b < 1000000000 := by
  have h : (0 : Int) < 1000000000 := by decide
  unfold comeB
  split
  · exact ⟨mod_lo h, mod_hi h⟩
  · split
    · exact ⟨mod_lo h, mod_hi h⟩
    · split
      · exact ⟨mod_lo h, mod_hi h⟩
      · split
        · split <;> decide
        · split <;> decide
theorem str_of {x y : Str} (h : decide (V.str x = V.str y) = true) : x = y := V.str.inj (of_decide_eq_true h)
theorem str_not {x y : Str} (h : ¬ decide (V.str x = V.str y) = true) : ¬ x = y := fun e => h (decide_eq_true (congrArg V.str e))
theorem int_of {x y : Int} (h : decide (V.int x = V.int y) = true) : x = y := V.int.inj (of_decide_eq_true h)
theorem int_not {x y : Int} (h : ¬ decide (V.int x = V.int y) = true) : ¬ x = y := fun e => h (decide_eq_true (congrArg V.int e))
theorem atI_ok {α : Type} {xs : List α} {i : Int} (h0 : 0 ≤ i) (h1 : i < xs.length) : ∃ v, atI xs i = some v ∧ v ∈ xs := by
  have hl : i.toNat < xs.length := by omega
  refine ⟨xs[i.toNat], ?_, List.getElem_mem hl⟩
  have z := atI_nat (xs := xs) (j := i.toNat) (v := xs[i.toNat]) (List.getElem?_eq_getElem hl)
  rw [show ((i.toNat : Nat) : Int) = i by omega] at z
  exact z
theorem len_app (x y : Str) : (x ++ y).length = x.length + y.length := PySem.Str.length_append x y
theorem len_one (c : Nat) : (⟨#[c]⟩ : Str).length = 1 := rfl
theorem join_len : ∀ ys : List Str, (Txt.join "" ys).length = (ys.map (·.length)).sum := by
  intro ys
  rw [TL.join_eq]
  induction ys with
  | nil => rfl
  | cons x r ih =>
    cases r with
    | nil =>
      show x.length = x.length + 0
      rfl
    | cons y q =>
      show (x ++ ("" : Str) ++ Str.join "" (y :: q)).length = x.length + ((y :: q).map (·.length)).sum
      rw [len_app, len_app, ih, show (("" : Str)).length = 0 by decide +kernel]
      omega
theorem ones_sum : ∀ ys : List Str, (∀ y ∈ ys, y.length = 1) → (ys.map (·.length)).sum = ys.length
  | [], _ => rfl
  | y :: r, h => by
    rw [List.map_cons, List.sum_cons, h y List.mem_cons_self, ones_sum r fun z hz => h z (List.mem_cons_of_mem _ hz), List.length_cons]
    omega
theorem fit {n : Nat} (h : n ≤ 1000) : n ≤ sizeLine := Nat.le_of_lt (small1000 h)
/-! ### the promises -/
def spComeTo : Sp := fun vs H Q _ => ∃ (z : Str) (a b : Int), vs = [.str z, .int a, .int b] ∧ 0 ≤ a ∧ a < 1000000000 ∧ 0 ≤ b ∧ b < 1000000000 ∧ Q (.int (comeB z a b)) H
def spCome : Sp := fun vs H Q _ => ∃ (z : Str) (a b : Int), vs = [.str z, .int a, .int b] ∧ (z = "+" ∨ z = "-" ∨ z = "*" ∨ z = "<" ∨ z = "=") ∧ 0 ≤ a ∧ a < 1000000000 ∧ 0 ≤ b ∧ b < 1000000000 ∧ ∀ H', Same H H' → Q (.int (comeB z a b)) H'
def spName : Sp := fun vs H Q _ => ∃ z : Str, vs = [.str z] ∧ z.length ≤ 100 ∧ ∀ H', Same H H' → Q (.bl (nameB z)) H'
def spTaken : Sp := fun vs H Q _ => vs = [] ∧ ∀ p, H p = none → Q (.ref p) (L2.upd H p (.lst (words.map V.str)))
def spNumber : Sp := fun vs H Q _ => ∃ d l : Addr, vs = [.ref d] ∧ DealAt H d l ∧ ∀ (r : Int) (H' : Hp), 0 ≤ r → r < 1000000000 → DealAt H' d l → Keep d l H H' → Q (.int r) H'
def spText : Sp := fun vs H Q _ => ∃ d l : Addr, vs = [.ref d] ∧ DealAt H d l ∧ ∀ (z : Str) (H' : Hp), z.length ≤ 100 → DealAt H' d l → Keep d l H H' → Q (.str z) H'
section
variable {P : Program} {w : World} {K : PySem.W.Frag} {mg : Str → Option Value} {base : Heap} {aw : Addr}
theorem scComeTo : FnScope ["s", "a", "b"] ["s", "a", "b"] (defScope sComeTo) := ⟨rfl, rfl, rfl, by decide +kernel, rfl, by decide +kernel, by decide +kernel⟩
theorem ok_cometo (T : Top K mg aw) : C8.Cal P w K mg base 1 "come_to" spComeTo [] := by
  obtain ⟨f, fd, F, gm⟩ := T.h_cometo
  refine ⟨f, fd, ["s", "a", "b"], [], ?_, gm, F.kp, F.binds (fun _ _ _ _ _ _ us hl => match us, hl with | [_, _, _], _ => rfl), .nil⟩
  refine F.ok scComeTo (fun vs H Q E h => ?_) (fun cdv A outer s H vs Q E hr h => ?_)
  · obtain ⟨z, a, b, rfl, _⟩ := h
    rfl
  · obtain ⟨z, a, b, rfl, a0, a1, b0, b1, k⟩ := h
    have W0 : (0 : Int) < 1000000000 := by decide
    refine ⟨_, (pss_cons (ps_if (pt_cmpR op_eq (pv 0) pe_str (nomark _))
    (pss_one (ps_ret (pe_op op_mod (pe_op op_add (pv 1) (pv 2)) (C8.pe_gc rfl T.c_WIDE))))
    pss_nil)
  (pss_cons (ps_if (pt_cmpR op_eq (pv 0) pe_str (nomark _))
    (pss_one (ps_ret (pe_op op_mod (pe_op op_sub (pv 1) (pv 2)) (C8.pe_gc rfl T.c_WIDE))))
    pss_nil)
  (pss_cons (ps_if (pt_cmpR op_eq (pv 0) pe_str (nomark _))
    (pss_one (ps_ret (pe_op op_mod (pe_op op_mul (pv 1) (pv 2)) (C8.pe_gc rfl T.c_WIDE))))
    pss_nil)
  (pss_cons (ps_if (pt_cmpR op_eq (pv 0) pe_str (nomark _))
    (pss_one (ps_ret (pe_ifExp (pt_cmpR op_lt (pv 1) (pv 2) (nomark _)) pe_int pe_int)))
    pss_nil)
  (pss_one (ps_ret (pe_ifExp (pt_cmpR op_eq (pv 1) (pv 2) (nomark _)) pe_int pe_int))))))), ?_⟩
    refine ⟨_, rfl, rfl, _, rfl, ite2 (fun e => ?_) (fun e => ?_)⟩
    · rw [comeB, if_pos (str_of e)] at k
      exact ⟨_, rfl, _, rfl, _, _, rfl, rfl, _, _, rfl, rfl, W0, k⟩
    rw [comeB, if_neg (str_not e)] at k
    refine ⟨_, rfl, rfl, _, rfl, ite2 (fun e => ?_) (fun e => ?_)⟩
    · rw [if_pos (str_of e)] at k
      exact ⟨_, rfl, _, rfl, _, _, rfl, rfl, _, _, rfl, rfl, W0, k⟩
    rw [if_neg (str_not e)] at k
    refine ⟨_, rfl, rfl, _, rfl, ite2 (fun e => ?_) (fun e => ?_)⟩
    · rw [if_pos (str_of e)] at k
      exact ⟨_, rfl, _, rfl, _, _, rfl, rfl, mulS a0 (by omega), _, _, rfl, rfl, W0, k⟩
    rw [if_neg (str_not e)] at k
    refine ⟨_, rfl, rfl, _, rfl, ite2 (fun e => ?_) (fun e => ?_)⟩
    · rw [if_pos (str_of e)] at k
      refine ⟨_, rfl, _, rfl, _, _, rfl, rfl, _, rfl, ite2 (fun q => ?_) (fun q => ?_)⟩
      · rw [if_pos (of_decide_eq_true q)] at k
        exact k
      · rw [if_neg (fun z => q (decide_eq_true z))] at k
        exact k
    rw [if_neg (str_not e)] at k
    refine ⟨_, rfl, _, rfl, rfl, _, rfl, ite2 (fun q => ?_) (fun q => ?_)⟩
    · rw [if_pos (int_of q)] at k
      exact k
    · rw [if_neg (int_not q)] at k
      exact k
theorem scTaken : FnScope [] [] (defScope sTaken) := ⟨rfl, rfl, rfl, by decide +kernel, rfl, by decide +kernel, by decide +kernel⟩
theorem ok_taken (T : Top K mg aw) : C8.Cal P w K mg base 1 "_law_taken" spTaken [] := by
  obtain ⟨f, fd, F, gm⟩ := T.h_taken
  refine ⟨f, fd, [], [], ?_, gm, F.kp, F.binds (fun _ _ _ _ _ _ us hl => match us, hl with | [], _ => rfl), .nil⟩
  refine F.ok scTaken (fun vs H Q E h => ?_) (fun cdv A outer s H vs Q E hr h => ?_)
  · rw [h.1]
    rfl
  · obtain ⟨rfl, k⟩ := h
    refine ⟨_, (pss_one (ps_ret (pe_lst (pa_cons pe_str (pa_cons pe_str (pa_cons pe_str (pa_cons pe_str (pa_cons pe_str (pa_cons pe_str (pa_cons pe_str (pa_cons pe_str (pa_cons pe_str (pa_cons pe_str (pa_cons pe_str (pa_cons pe_str (pa_cons pe_str pa_nil)))))))))))))))), ?_⟩
    exact ⟨fit (by decide), fun p hp => k p hp⟩
theorem scNumber : FnScope ["_law_deal_here", "_law_number_here"] ["_law_deal_here"] (defScope sNumber) := ⟨rfl, rfl, rfl, by decide +kernel, rfl, by decide +kernel, by decide +kernel⟩
theorem ok_number (T : Top K mg aw) : C8.Cal P w K mg base 2 "_law_number" spNumber [] := by
  have C_law_draw : C8.Cal P w K mg base 1 "_law_draw" spDraw [] := ok_draw T
  obtain ⟨f, fd, F, gm⟩ := T.h_number
  refine ⟨f, fd, ["_law_deal_here"], [], ?_, gm, F.kp, F.binds (fun _ _ _ _ _ _ us hl => match us, hl with | [_], _ => rfl), .nil⟩
  refine F.ok scNumber (fun vs H Q E h => ?_) (fun cdv A outer s H vs Q E hr h => ?_)
  · obtain ⟨d, l, rfl, _⟩ := h
    rfl
  · obtain ⟨d, l, rfl, hD, k⟩ := h
    refine ⟨_, (pss_cons (ps_set (i := 1) scNumber.nd rfl (Or.inl rfl) (C8.pe_c C_law_draw hr (by decide) rfl (pa_cons (pv 0) (pa_cons pe_int pa_nil))))
  (pss_one (ps_ret (pe_ix ix_list (pe_lst (pa_cons (pv 1) (pa_cons (pe_op op_mod (pv 1) pe_int) (pa_cons (pe_op op_mod (pv 1) pe_int) (pa_cons (pe_op op_sub pe_int (pe_op op_mod (pv 1) pe_int)) pa_nil))))) (C8.pe_c C_law_draw hr (by decide) rfl (pa_cons (pv 0) (pa_cons pe_int pa_nil))) (fun _ _ => rfl))))), ?_⟩
    refine ⟨_, rfl, d, l, _, rfl, hD, by decide, by decide, fun r H1 r0 r1 D1 K1 => ?_⟩
    refine ⟨_, rfl, _, rfl, _, _, rfl, rfl, (by decide : (0 : Int) < 3), _, rfl, _, _, rfl, rfl, (by decide : (0 : Int) < 40000), _, rfl, _, _, rfl, rfl, (by decide : (0 : Int) < 3), _, _, rfl, rfl, fit (show 4 ≤ 1000 by decide), fun p np => ?_⟩
    refine ⟨_, rfl, d, l, _, rfl, D1.same (same_new np), by decide, by decide, fun q H2 q0 q1 D2 K2 => ?_⟩
    have hp : H2 p = some (.lst ([r, r % 3, r % 40000, 999999999 - r % 3].map V.int)) := K2 p _ upd_same (D1.d_ne np) (D1.l_ne np)
    obtain ⟨v, hv, mv⟩ := atI_ok (xs := [r, r % 3, r % 40000, 999999999 - r % 3].map V.int) (i := q) q0 (by rw [List.length_map]; exact q1)
    refine ⟨p, _, q, v, rfl, rfl, SqL.of hp, hv, ?_⟩
    obtain ⟨x, mx, rfl⟩ := List.mem_map.mp mv
    have K3 : Keep d l H H2 := K1.trans ((Keep.of (same_new np)).trans K2)
    have x0 : 0 ≤ x ∧ x < 1000000000 := by
      simp only [List.mem_cons, List.not_mem_nil, or_false] at mx
      rcases mx with e | e | e | e <;> (subst e; omega)
    exact k x H2 x0.1 x0.2 D2 K3
theorem scCome : FnScope ["_law_s", "_law_a", "_law_b"] ["_law_s", "_law_a", "_law_b"] (defScope sCome) := ⟨rfl, rfl, rfl, by decide +kernel, rfl, by decide +kernel, by decide +kernel⟩
theorem ix_p : Txt.index0 "+-*" "+" = some 0 := by decide +kernel
theorem ix_m : Txt.index0 "+-*" "-" = some 1 := by decide +kernel
theorem ix_t : Txt.index0 "+-*" "*" = some 2 := by decide +kernel
theorem ok_come (T : Top K mg aw) : C8.Cal P w K mg base 1 "_law_come" spCome [] := by
  obtain ⟨f, fd, F, gm⟩ := T.h_come
  refine ⟨f, fd, ["_law_s", "_law_a", "_law_b"], [], ?_, gm, F.kp, F.binds (fun _ _ _ _ _ _ us hl => match us, hl with | [_, _, _], _ => rfl), .nil⟩
  refine F.ok scCome (fun vs H Q E h => ?_) (fun cdv A outer s H vs Q E hr h => ?_)
  · obtain ⟨z, a, b, rfl, _⟩ := h
    rfl
  · obtain ⟨z, a, b, rfl, hz, a0, a1, b0, b1, k⟩ := h
    have W0 : (0 : Int) < 1000000000 := by decide
    refine ⟨_, (pss_cons (ps_if (pt_cmpR op_eq (pv 0) pe_str (nomark _))
    (pss_one (ps_ret (pe_callTy call_int1 (by rfl) T.n_int (by decide +kernel) (pa_cons (pe_cmpR op_lt (pv 1) (pv 2) (nomark _)) pa_nil))))
    pss_nil)
  (pss_cons (ps_if (pt_cmpR op_eq (pv 0) pe_str (nomark _))
    (pss_one (ps_ret (pe_callTy call_int1 (by rfl) T.n_int (by decide +kernel) (pa_cons (pe_cmpR op_eq (pv 1) (pv 2) (nomark _)) pa_nil))))
    pss_nil)
  (pss_one (ps_ret (pe_op op_mod (pe_ix ix_list (pe_lst (pa_cons (pe_op op_add (pv 1) (pv 2)) (pa_cons (pe_op op_sub (pv 1) (pv 2)) (pa_cons (pe_op op_mul (pv 1) (pv 2)) pa_nil)))) (pe_bmS PySem.F.plainAttrs_str PySem.F.slot_str_index PySem.F.type_str_index (mt_indexX rfl takes0) pe_str (pa_cons (pv 0) pa_nil)) (fun _ _ => rfl)) pe_int))))), ?_⟩
    refine ⟨_, rfl, rfl, _, rfl, ite2 (fun e => ?_) (fun e => ?_)⟩
    · have e := str_of e
      subst e
      have k := k H (Same.refl H)
      refine ⟨_, rfl, _, rfl, _, _, rfl, rfl, .inr ⟨_, rfl, ?_⟩⟩
      have ec : comeB "<" a b = if decide (a < b) = true then 1 else 0 := by
        rw [comeB, if_neg (by decide +kernel), if_neg (by decide +kernel), if_neg (by decide +kernel), if_pos rfl]
        simp only [decide_eq_true_eq]
      rw [ec] at k
      exact k
    have n1 := str_not e
    refine ⟨_, rfl, rfl, _, rfl, ite2 (fun e => ?_) (fun e => ?_)⟩
    · have e := str_of e
      subst e
      have k := k H (Same.refl H)
      refine ⟨_, rfl, _, rfl, rfl, .inr ⟨_, rfl, ?_⟩⟩
      have ec : comeB "=" a b = if decide (V.int a = V.int b) = true then 1 else 0 := by
        rw [comeB, if_neg (by decide +kernel), if_neg (by decide +kernel), if_neg (by decide +kernel), if_neg (by decide +kernel)]
        simp only [decide_eq_true_eq, V.int.injEq]
      rw [ec] at k
      exact k
    have n2 := str_not e
    refine ⟨_, rfl, _, rfl, _, _, rfl, rfl, _, rfl, _, rfl, _, _, rfl, rfl, _, rfl, _, rfl, _, _, rfl, rfl, mulS a0 (by omega), fit (show 3 ≤ 1000 by decide), fun p np => ?_⟩
    have hp : SqL K (L2.upd H p (.lst [V.int (a + b), V.int (a - b), V.int (a * b)])) p [V.int (a + b), V.int (a - b), V.int (a * b)] := SqL.of upd_same
    have sm : Same H (L2.upd H p (.lst [V.int (a + b), V.int (a - b), V.int (a * b)])) := same_new np
    rcases hz with e | e | e | e | e
    · subst e
      refine ⟨rfl, _, rfl, _, _, rfl, rfl, fun j hj => ?_, fun no => absurd (ix_p.symm.trans no) (by intro q; cases q)⟩
      rw [ix_p] at hj
      cases hj
      refine ⟨p, _, _, _, rfl, rfl, hp, atI_nat (j := 0) rfl, _, _, rfl, rfl, W0, ?_⟩
      have k := k _ sm
      rw [comeB, if_pos rfl] at k
      exact k
    · subst e
      refine ⟨rfl, _, rfl, _, _, rfl, rfl, fun j hj => ?_, fun no => absurd (ix_m.symm.trans no) (by intro q; cases q)⟩
      rw [ix_m] at hj
      cases hj
      refine ⟨p, _, _, _, rfl, rfl, hp, atI_nat (j := 1) rfl, _, _, rfl, rfl, W0, ?_⟩
      have k := k _ sm
      rw [comeB, if_neg (by decide +kernel), if_pos rfl] at k
      exact k
    · subst e
      refine ⟨rfl, _, rfl, _, _, rfl, rfl, fun j hj => ?_, fun no => absurd (ix_t.symm.trans no) (by intro q; cases q)⟩
      rw [ix_t] at hj
      cases hj
      refine ⟨p, _, _, _, rfl, rfl, hp, atI_nat (j := 2) rfl, _, _, rfl, rfl, W0, ?_⟩
      have k := k _ sm
      rw [comeB, if_neg (by decide +kernel), if_neg (by decide +kernel), if_pos rfl] at k
      exact k
    · exact absurd e n1
    · exact absurd e n2
end
end K01
set_option Elab.async false
set_option linter.all false
set_option maxRecDepth 100000
set_option maxHeartbeats 4000000
namespace K01
open PySem PySem.Spec PyProof.Rows L2 Fb
theorem cp_a : (("a" : Str)).cps.toList = [97] := by decide +kernel
theorem cp_z : (("z" : Str)).cps.toList = [122] := by decide +kernel
abbrev abc : Str := "abcdefghijklmnopqrstuvwxyz"
theorem cp_abc : abc.cps.toList = List.range' 97 26 := by decide +kernel
theorem one_lt (a b : Nat) : ([a] < [b]) ↔ a < b := by
  rw [List.cons_lt_cons_iff]
  constructor
  · rintro (h | ⟨_, h⟩)
    · exact h
    · exact absurd h (by simp)
  · exact fun h => .inl h
theorem lo_is (c : Nat) : (!decide ([c] < [97])) = decide (97 ≤ c) := by
  rw [Bool.eq_iff_iff]
  simp only [Bool.not_eq_true', decide_eq_false_iff_not, decide_eq_true_eq, one_lt]
  omega
theorem hi_is (c : Nat) : (!decide ([122] < [c])) = decide (c ≤ 122) := by
  rw [Bool.eq_iff_iff]
  simp only [Bool.not_eq_true', decide_eq_false_iff_not, decide_eq_true_eq, one_lt]
  omega
theorem abc_is (c : Nat) : decide (c ∈ abc.cps.toList) = lowC c := by
  rw [cp_abc, Bool.eq_iff_iff]
  unfold lowC
  simp only [decide_eq_true_eq, Bool.and_eq_true, List.mem_range'_1]
  omega
theorem take_snoc {α : Type} {xs : List α} {i : Nat} {c : α} (h : xs[i]? = some c) : xs.take (i + 1) = xs.take i ++ [c] := by
  rw [List.take_add_one, h]
  rfl
theorem cps_at {z : Str} {i : Nat} {c : Nat} (h : z.cps[i]? = some c) : z.cps.toList[i]? = some c := by
  rw [Array.getElem?_toList]
  exact h
theorem all_bl (cs : List Nat) : ((cs.map lowC).all id) = cs.all lowC := by
  rw [List.all_map]
  rfl
theorem keep_all (cs : List Nat) : decide ((V.int ((cs.filter lowC).length : Nat)) = V.int (cs.length : Nat)) = cs.all lowC := by
  rw [Bool.eq_iff_iff]
  simp only [decide_eq_true_eq, V.int.injEq, List.all_eq_true]
  constructor
  · intro h
    have h2 : (cs.filter lowC).length = cs.length := by omega
    exact List.length_filter_eq_length_iff.mp h2
  · intro h
    have h2 := List.length_filter_eq_length_iff.mpr h
    omega
def signV (c : Nat) : V := .str ⟨#[c]⟩
section
variable {P : Program} {w : World} {K : PySem.W.Frag} {mg : Str → Option Value} {base : Heap} {aw : Addr}
theorem flat_words : (words.map V.str).all flatV = true := by decide +kernel
theorem scIsName : FnScope ["text", "sign"] ["text"] (defScope sIsName) := ⟨rfl, rfl, rfl, by decide +kernel, rfl, by decide +kernel, by decide +kernel⟩
theorem ok_isname (T : Top K mg aw) : C8.Cal P w K mg base 1 "is_name" spName [] := by
  obtain ⟨f, fd, F, gm⟩ := T.h_isname
  refine ⟨f, fd, ["text"], [], ?_, gm, F.kp, F.binds (fun _ _ _ _ _ _ us hl => match us, hl with | [_], _ => rfl), .nil⟩
  refine F.ok scIsName (fun vs H Q E h => ?_) (fun cdv A outer s H vs Q E hr h => ?_)
  · obtain ⟨z, rfl, _⟩ := h
    rfl
  · obtain ⟨z, rfl, hz, k⟩ := h
    have k0 := k H (Same.refl H)
    refine ⟨_, (pss_cons (ps_if (pt_not (pt_chain op_le op_le pe_int (pe_callB call_len_str (by rfl) T.n_len (by decide +kernel) (pa_cons (pv 0) pa_nil)) (C8.pe_gc rfl T.c_LONGEST)))
    (pss_one (ps_ret pe_bl))
    pss_nil)
  (pss_cons (ps_if (pt_cmpR op_in_seq (pv 0) (C8.pe_gc rfl T.c_WORDS) (by rfl))
    (pss_one (ps_ret pe_bl))
    pss_nil)
  (pss_one (ps_ret (pe_callB (cr_all rfl) (by rfl) T.n_all (by decide +kernel) (pa_cons (pe_lc (own := [("sign", 1)]) rfl scIsName.nd (pi_str (pv 0)) (blkOk_by (own := [("sign", 1)]) (N := ["text", "sign"]) (sc := defScope sIsName) (by decide +kernel)) (fun _ _ _ _ _ => (pg_name (i := 1) scIsName.nd rfl (Or.inl rfl))) (fun _ _ _ _ _ => pts_nil) (fun _ _ _ _ _ => (pe_chain op_le_str op_le_str pe_str (pv 1) pe_str))) pa_nil)))))), ?_⟩
    refine ⟨_, rfl, z, rfl, fit (by omega), _, _, rfl, rfl, _, rfl, ite2 (fun e1 => ?_) (fun e1 => ?_)⟩
    · have h1 : 1 ≤ z.length := by
        have := of_decide_eq_true e1
        omega
      refine ⟨_, _, rfl, rfl, _, rfl, ite2 (fun e2 => ?_) (fun e2 => ?_)⟩
      · have h2 : ¬ z.length ≤ 6 := fun q => by
          rw [decide_eq_true (show ((z.length : Nat) : Int) ≤ 6 by omega)] at e2
          exact absurd e2 (by decide)
        rw [nameB, decide_eq_false h2, Bool.and_false, Bool.false_and] at k0
        exact k0
      · have h2 : z.length ≤ 6 := by
          by_cases q : ((z.length : Nat) : Int) ≤ 6
          · omega
          · rw [decide_eq_false q] at e2
            exact absurd rfl e2
        have n1 : nameB z = (!inV (.str z) (words.map V.str) && z.cps.toList.all lowC) := by
          rw [nameB, decide_eq_true h1, decide_eq_true h2]
          rfl
        refine ⟨_, rfl, aw, words.map V.str, rfl, .inr (T.w_words H), rfl, flat_words, _, rfl, ite2 (fun e3 => ?_) (fun e3 => ?_)⟩
        · have e3 : inV (.str z) (words.map V.str) = true := e3
          rw [n1, e3] at k0
          exact k0
        · have e3 : inV (.str z) (words.map V.str) = false := Bool.eq_false_iff.mpr e3
          rw [n1, e3] at k
          refine ⟨_, rfl, z, rfl, fun D nD => lc_it walk_str (fun i H2 => Same H H2 ∧ H2 D = some (.lst (((z.cps.toList.take i).map lowC).map V.bl))) ⟨same_new nD, upd_same⟩ (fun _ _ _ _ => True.intro) ?_ ?_⟩
          · rintro i x H2 H3 hi ⟨s2, hD⟩ ⟨rfl, c, hc, rfl⟩
            have hl : z.cps.size ≤ 100 := hz
            have fin : ∀ b : Bool, b = lowC c → ∃ acc, H3 D = some (HO.lst acc) ∧ acc.length < sizeLine ∧ (Same H (L2.upd H3 D (.lst (acc ++ [V.bl b]))) ∧ (L2.upd H3 D (.lst (acc ++ [V.bl b]))) D = some (.lst (((z.cps.toList.take (i + 1)).map lowC).map V.bl))) := fun b eb => by
              refine ⟨_, hD, small1000 ?_, fun q o e => ?_, ?_⟩
              · rw [List.length_map, List.length_map, List.length_take]
                omega
              · rw [upd_ne (ne_of_none e nD)]
                exact s2 q o e
              · rw [upd_same, take_snoc (cps_at hc), eb, List.map_append, List.map_append]
                rfl
            refine ⟨rfl, _, rfl, _, _, rfl, rfl, _, rfl, ?_⟩
            show if (!decide ([c] < (("a" : Str)).cps.toList)) = true then _ else _
            rw [cp_a, lo_is]
            refine ite2 (fun g => ?_) (fun g => ?_)
            · refine ⟨_, _, rfl, rfl, ?_⟩
              show ∃ acc, _
              refine fin _ ?_
              show (!decide ((("z" : Str)).cps.toList < [c])) = lowC c
              rw [cp_z, hi_is, lowC, g, Bool.true_and]
            · refine fin false ?_
              rw [lowC, Bool.eq_false_iff.mpr g, Bool.false_and]
          · rintro H2 ⟨s2, hD⟩
            refine ⟨D, z.cps.toList.map lowC, rfl, SqL.of ?_, ?_⟩
            · rw [hD, show z.cps.size = z.cps.toList.length by simp, List.take_length]
            · rw [all_bl]
              exact k H2 s2
    · have h1 : ¬ 1 ≤ z.length := fun q => e1 (decide_eq_true (by omega))
      rw [nameB, decide_eq_false h1, Bool.false_and, Bool.false_and] at k0
      exact ⟨_, rfl, k0⟩
theorem scLIsName : FnScope ["_law_text_here", "_law_letters", "_law_sign"] ["_law_text_here"] (defScope sLIsName) := ⟨rfl, rfl, rfl, by decide +kernel, rfl, by decide +kernel, by decide +kernel⟩
theorem ok_lisname (T : Top K mg aw) : C8.Cal P w K mg base 2 "_law_is_name" spName [] := by
  have C_law_taken : C8.Cal P w K mg base 1 "_law_taken" spTaken [] := ok_taken T
  obtain ⟨f, fd, F, gm⟩ := T.h_lisname
  refine ⟨f, fd, ["_law_text_here"], [], ?_, gm, F.kp, F.binds (fun _ _ _ _ _ _ us hl => match us, hl with | [_], _ => rfl), .nil⟩
  refine F.ok scLIsName (fun vs H Q E h => ?_) (fun cdv A outer s H vs Q E hr h => ?_)
  · obtain ⟨z, rfl, _⟩ := h
    rfl
  · obtain ⟨z, rfl, hz, k⟩ := h
    refine ⟨_, (pss_cons (ps_setLc (i := 1) (own := [("_law_sign", 2)]) rfl scLIsName.nd rfl rfl (sw_true rfl rfl rfl (by decide +kernel)) (pi_str (pv 0)) (blkOk_by (own := [("_law_sign", 2)]) (N := ["_law_text_here", "_law_letters", "_law_sign"]) (sc := defScope sLIsName) (by decide +kernel)) (fun _ _ _ _ _ => (pg_name (i := 2) scLIsName.nd rfl (Or.inl rfl))) (fun _ _ _ _ _ => pts_one (pt_cmpR op_in_sign (pv 2) pe_str rfl)) (fun _ _ _ _ _ => (pv 2)))
  (pss_one (ps_ret (pe_and (pe_chain op_lt op_lt pe_int (pe_callB call_len_str (by rfl) T.n_len (by decide +kernel) (pa_cons (pv 0) pa_nil)) pe_int) (pe_and (pe_cmpR op_eq (pe_callB call_len_seq (by rfl) T.n_len (by decide +kernel) (pa_cons (pv 1) pa_nil)) (pe_callB call_len_str (by rfl) T.n_len (by decide +kernel) (pa_cons (pv 0) pa_nil)) (nomark _)) (pe_one (pe_cmpR op_notIn_seq (pv 0) (Fb.pe_c0 C_law_taken hr (by decide) rfl) (by rfl)))))))), ?_⟩
    refine ⟨_, rfl, z, rfl, fun D nD => lc_it walk_str (fun i H2 => Same H H2 ∧ H2 D = some (.lst (((z.cps.toList.take i).filter lowC).map signV))) ⟨same_new nD, upd_same⟩ (fun _ _ _ _ => True.intro) ?_ ?_⟩
    · rintro i x H2 H3 hi ⟨s2, hD⟩ ⟨rfl, c, hc, rfl⟩
      have hl : z.cps.size ≤ 100 := hz
      refine ⟨rfl, _, rfl, c, abc, rfl, rfl, _, rfl, ?_⟩
      rw [abc_is]
      refine ite2 (fun g => ?_) (fun g => ?_)
      · refine ⟨_, rfl, _, hD, small1000 ?_, fun q o e => ?_, ?_⟩
        · rw [List.length_map]
          have := List.length_filter_le lowC (z.cps.toList.take i)
          rw [List.length_take] at this
          omega
        · rw [upd_ne (ne_of_none e nD)]
          exact s2 q o e
        · rw [upd_same, take_snoc (cps_at hc), List.filter_append, List.map_append]
          simp only [List.filter_cons, g, if_true, List.filter_nil]
          rfl
      · refine ⟨s2, ?_⟩
        rw [hD, take_snoc (cps_at hc), List.filter_append]
        simp only [List.filter_cons, Bool.eq_false_iff.mpr g, List.filter_nil]
        simp
    · rintro H2 ⟨s2, hD⟩
      rw [show z.cps.size = z.cps.toList.length by simp, List.take_length] at hD
      have k0 := k H2 s2
      have lz : z.length = z.cps.toList.length := by
        show z.cps.size = _
        simp
      refine ⟨_, rfl, z, rfl, fit (by omega), _, _, rfl, rfl, _, rfl, ite2 (fun e1 => ?_) (fun e1 => ?_)⟩
      · have h1 : 1 ≤ z.length := by
          have := of_decide_eq_true e1
          omega
        refine ⟨_, _, rfl, rfl, _, rfl, ite2 (fun e2 => ?_) (fun e2 => ?_)⟩
        · have h2 : z.length ≤ 6 := by
            have := of_decide_eq_true e2
            omega
          refine ⟨_, rfl, D, _, rfl, .inl (SqL.of hD), _, rfl, z, rfl, fit (by omega), rfl, _, rfl, ?_⟩
          rw [List.length_map, lz, keep_all]
          refine ite2 (fun e3 => ?_) (fun e3 => ?_)
          · refine ⟨_, rfl, rfl, fun p np => ?_⟩
            refine ⟨p, _, rfl, .inl (SqL.of upd_same), rfl, flat_words, ?_⟩
            have k1 := k (L2.upd H2 p (.lst (words.map V.str))) (s2.trans (same_new np))
            rw [nameB, decide_eq_true h1, decide_eq_true h2, e3, Bool.and_true, Bool.and_true, Bool.true_and] at k1
            exact k1
          · rw [nameB, Bool.eq_false_iff.mpr e3, Bool.and_false, Bool.and_false] at k0
            exact k0
        · have h2 : ¬ z.length ≤ 6 := fun q => e2 (decide_eq_true (by omega))
          rw [nameB, decide_eq_false h2, Bool.and_false, Bool.false_and] at k0
          exact k0
      · have h1 : ¬ 1 ≤ z.length := fun q => e1 (decide_eq_true (by omega))
        rw [nameB, decide_eq_false h1, Bool.false_and, Bool.false_and] at k0
        exact ⟨_, rfl, k0⟩
end
end K01
set_option Elab.async false
set_option linter.all false
set_option maxRecDepth 100000
set_option maxHeartbeats 4000000
namespace K01
open PySem PySem.Spec PyProof.Rows L2 Fb
theorem len_abc : abc.cps.toList.length = 26 := by decide +kernel
theorem len_abc2 : abc.length = 26 := by decide +kernel
abbrev sg : Str := "ABCXYZ0189 !\"#$&'()*+,-./:;<=>?\x40[]^_`{|}~\n"
theorem len_sg : sg.length = 42 := by decide +kernel
theorem len_sg2 : sg.cps.toList.length = 42 := by decide +kernel
theorem words_short : ∀ y ∈ words, y.length ≤ 5 := by decide +kernel
theorem cut_len (z : Str) (lo hi : Option Int) : (cutS z lo hi).length ≤ z.length := L2.cutS_length z lo hi
section
variable {P : Program} {w : World} {K : PySem.W.Frag} {mg : Str → Option Value} {base : Heap} {aw : Addr}
theorem scText : FnScope ["_law_deal_here", "_law_letters", "_law_text_here", "_law_way", "_law_word", "_law_signs", "_law_at", "_law_k"] ["_law_deal_here"] (defScope sText) := ⟨rfl, rfl, rfl, by decide +kernel, rfl, by decide +kernel, by decide +kernel⟩
theorem ok_text (T : Top K mg aw) : C8.Cal P w K mg base 2 "_law_text" spText [] := by
  have C_law_draw : C8.Cal P w K mg base 1 "_law_draw" spDraw [] := ok_draw T
  have C_law_taken : C8.Cal P w K mg base 1 "_law_taken" spTaken [] := ok_taken T
  obtain ⟨f, fd, F, gm⟩ := T.h_text
  refine ⟨f, fd, ["_law_deal_here"], [], ?_, gm, F.kp, F.binds (fun _ _ _ _ _ _ us hl => match us, hl with | [_], _ => rfl), .nil⟩
  refine F.ok scText (fun vs H Q E h => ?_) (fun cdv A outer s H vs Q E hr h => ?_)
  · obtain ⟨d, l, rfl, _⟩ := h
    rfl
  · obtain ⟨d, l, rfl, hD, k⟩ := h
    refine ⟨_, (pss_cons (ps_set (i := 1) scText.nd rfl (Or.inr rfl) pe_str)
  (pss_cons (ps_set (i := 2) scText.nd rfl (Or.inl rfl) (pe_join pe_str (pe_lc (own := [("_law_k", 7)]) rfl scText.nd (pi_range1 rfl T.n_range (pa_cons (C8.pe_c C_law_draw hr (by decide) rfl (pa_cons (pv 0) (pa_cons pe_int pa_nil))) pa_nil)) (blkOk_by (own := [("_law_k", 7)]) (N := ["_law_deal_here", "_law_letters", "_law_text_here", "_law_way", "_law_word", "_law_signs", "_law_at", "_law_k"]) (sc := defScope sText) (by decide +kernel)) (fun _ _ _ _ _ => (pg_name (i := 7) scText.nd rfl (Or.inl rfl))) (fun _ _ _ _ _ => pts_nil) (fun _ _ _ _ _ => (pe_ix ix_str (pv 1) (C8.pe_c C_law_draw hr (by decide) rfl (pa_cons (pv 0) (pa_cons pe_int pa_nil))) (fun _ _ => rfl))))))
  (pss_cons (ps_set (i := 3) scText.nd rfl (Or.inl rfl) (C8.pe_c C_law_draw hr (by decide) rfl (pa_cons (pv 0) (pa_cons pe_int pa_nil))))
  (C8.pss_cut (ps_if (pt_cmpR op_eq (pv 3) pe_int (nomark _))
    (pss_one (ps_set (i := 2) scText.nd rfl (Or.inl rfl) (pe_ix ix_list (Fb.pe_c0 C_law_taken hr (by decide) rfl) (C8.pe_c C_law_draw hr (by decide) rfl (pa_cons (pv 0) (pa_cons pe_int pa_nil))) (fun _ _ => rfl))))
    pss_nil)
  (C8.pss_cut (ps_if (pt_cmpR op_eq (pv 3) pe_int (nomark _))
    (pss_cons (ps_set (i := 4) scText.nd rfl (Or.inl rfl) (pe_ix ix_list (Fb.pe_c0 C_law_taken hr (by decide) rfl) (C8.pe_c C_law_draw hr (by decide) rfl (pa_cons (pv 0) (pa_cons pe_int pa_nil))) (fun _ _ => rfl)))
  (pss_one (ps_set (i := 2) scText.nd rfl (Or.inl rfl) (pe_ix ix_list (pe_lst (pa_cons (pe_op op_add_str (pv 4) (pe_ix ix_str (pv 1) (C8.pe_c C_law_draw hr (by decide) rfl (pa_cons (pv 0) (pa_cons pe_int pa_nil))) (fun _ _ => rfl))) (pa_cons (pe_slice sl_str (pv 4) (po_some pe_int) po_none) (pa_cons (pe_slice sl_str (pv 4) po_none (po_some (pe_un un_neg pe_int))) (pa_cons (pe_op op_add_str (pv 4) (pv 4)) pa_nil))))) (C8.pe_c C_law_draw hr (by decide) rfl (pa_cons (pv 0) (pa_cons pe_int pa_nil))) (fun _ _ => rfl)))))
    pss_nil)
  (C8.pss_cut (ps_if (pt_cmpR op_eq (pv 3) pe_int (nomark _))
    (pss_cons (ps_set (i := 5) scText.nd rfl (Or.inl rfl) pe_str)
  (pss_cons (ps_set (i := 6) scText.nd rfl (Or.inl rfl) (C8.pe_c C_law_draw hr (by decide) rfl (pa_cons (pv 0) (pa_cons (pe_op op_add (pe_callB call_len_str (by rfl) T.n_len (by decide +kernel) (pa_cons (pv 2) pa_nil)) pe_int) pa_nil))))
  (pss_one (ps_set (i := 2) scText.nd rfl (Or.inl rfl) (pe_op op_add_str (pe_op op_add_str (pe_slice sl_str (pv 2) po_none (po_some (pv 6))) (pe_ix ix_str (pv 5) (C8.pe_c C_law_draw hr (by decide) rfl (pa_cons (pv 0) (pa_cons (pe_callB call_len_str (by rfl) T.n_len (by decide +kernel) (pa_cons (pv 5) pa_nil)) pa_nil))) (fun _ _ => rfl))) (pe_slice sl_str (pv 2) (po_some (pe_op op_add (pv 6) (C8.pe_c C_law_draw hr (by decide) rfl (pa_cons (pv 0) (pa_cons pe_int pa_nil))))) po_none))))))
    pss_nil)
  (pss_one (ps_ret (pv 2))))))))), ?_⟩
    refine ⟨⟨_, rfl⟩, _, rfl, d, l, _, rfl, hD, by decide, by decide, fun r H1 r0 r1 D1 K1 => ⟨r, rfl, by omega, by omega, fun p np => lc_range (lo := 0) (n := r.toNat)
      (fun i H2 => DealAt H2 d l ∧ Keep d l H H2 ∧ ∃ ys : List Str, H2 p = some (.lst (ys.map V.str)) ∧ ys.length = i ∧ ∀ y ∈ ys, y.length = 1)
      ⟨D1.same (same_new np), K1.trans (Keep.of (same_new np)), [], upd_same, rfl, fun _ z => nomatch z⟩ ?_ ?_⟩⟩
    · rintro i H2 hi ⟨D2, K2, ys, hp, ly, oy⟩
      have pd := D1.d_ne np
      have pl := D1.l_ne np
      refine ⟨rfl, _, rfl, _, rfl, d, l, _, rfl, D2, by decide, by decide, fun q H3 q0 q1 D3 K3 => ?_⟩
      obtain ⟨c, hc, _⟩ := atI_ok (xs := abc.cps.toList) (i := q) q0 (by rw [len_abc]; exact q1)
      have hp3 := K3 p _ hp pd pl
      refine ⟨abc, q, c, rfl, rfl, fit (by rw [len_abc2]; decide), hc, _, hp3, small1000 (by rw [List.length_map]; omega), D3.upd pd pl, fun b o e h1 h2 => ?_, ys ++ [⟨#[c]⟩], ?_, ?_, ?_⟩
      · have nb : b ≠ p := fun z => by
          have := K1 b o e h1 h2
          rw [z, np] at this
          cases this
        rw [upd_ne nb]
        exact K3 b o (K2 b o e h1 h2) h1 h2
      · rw [upd_same, List.map_append]
        rfl
      · rw [List.length_append, ly]
        rfl
      · intro y hy
        rcases List.mem_append.mp hy with z | z
        · exact oy y z
        · rw [List.mem_singleton.mp z]
          rfl
    · rintro H2 ⟨D2, K2, ys, hp, ly, oy⟩
      have hs := ones_sum ys oy
      refine ⟨_, p, ys, rfl, rfl, .inl (SqL.of hp), ?_, ?_⟩
      · rw [hs, show (("" : Str)).length = 0 by decide +kernel]
        omega
      have hj : (Txt.join "" ys).length ≤ 7 := by
        rw [join_len, hs]
        omega
      refine ⟨_, rfl, d, l, _, rfl, D2, by decide, by decide, fun way H3 w0 w1 D3 K3 => ?_⟩
      have K03 : Keep d l H H3 := K2.trans K3
      -- way == 0
      refine ⟨fun σ H4 => DealAt H4 d l ∧ Keep d l H H4 ∧ ∃ z : Str, z.length ≤ 7 ∧ σ = [some (.ref d), some (.str abc), some (.str z), some (.int way), none, none, none, none], ?_, ?_⟩
      · refine ⟨_, rfl, rfl, _, rfl, ite2 (fun e => ?_) (fun e => ?_)⟩
        · refine ⟨rfl, fun t nt => ?_⟩
          refine ⟨_, rfl, d, l, _, rfl, D3.same (same_new nt), by decide, by decide, fun q H4 q0 q1 D4 K4 => ?_⟩
          obtain ⟨v, hv, mv⟩ := atI_ok (xs := words.map V.str) (i := q) q0 (by rw [List.length_map]; exact q1)
          refine ⟨t, _, q, v, rfl, rfl, SqL.of (K4 t _ upd_same (D3.d_ne nt) (D3.l_ne nt)), hv, ?_⟩
          obtain ⟨x, mx, rfl⟩ := List.mem_map.mp mv
          exact ⟨D4, K03.trans ((Keep.of (same_new nt)).trans K4), x, Nat.le_trans (words_short x mx) (by decide), rfl⟩
        · exact ⟨D3, K03, _, hj, rfl⟩
      rintro σ H4 ⟨D4, K4, z, lz, rfl⟩
      -- way == 1
      refine ⟨fun σ H5 => DealAt H5 d l ∧ Keep d l H H5 ∧ ∃ (z : Str) (y4 : Option V), z.length ≤ 10 ∧ σ = [some (.ref d), some (.str abc), some (.str z), some (.int way), y4, none, none, none], ?_, ?_⟩
      · refine ⟨_, rfl, rfl, _, rfl, ite2 (fun e => ?_) (fun e => ?_)⟩
        · refine ⟨rfl, fun t nt => ?_⟩
          refine ⟨_, rfl, d, l, _, rfl, D4.same (same_new nt), by decide, by decide, fun q H5 q0 q1 D5 K5 => ?_⟩
          obtain ⟨v, hv, mv⟩ := atI_ok (xs := words.map V.str) (i := q) q0 (by rw [List.length_map]; exact q1)
          refine ⟨t, _, q, v, rfl, rfl, SqL.of (K5 t _ upd_same (D4.d_ne nt) (D4.l_ne nt)), hv, ?_⟩
          obtain ⟨x, mx, rfl⟩ := List.mem_map.mp mv
          have lx := words_short x mx
          refine ⟨_, rfl, _, rfl, _, rfl, d, l, _, rfl, D5, by decide, by decide, fun q2 H6 q20 q21 D6 K6 => ?_⟩
          obtain ⟨c, hc, _⟩ := atI_ok (xs := abc.cps.toList) (i := q2) q20 (by rw [len_abc]; exact q21)
          refine ⟨abc, q2, c, rfl, rfl, fit (by rw [len_abc2]; decide), hc, x, _, rfl, rfl, fit (by rw [len_one]; omega), _, rfl, 1, rfl, x, rfl, fit (by omega), _, rfl, 1, rfl, _, rfl, x, rfl, fit (by omega), _, rfl, _, rfl, x, x, rfl, rfl, fit (by omega), fit (show 4 ≤ 1000 by decide), fun u nu => ?_⟩
          refine ⟨_, rfl, d, l, _, rfl, D6.same (same_new nu), by decide, by decide, fun q3 H7 q30 q31 D7 K7 => ?_⟩
          have hu7 : H7 u = some (.lst ([x ++ ⟨#[c]⟩, cutS x (some 1) none, cutS x none (some (-1)), x ++ x].map V.str)) := K7 u _ upd_same (D6.d_ne nu) (D6.l_ne nu)
          obtain ⟨v2, hv2, mv2⟩ := atI_ok (xs := [x ++ ⟨#[c]⟩, cutS x (some 1) none, cutS x none (some (-1)), x ++ x].map V.str) (i := q3) q30 (by rw [List.length_map]; exact q31)
          refine ⟨u, _, q3, v2, rfl, rfl, SqL.of hu7, hv2, ?_⟩
          obtain ⟨y, my, rfl⟩ := List.mem_map.mp mv2
          refine ⟨D7, K4.trans ((Keep.of (same_new nt)).trans (K5.trans (K6.trans ((Keep.of (same_new nu)).trans K7)))), y, _, ?_, rfl⟩
          simp only [List.mem_cons, List.not_mem_nil, or_false] at my
          rcases my with e | e | e | e
          · rw [e, len_app, len_one]
            omega
          · rw [e]
            exact Nat.le_trans (cut_len _ _ _) (by omega)
          · rw [e]
            exact Nat.le_trans (cut_len _ _ _) (by omega)
          · rw [e, len_app]
            omega
        · exact ⟨D4, K4, z, none, by omega, rfl⟩
      rintro σ H5 ⟨D5, K5, z, y4, lz, rfl⟩
      -- way == 2
      refine ⟨fun σ H6 => DealAt H6 d l ∧ Keep d l H H6 ∧ ∃ (z : Str) (y4 y5 y6 : Option V), z.length ≤ 100 ∧ σ = [some (.ref d), some (.str abc), some (.str z), some (.int way), y4, y5, y6, none], ?_, ?_⟩
      · refine ⟨_, rfl, rfl, _, rfl, ite2 (fun e => ?_) (fun e => ?_)⟩
        · refine ⟨_, rfl, _, rfl, z, rfl, fit (by omega), _, _, rfl, rfl, d, l, _, rfl, D5, by omega, by omega, fun q H6 q0 q1 D6 K6 => ?_⟩
          refine ⟨_, rfl, _, rfl, q, rfl, z, rfl, fit (by omega), _, rfl, _, rfl, _, rfl, sg, rfl, fit (by rw [len_sg]; decide), d, l, _, rfl, D6, by rw [len_sg]; decide, by rw [len_sg]; decide, fun q2 H7 q20 q21 D7 K7 => ?_⟩
          rw [len_sg] at q21
          obtain ⟨c, hc, _⟩ := atI_ok (xs := sg.cps.toList) (i := q2) q20 (by rw [len_sg2]; exact q21)
          have lc := cut_len z none (some q)
          refine ⟨sg, q2, c, rfl, rfl, fit (by rw [len_sg]; decide), hc, _, _, rfl, rfl, fit (by rw [len_one]; omega), _, rfl, _, rfl, _, rfl, d, l, _, rfl, D7, by decide, by decide, fun q3 H8 q30 q31 D8 K8 => ?_⟩
          refine ⟨_, _, rfl, rfl, _, rfl, z, rfl, fit (by omega), _, _, rfl, rfl, fit ?_, D8, K5.trans (K6.trans (K7.trans K8)), _, _, _, _, ?_, rfl⟩
          · have lc2 := cut_len z (some (q + q3)) none
            rw [len_app, len_one]
            omega
          · have lc2 := cut_len z (some (q + q3)) none
            rw [len_app, len_app, len_one]
            omega
        · exact ⟨D5, K5, z, y4, none, none, by omega, rfl⟩
      rintro σ H6 ⟨D6, K6, z, y4, y5, y6, lz, rfl⟩
      exact ⟨_, rfl, k z H6 lz D6 K6⟩
end
end K01
set_option Elab.async false
set_option linter.all false
set_option maxRecDepth 100000
set_option maxHeartbeats 4000000
namespace K01
open PySem PySem.Spec PyProof.Rows L2 Fb
theorem small_log {x : Int} (h0 : 0 ≤ x) (h1 : x < 1000000001) : x.natAbs.log2 < 1920 := Nat.lt_of_lt_of_le (PySem.Flt.log2_lt_of (k := 30) (by decide) (show x.natAbs < 2 ^ 30 by omega)) (by decide)
theorem cp_signs : (("+-*<=" : Str)).cps.toList = [43, 45, 42, 60, 61] := by decide +kernel
theorem sign_is {i c : Nat} (h : (("+-*<=" : Str)).cps[i]? = some c) : (⟨#[c]⟩ : Str) = "+" ∨ (⟨#[c]⟩ : Str) = "-" ∨ (⟨#[c]⟩ : Str) = "*" ∨ (⟨#[c]⟩ : Str) = "<" ∨ (⟨#[c]⟩ : Str) = "=" := by
  have m := List.mem_of_getElem? (cps_at h)
  rw [cp_signs] at m
  simp only [List.mem_cons, List.not_mem_nil, or_false] at m
  rcases m with e | e | e | e | e <;> subst e
  · exact .inl (by decide +kernel)
  · exact .inr (.inl (by decide +kernel))
  · exact .inr (.inr (.inl (by decide +kernel)))
  · exact .inr (.inr (.inr (.inl (by decide +kernel))))
  · exact .inr (.inr (.inr (.inr (by decide +kernel))))
theorem two_ok (b : Bool) : 0 ≤ (if b = true then (1 : Int) else 0) ∧ (if b = true then (1 : Int) else 0) < 2 := by cases b <;> decide
def spLaw (K : PySem.W.Frag) : Sp := fun vs H Q _ => ∃ (a : Addr) (ns : List Int), vs = [.ref a] ∧ SqL K H a (ns.map V.int) ∧ ns.length ≤ 63 ∧ ∀ H', Q (.bl true) H'
section
variable {P : Program} {w : World} {K : PySem.W.Frag} {mg : Str → Option Value} {base : Heap} {aw : Addr}
theorem scLaw : FnScope ["_law_script", "_law_deal_here", "_law_turn", "_law_text_here", "_law_a", "_law_b", "_law_s"] ["_law_script"] (defScope sLaw) := ⟨rfl, rfl, rfl, by decide +kernel, rfl, by decide +kernel, by decide +kernel⟩
theorem ok_law {f : Addr} {fd : FuncData} (F : L2.Fun K "law" "law" sLaw f fd) (T : Top K mg aw) : FnOk P w K mg base CX0 3 f fd ["_law_script"] (spLaw K) := by
  have C_law_draw : C8.Cal P w K mg base 1 "_law_draw" spDraw [] := ok_draw T
  have C_law_deal : C8.Cal P w K mg base 1 "_law_deal" (spDeal K) [] := ok_deal T
  have C_law_text : C8.Cal P w K mg base 2 "_law_text" spText [] := ok_text T
  have C_is_name : C8.Cal P w K mg base 1 "is_name" spName [] := ok_isname T
  have C_law_is_name : C8.Cal P w K mg base 2 "_law_is_name" spName [] := ok_lisname T
  have C_law_number : C8.Cal P w K mg base 2 "_law_number" spNumber [] := ok_number T
  have C_come_to : C8.Cal P w K mg base 1 "come_to" spComeTo [] := ok_cometo T
  have C_law_come : C8.Cal P w K mg base 1 "_law_come" spCome [] := ok_come T
  refine F.ok scLaw (fun vs H Q E h => ?_) (fun cdv A outer s H vs Q E hr h => ?_)
  · obtain ⟨a, ns, rfl, _⟩ := h
    rfl
  · obtain ⟨a, ns, rfl, hS, hl, k⟩ := h
    refine ⟨_, (pss_cons (ps_set (i := 1) scLaw.nd rfl (Or.inl rfl) (C8.pe_c C_law_deal hr (by decide) rfl (pa_cons (pv 0) pa_nil)))
  (pss_cons (ps_if (pt_cmpR op_ne (pe_callB Fb.call_repr0 (by rfl) T.n_repr (by decide +kernel) (pa_cons (C8.pe_gc rfl T.c_WIDE) pa_nil)) (pe_callB Fb.call_repr0 (by rfl) T.n_repr (by decide +kernel) (pa_cons pe_int pa_nil)) (nomark _))
    (pss_one (ps_ret pe_bl))
    pss_nil)
  (pss_cons (ps_for PassesOwn.never rfl (pi_range1 rfl T.n_range (pa_cons pe_int pa_nil)) (pg_name (i := 2) scLaw.nd rfl (Or.inl rfl))
    (pss_cons (ps_set (i := 3) scLaw.nd rfl (Or.inl rfl) (pe_ix ix_list (pe_lst (pa_cons (C8.pe_c C_law_text hr (by decide) rfl (pa_cons (pv 1) pa_nil)) (pa_cons pe_str pa_nil))) (pe_callTy call_int1 (by rfl) T.n_int (by decide +kernel) (pa_cons (pe_cmpR op_eq (pv 2) pe_int (nomark _)) pa_nil)) (fun _ _ => rfl)))
  (pss_cons (ps_if (pt_cmpR op_ne (pe_callB Fb.call_repr0 (by rfl) T.n_repr (by decide +kernel) (pa_cons (C8.pe_c C_is_name hr (by decide) rfl (pa_cons (pv 3) pa_nil)) pa_nil)) (pe_callB Fb.call_repr0 (by rfl) T.n_repr (by decide +kernel) (pa_cons (C8.pe_c C_law_is_name hr (by decide) rfl (pa_cons (pv 3) pa_nil)) pa_nil)) (nomark _))
    (pss_one (ps_ret pe_bl))
    pss_nil)
  (pss_cons (ps_par (by rfl) scLaw.nd (i := 4) (j := 5) rfl rfl (by decide) rfl rfl (pa_cons (C8.pe_c C_law_number hr (by decide) rfl (pa_cons (pv 1) pa_nil)) (pa_cons (C8.pe_c C_law_number hr (by decide) rfl (pa_cons (pv 1) pa_nil)) pa_nil)) (by rfl))
  (pss_cons (ps_set (i := 5) scLaw.nd rfl (Or.inl rfl) (pe_ix ix_list (pe_lst (pa_cons (pv 5) (pa_cons (pv 4) pa_nil))) (pe_callTy call_int1 (by rfl) T.n_int (by decide +kernel) (pa_cons (pe_cmpR op_eq (C8.pe_c C_law_draw hr (by decide) rfl (pa_cons (pv 1) (pa_cons pe_int pa_nil))) pe_int (nomark _)) pa_nil)) (fun _ _ => rfl)))
  (pss_one (ps_for PassesOwn.never rfl (pi_str pe_str) (pg_name (i := 6) scLaw.nd rfl (Or.inl rfl))
    (pss_one (ps_if (PW.pt (pw_or (pt_cmpR op_ne (pe_callB Fb.call_repr0 (by rfl) T.n_repr (by decide +kernel) (pa_cons (C8.pe_c C_come_to hr (by decide) rfl (pa_cons (pv 6) (pa_cons (pv 4) (pa_cons (pv 5) pa_nil)))) pa_nil)) (pe_callB Fb.call_repr0 (by rfl) T.n_repr (by decide +kernel) (pa_cons (C8.pe_c C_law_come hr (by decide) rfl (pa_cons (pv 6) (pa_cons (pv 4) (pa_cons (pv 5) pa_nil)))) pa_nil)) (nomark _)) (pw_or1 (pt_cmpR op_ne (pe_callB Fb.call_repr0 (by rfl) T.n_repr (by decide +kernel) (pa_cons (C8.pe_c C_come_to hr (by decide) rfl (pa_cons (pv 6) (pa_cons (pv 5) (pa_cons (pv 4) pa_nil)))) pa_nil)) (pe_callB Fb.call_repr0 (by rfl) T.n_repr (by decide +kernel) (pa_cons (C8.pe_c C_law_come hr (by decide) rfl (pa_cons (pv 6) (pa_cons (pv 5) (pa_cons (pv 4) pa_nil)))) pa_nil)) (nomark _)))))
    (pss_one (ps_ret pe_bl))
    pss_nil)))))))))
  (pss_one (ps_ret pe_bl))))), ?_⟩
    refine ⟨_, rfl, a, ns, rfl, hS, hl, fun d l H1 nd nl D1 s1 => ?_⟩
    refine .inr ⟨_, rfl, by decide +kernel, .inr ⟨_, rfl, by decide +kernel, rfl, _, rfl, iteNS rfl ?_⟩⟩
    refine ⟨6, rfl, by decide, by decide, for_range (lo := 0) (n := 6) (fun i σ H2 => (∃ y2 y3 y4 y5 y6 : Option V, σ = [some (.ref a), some (.ref d), y2, y3, y4, y5, y6]) ∧ DealAt H2 d l) ⟨⟨none, none, none, none, none, rfl⟩, D1⟩ ?_ ?_⟩
    · rintro i σ H2 hi ⟨⟨y2, y3, y4, y5, y6, rfl⟩, D2⟩
      refine ⟨_, rfl, d, l, rfl, D2, fun z0 H3 lz0 D3 K3 => ⟨fit (show 2 ≤ 1000 by decide), fun p np => ⟨_, rfl, rfl, .inr ⟨_, rfl, ?_⟩⟩⟩⟩
      obtain ⟨v, hv, mv⟩ := atI_ok (xs := [z0, ("" : Str)].map V.str) (i := if decide (V.int (0 + (i : Int)) = V.int 5) = true then 1 else 0) (two_ok _).1 (two_ok _).2
      refine ⟨p, _, _, v, rfl, rfl, SqL.of upd_same, hv, ?_⟩
      obtain ⟨z, mz, rfl⟩ := List.mem_map.mp mv
      have lz : z.length ≤ 100 := by
        simp only [List.mem_cons, List.not_mem_nil, or_false] at mz
        rcases mz with e | e
        · rw [e]
          exact lz0
        · rw [e]
          decide +kernel
      have D4 : DealAt (L2.upd H3 p (.lst [V.str z0, V.str ("" : Str)])) d l := D3.same (same_new np)
      refine ⟨_, rfl, z, rfl, lz, fun H5 s5 => .inl ⟨_, rfl, _, rfl, z, rfl, lz, fun H6 s6 => .inl ⟨_, rfl, rfl, _, rfl, iteNS rfl ?_⟩⟩⟩
      have D6 : DealAt H6 d l := (D4.same s5).same s6
      refine ⟨_, rfl, d, l, rfl, D6, fun n1 H7 n10 n11 D7 K7 => ⟨_, rfl, d, l, rfl, D7, fun n2 H8 n20 n21 D8 K8 => ⟨_, _, rfl, ?_⟩⟩⟩
      refine ⟨_, rfl, _, rfl, fit (show 2 ≤ 1000 by decide), fun q nq => ⟨_, rfl, d, l, _, rfl, D8.same (same_new nq), by decide, by decide, fun r H9 r0 r1 D9 K9 => ⟨rfl, .inr ⟨_, rfl, ?_⟩⟩⟩⟩
      obtain ⟨v2, hv2, mv2⟩ := atI_ok (xs := [n2, n1].map V.int) (i := if decide (V.int r = V.int 0) = true then 1 else 0) (two_ok _).1 (two_ok _).2
      have hq : H9 q = some (.lst ([n2, n1].map V.int)) := K9 q _ upd_same (D8.d_ne nq) (D8.l_ne nq)
      refine ⟨q, _, _, v2, rfl, rfl, SqL.of hq, hv2, ?_⟩
      obtain ⟨b, mb, rfl⟩ := List.mem_map.mp mv2
      have hb : 0 ≤ b ∧ b < 1000000000 := by
        simp only [List.mem_cons, List.not_mem_nil, or_false] at mb
        rcases mb with e | e <;> (subst e; omega)
      obtain ⟨b0, b1⟩ := hb
      refine ⟨_, rfl, for_it walk_str (fun j σ H10 => (∃ y6 : Option V, σ = [some (.ref a), some (.ref d), some (.int (0 + (i : Int))), some (.str z), some (.int n1), some (.int b), y6]) ∧ DealAt H10 d l) ⟨⟨_, rfl⟩, D9⟩ (fun _ _ _ _ _ => True.intro) ?_ ?_⟩
      · rintro j x σ H10 H11 hj ⟨⟨y, rfl⟩, D10⟩ ⟨rfl, c, hc, rfl⟩
        have sg := sign_is hc
        have c1 := comeB_range ⟨#[c]⟩ n1 b
        have c2 := comeB_range ⟨#[c]⟩ b n1
        refine ⟨_, rfl, _, rfl, _, rfl, _, n1, b, rfl, n10, n11, b0, b1, .inr ⟨_, rfl, small_log c1.1 (by omega), _, rfl, _, rfl, _, rfl, _, n1, b, rfl, sg, n10, n11, b0, b1, fun H12 s12 => .inr ⟨_, rfl, small_log c1.1 (by omega), rfl, _, rfl, iteNS rfl ?_⟩⟩⟩
        refine ⟨_, rfl, _, rfl, _, rfl, _, b, n1, rfl, b0, b1, n10, n11, .inr ⟨_, rfl, small_log c2.1 (by omega), _, rfl, _, rfl, _, rfl, _, b, n1, rfl, sg, b0, b1, n10, n11, fun H13 s13 => .inr ⟨_, rfl, small_log c2.1 (by omega), rfl, _, rfl, iteNS rfl ?_⟩⟩⟩
        exact ⟨⟨_, rfl⟩, (D10.same s12).same s13⟩
      · rintro σ H10 ⟨⟨y, rfl⟩, D10⟩
        exact ⟨⟨_, _, _, _, _, rfl⟩, D10⟩
    · rintro σ H2 _
      exact k H2
end
end K01
set_option Elab.async false
set_option linter.all false
set_option maxRecDepth 100000
namespace K01
open PySem PySem.W PyProof.Rows L2 Fb
theorem fin {l : OpenLaw} {w : World} {K : Frag} {h : Heap} {mg : Str → Option Value} {fa f2 aw : Addr} {od2 an2 : Option Addr} {sl2 : Array (Option Value)} {oc2 kV2 dc2 pm2 cd2 ct2 : Value} (X : K.In h) (G : h.Ns mainGlobals mg) (hfa : mg "law" = some (.ref fa)) (T : Top K mg aw)
    (a2 : nsIn K mainGlobals "law" = some (some (.ref f2))) (l2 : K.lookup f2 = some ⟨oc2, od2, .func (fnOf "law" "law" (defArgs sLaw) (defBody sLaw) (defScope sLaw) .none kV2 dc2 pm2 an2 cd2 ct2), sl2⟩) (c2 : codeIn K cd2 "law" = true) (k2 : keepIn K (.ref f2) = true) :
    ∃ fd : FuncData, (∀ (s : Shared) (v : Value), BindsTo s fd ⟨[v], []⟩ [("_law_script", v)]) ∧ ∀ base : Heap, K.In base → base.Ns mainGlobals mg → FnOk l.prog w K mg base CX0 3 fa fd ["_law_script"] (spLaw K) := by
  have e := hfa.symm.trans (mg_of X G a2)
  cases e
  exact ⟨_, fun s v => .of_eq rfl, fun base _ _ => ok_law (fun_mk (st := sLaw) l2 c2 k2) T⟩
end K01
open PySem PySem.W PyProof.Rows
set_option maxHeartbeats 0 in
theorem PySem.Challenge.cw_fourbind_k01_names_and_what_numbers_come_holds : PySem.Challenge.rw_fourbind_k01_names_and_what_numbers_come.Holds := by
  w_on; o_law; k_head; (case hw => w_witness2)
  k_fill
  refine Fb.walk_X (l := PySem.Challenge.rw_fourbind_k01_names_and_what_numbers_come) (n := 63) (k := 3) (x := "_law_script") (sp := fun w => K01.spLaw _) rfl (by decide) rfl ⟨rfl, by decide, by decide⟩ (fun w h Y => PySem.W.kIn_of Y) ?F (fun _ _ a ns hl hS => ⟨a, ns, rfl, hS, hl, fun _ => rfl⟩)
  case F =>
    intro w mg fa h KX G XP hmg
    refine' K01.fin KX G hmg (K01.Top.mk (mg_none_of KX G ?n_len) (mg_none_of KX G ?n_all) (mg_none_of KX G ?n_max) (mg_none_of KX G ?n_list) (mg_none_of KX G ?n_reversed) (mg_none_of KX G ?n_range) (mg_none_of KX G ?n_int) (mg_none_of KX G ?n_repr) (Fb.cn_loose XP (by decide +kernel)) (Fb.cn_in KX G ?cL ?eL) (Fb.cn_in KX G ?cW ?eW) (Fb.tup_in ?lW ?zW ?vW) (Fb.has_mk KX G ?a_isname ?l_isname ?c_isname ?k_isname) (Fb.has_mk KX G ?a_cometo ?l_cometo ?c_cometo ?k_cometo) (Fb.has_mk KX G ?a_deal ?l_deal ?c_deal ?k_deal) (Fb.has_mk KX G ?a_draw ?l_draw ?c_draw ?k_draw) (Fb.has_mk KX G ?a_taken ?l_taken ?c_taken ?k_taken) (Fb.has_mk KX G ?a_text ?l_text ?c_text ?k_text) (Fb.has_mk KX G ?a_lisname ?l_lisname ?c_lisname ?k_lisname) (Fb.has_mk KX G ?a_number ?l_number ?c_number ?k_number) (Fb.has_mk KX G ?a_come ?l_come ?c_come ?k_come)) ?a2 ?l2 ?c2 ?k2
    (case cL => k_is); (case eL => rfl); (case cW => k_is); (case eW => rfl); (case lW => k_is); (case zW => decide); (case vW => rfl)
    (case n_len => k_is); (case n_all => k_is); (case n_max => k_is); (case n_list => k_is); (case n_reversed => k_is); (case n_range => k_is); (case n_int => k_is); (case n_repr => k_is)
    (case a_isname => k_is); (case l_isname => k_is); (case c_isname => k_is); (case k_isname => k_is)
    (case a_cometo => k_is); (case l_cometo => k_is); (case c_cometo => k_is); (case k_cometo => k_is)
    (case a_deal => k_is); (case l_deal => k_is); (case c_deal => k_is); (case k_deal => k_is)
    (case a_draw => k_is); (case l_draw => k_is); (case c_draw => k_is); (case k_draw => k_is)
    (case a_taken => k_is); (case l_taken => k_is); (case c_taken => k_is); (case k_taken => k_is)
    (case a_text => k_is); (case l_text => k_is); (case c_text => k_is); (case k_text => k_is)
    (case a_lisname => k_is); (case l_lisname => k_is); (case c_lisname => k_is); (case k_lisname => k_is)
    (case a_number => k_is); (case l_number => k_is); (case c_number => k_is); (case k_number => k_is)
    (case a_come => k_is); (case l_come => k_is); (case c_come => k_is); (case k_come => k_is)
    (case a2 => k_is); (case l2 => k_is); (case c2 => k_is); (case k2 => k_is)
