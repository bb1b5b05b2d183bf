import PyProof.Rows.All
import Wide.All
import OpenK.AllK
import Wide.FinOn
import KE.KExcSuper
import HandS.ForMost
import HandS.ForExc
import HandS.ExcInit
import HandS.ExcSuper
import HandS.ExcField
import HandS.ExcIs
import HandS.HotCalls
import HandS.IsInst
import HandS.Gcd
import HandS.Wide
import HandS.Style
import HandS.DictComp
import HandS.TupSets
import PyProof.WalksMore
import HandS.SortOrd
import HandS.OwnEq
import OpenK.KOps
import HandS.TupAny
import HandS.Small
import HandS.SortInts
import HandS.Walk
import KE.GoesEnum
import KE.GoesMore
import PySem.Challenge.RW_nextguess_k07_shown_answers
set_option Elab.async false
set_option linter.all false
set_option maxRecDepth 100000
set_option maxHeartbeats 2000000
/-! An own exception class under a class under ValueError, whose __init__ is: super().__init__("text"); self.f = f. -/
namespace PySem
namespace SupX_value
open PySem.W PySem.Calls PyProof.Rows PySem.HandSPX
/-! ### the text of such an __init__ -/
def iA (p1 p2 : Pos) : Arguments := { posonlyargs := [], args := [{ arg := "self", annotation := none, pos := p1 }, { arg := "value", annotation := none, pos := p2 }], vararg := none, kwonlyargs := [], kw_defaults := [], kwarg := none, defaults := [] }
def iB (m : Str) (k : Nat) (p0 p1 p2 p3 p4 p5 q1 q2 q3 q4 : Pos) : List Stmt :=
  [.Expr (.Call (.Attribute (.Call (.Name "super" p0) [] [] p1) "__init__" p2) [.Constant (.str m) k p3] [] p4) p5,
   .Assign [.Attribute (.Name "self" q1) "value" q2] (.Name "value" q3) q4]
def iS : Scope := { kind := .function, names := [(PySem.Str.ofString "self", .local), (PySem.Str.ofString "value", .local), (PySem.Str.ofString "__class__", .free), (PySem.Str.ofString "super", .globalImplicit)], isGenerator := false, isCoroutine := false, more := [] }
/-- what the written part says of such a class at C, its __init__ at fI -/
structure XTxt (P : Program) (K : Frag) (mg : Str → Option Value) (x : Str) (C fI : Addr) : Prop where
  gC : mg x = some (.ref C)
  nm : (x == ("__debug__" : Str)) = false
  sup : mg "super" = none
  cls : ∃ nm q N bs bm sn sub ab col dd k0 k1 k2 k3 k5, K.lookup C = some (excClassObj nm q C N bs bm true sn sub ab col dd k0 k1 k2 k3 k5 "ValueError.__new__") ∧ refsVE bm = true
  sa : findIn K (.ref C) "__setattr__" = some (some (.builtin "object.__setattr__"))
  noN : findIn K (.ref C) "value" = some none
  iC : findIn K (.ref C) "__init__" = some (some (.ref fI))
  tC : typeIn K (.ref fI) = some (.type "function")
  kC : keepIn K (.ref C) = true
  exC : subIn K (.ref C) (.type "BaseException") = some true
  veC : subIn K (.ref C) (.type "ValueError") = some true
  tyC : typeIn K (.ref C) = some (.type "type")
  te : exmOne K (.ref C) (.ref C) = some true
  xf : L2.XfC K C
  sIn : ks_superIn K C C "__init__" = some (some (.builtin "ValueError.__init__"))
  opq : nsIn K cStatics "thirdparty.any" = some none
  mro : mroIn K C (.ref C) = some true
  htop : (P.main.scope.names.lookup ("super" : Str)).isSome = false
  fn : ∃ (oc : Value) (od : Option Addr) (doc pm : Value) (an : Option Addr) (cda cc : Addr) (ct : Value) (osl : Array (Option Value)) (qual m : Str) (k : Nat) (r1 r2 p0 p1 p2 p3 p4 p5 q1 q2 q3 q4 : Pos)
      (ccl cl : Value) (cdd cld : Option Addr) (ccs csl : Array (Option Value)) (vs : Array Value) (file : Str) (tf : Tok),
    K.lookup fI = some ⟨oc, od, .func (ksFn "__init__" qual (iA r1 r2) (iB m k p0 p1 p2 p3 p4 p5 q1 q2 q3 q4) iS .none .none doc pm an (.ref cda) ct cc), osl⟩ ∧ codeIn K (.ref cda) qual = true ∧ (p2.endLine == p4.line) = true ∧
    K.lookup cda = some ⟨ccl, cdd, .fields vs, ccs⟩ ∧ vs[2]? = some (.str file tf) ∧ ((P.main.file : Str) == file) = true ∧ K.lookup cc = some ⟨cl, cld, .cell (some (.ref C)), csl⟩
/-- what __init__ leaves of a fresh exception at x -/
structure InitEnd (h h' : Heap) (x C dx : Addr) (v : Value) : Prop where
  keep : ∀ b o, b ≠ x → h.get? b = some o → h'.get? b = some o
  obj : ∃ t1 : Addr, h'.get? x = some { cls := .ref C, dict := some dx, data := .fields #[.ref t1, .none, .none, .none, .bool false, .none] }
  dbig : h.objs.size ≤ dx
  dne : dx ≠ x
  ns : h'.Ns1 dx (fun y => if y = "value" then some v else none)
theorem kept_but {K : Frag} {h h' : Heap} {x : Addr} (X : K.In h) (hx : K.lookup x = none) (k : ∀ b o, b ≠ x → h.get? b = some o → h'.get? b = some o) : K.In h' := fun a o e =>
  k a o (fun z => by rw [z, hx] at e; cases e) (X a o e)
theorem two_size (v : Value) : [v].length ≤ sizeLine := by
  rw [sizeLine_eq]
  exact (by decide : 1 ≤ 16777216)
section
variable {prog : Program} {w : World} {A : Around} {E : Value → Shared → Prop} {h : Heap} {g : Array GenState} {d : Drawn} {t : Nat} {os : OsState}
variable {nm q : Str} {C N : Addr} {bs bm : List Value} {hdct : Bool} {sn : List Str} {sub : List Value} {ab : Bool} {col : Option Bool} {dd : Option Addr} {k0 k1 k2 k3 k5 : Option Value}
/-- the bound ValueError.__init__, called -/
theorem call_bw {u e t0 : Addr} {rest : List Value} {Q : Value → Shared → Prop}
    (hC : h.get? C = some (excClassObj nm q C N bs bm hdct sn sub ab col dd k0 k1 k2 k3 k5 "ValueError.__new__")) (he : h.get? e = some (excO C t0)) (hu : h.get? u = some (kxs_mw "ValueError.__init__" e)) (hrest : rest.length ≤ sizeLine)
    (hq : ∀ h' t1, (∀ b o, b ≠ e → h.get? b = some o → h'.get? b = some o) → h'.get? e = some (excO C t1) → Q .none ⟨h', g, d, t, os⟩) :
    wpAny (model prog w) A (call (.ref u) rest) Q E ⟨h, g, d, t, os⟩ := by
  refine wpAny_call (codeAny_of_tree ?_)
  show wpAny _ A.in1 (callAny (.ref u) ⟨rest, []⟩) _ _ _
  simp only [callAny]
  refine wpAny_bind (wpAny_load hu ?_)
  simp only [kxs_mw, show (Value.type "method-wrapper" == Value.type "method" || Value.type "method-wrapper" == Value.type "builtin_function_or_method" || Value.type "method-wrapper" == Value.type "method-wrapper") = true by decide, if_true]
  refine W.KFB.if_so (by decide) ?_
  refine wpAny_bind (ESX.check_bound F.excBase_ValueError hC he rfl ?_)
  refine wpAny_bind (wpAny_pure (wpAny_pure ?_))
  refine ⟨Code.quiet_builtin _ (by decide +kernel), codeAny_builtin F.excBase_ValueError.initEntry ?_⟩
  rw [Around.under_plainId F.excBase_ValueError.init.plain _]
  wp_walk
  refine hq _ h.objs.size (fun b o hb ho => ?_) ?_
  · rw [Heap.get?_update_other _ _ (Ne.symm hb)]
    exact Heap.get?_push_of_some _ ho
  · rw [Heap.get?_update_self _ (Heap.get?_push_of_some _ he) rfl]
    rfl
end
section
variable {prog : Program} {w : World} {A : Around} {R : Result → Shared → Prop} {s : Shared} {K : Frag} {mg : Str → Option Value} {x : Str} {C fI : Addr}
theorem sup_init (T : XTxt prog K mg x C fI) {e t0 : Addr} {v : Value} (X : K.In s.heap) (hlim : s.heap.NoLimit) (hg : s.heap.Ns mainGlobals mg) (hb : ∃ mb, s.heap.Ns builtinsNs mb ∧ ∀ y : Str, y ≠ "__name__" → mb y = bootBuiltins y)
    (hx : s.heap.get? e = some (excO C t0)) (hnx : K.lookup e = none) (hroom : A.depth < recursionLimit)
    (hq : ∀ h' tk dx, InitEnd s.heap h' e C dx v → R (.ok (.ret .none)) { s with heap := h', toks := tk }) :
    codeAny (model prog w) A (.call (.ref fI) ⟨[.ref e, v], []⟩) R s := by
  obtain ⟨oc, od, doc, pm, an, cda, cc, ct, osl, qual, m, k, r1, r2, p0, p1, p2, p3, p4, p5, q1, q2, q3, q4, ccl, cl, cdd, cld, ccs, csl, vs, file, tf, ho, hcd, hln, hcode, hvs, hfile, hcell⟩ := T.fn
  obtain ⟨nm, q, N, bs, bm, sn, sub, ab, col, dd, k0, k1, k2, k3, k5, hC, hbm⟩ := T.cls
  obtain ⟨mb, hb1, hb2⟩ := hb
  have hcl : clsIn K C = some { name := nm, bases := bs, mro := .ref C :: bm, ns := N, qualname := q, hasDict := true, slotNames := sn, subclasses := sub, abstract := ab, collection := col, hasDel := false } := by unfold clsIn; rw [hC] <;> rfl
  refine ks_codeAny_call_defAt (fd := ksFn "__init__" qual (iA r1 r2) (iB m k p0 p1 p2 p3 p4 p5 q1 q2 q3 q4) iS .none .none doc pm an (.ref cda) ct cc) (body := iB m k p0 p1 p2 p3 p4 p5 q1 q2 q3 q4) (binds := [("self", .ref e), ("value", v)])
    hroom (X _ _ ho) rfl hlim (codeRec_of X hcd) rfl (BindsTo.of_eq ?_) ?_ ?_ (fun h₁ hns hk₁ => ?_) rfl rfl rfl
  · first | rfl | with_unfolding_all rfl
  · intro y hy
    have hy2 : y ∈ [(PySem.Str.ofString "self", NameKind.local), (PySem.Str.ofString "value", .local), (PySem.Str.ofString "__class__", .free), (PySem.Str.ofString "super", .globalImplicit)] := hy
    simp only [List.mem_cons, List.not_mem_nil, or_false] at hy2
    rcases hy2 with rfl | rfl | rfl | rfl <;> intro z <;> cases z
  · intro y hy
    simp only [List.mem_cons, List.not_mem_nil, or_false] at hy
    rcases hy with rfl | rfl <;> rfl
  -- the frame: self, the field's value
  have X₁ : K.In h₁ := X.keeps hk₁
  have hx₁ := hk₁ _ _ hx
  have hC₁ := X₁ _ _ hC
  show _root_.PySem.wpAt _ _ _ (execs (iB m k p0 p1 p2 p3 p4 p5 q1 q2 q3 q4) _) _ _ _
  refine ks_wpAt_execs_cons (ks_wpAt_Expr_any (ks_wpAt_MethodCall (pl := (do return (← importBound (.Call (.Name "super" p0) [] [] p1) (callEnv
          (ksFn "__init__" qual (iA r1 r2) (iB m k p0 p1 p2 p3 p4 p5 q1 q2 q3 q4) iS .none .none doc pm an (.ref cda) ct cc) s.heap.objs.size fI)).getD true)) ?_ ?he) rfl rfl)
  case he =>
    rw [eval]
    unfold methodCall methodCallPos
    simp only [hln, Bool.or_true, if_true, pure_bind]
    rfl
  refine ks_wpAt_super_base (f := fI) (cc := cda) rfl rfl (by decide +kernel) rfl (X₁ _ _ ho) rfl rfl rfl (X₁ _ _ hcode) rfl hvs hfile T.htop ?_
  refine ks_loadName_global rfl rfl (loadGlobal_builtin (hg.keeps hk₁) T.sup (hb1.keeps hk₁) ((hb2 _ (by decide +kernel)).trans (show bootBuiltins "super" = some (.type "super") by first | rfl | decide +kernel | kernel_rfl)) ⟨rfl, ?_⟩)
  refine wpAny_loadName_free rfl rfl rfl ⟨_, X₁ _ _ hcell, rfl⟩ ?_
  refine wpAny_loadName_local (v := .ref e) rfl rfl hns (by rfl) ?_
  refine ks_wpAny_isType_cls hC₁ rfl ⟨rfl, ?_⟩
  refine ks_wpAny_call_super hC₁ rfl hx₁ rfl (fun c z => nomatch z) (looks_mroIn X₁ T.mro) (fun h₂ e₂ k₂ => ?_)
  have X₂ : K.In h₂ := X₁.keeps k₂
  have hx₂ := k₂ _ _ hx₁
  have hC₂ := X₂ _ _ hC
  have I₂ : InstAt h₂ e (excO C t0) C none := ⟨hx₂, rfl, rfl, trivial⟩
  have hI : Looks (model prog w) h₂ (isInstance (.ref e) (.type "ValueError")) true := I₂.type.andThen (looks_subIn X₂ T.veC)
  have hsi : alongIn K "__init__" (((Value.ref C :: bm).dropWhile (· != .ref C)).drop 1) = some (some (.builtin "ValueError.__init__")) := by
    have z := T.sIn
    unfold ks_superIn at z
    rw [hcl] at z
    exact z
  have hmro : Looks (model prog w) h₂ (mroOf (.ref C)) (Value.ref C :: bm) := fun A' Q' E' s' k' q' => wpAny_bind ((looks_clsIn X₂ hcl) A' _ E' s' k' (wpAny_pure q'))
  refine kxs_getMethod kxs_ValueError e₂ (looks_opaque X₂ T.opq) hmro rfl X₂ hsi hI (ks_ne X₂ I₂ hcl) (by decide +kernel) ?_
  have hu : (h₂.push (kxs_mw "ValueError.__init__" e)).get? h₂.objs.size = some (kxs_mw "ValueError.__init__" e) := by heap_get
  have k₃ : ∀ b o, h₂.get? b = some o → (h₂.push (kxs_mw "ValueError.__init__" e)).get? b = some o := fun b o z => Heap.get?_push_of_some _ z
  refine kxs_callWith (i := "ValueError.__init__") (x := e) (by rfl) ?_
  refine evalArgs_plain (spliced_cons ?_)
  show wpAny _ _ (eval (.Constant (.str m) k p3) _) _ _ _
  refine Constant_str (spliced_nil ⟨hu, ?_⟩)
  refine call_bw (k₃ _ _ hC₂) (k₃ _ _ hx₂) hu (two_size _) (fun h₄ t4 k₄ hx₄ => ?_)
  have k₅ : ∀ b o, b ≠ e → s.heap.get? b = some o → h₄.get? b = some o := fun b o z y => k₄ b o z (k₃ _ _ (k₂ _ _ (hk₁ _ _ y)))
  have X₄ : K.In h₄ := kept_but (X₂.keeps k₃) hnx k₄
  have hLe : s.heap.objs.size ≠ e := Nat.ne_of_gt (Heap.lt_size hx)
  have hns₄ : h₄.Ns s.heap.objs.size (fun y => List.lookup y ([(("self" : Str), Value.ref e), (("value" : Str), v)] : List (Str × Value)).reverse) := by
    obtain ⟨oL, es, ep, hL, r⟩ := hns
    exact ⟨oL, es, ep, k₄ _ _ hLe (k₃ _ _ (k₂ _ _ hL)), r⟩
  show wpAt _ _ _ (execs [.Assign [.Attribute (.Name "self" q1) "value" q2] (.Name "value" q3) q4] _) _ _ _
  refine wpAt_of_wpAny (wpAny_execs_cons (plainObj_wpAny_Assign_Attribute ?_))
  refine ESX.ldL (v := v) hns₄ (by rfl) (ESX.ldL (v := .ref e) hns₄ (by rfl) ?_)
  refine set_plain X₄ (ox := excO C t4) (od := none) ⟨hx₄, rfl, rfl, trivial⟩ T.sa ?_
  refine exc_osa X₄ hx₄ hcl (show refsVE (.ref C :: bm) = true from hbm) rfl T.noN (fun h₆ tk₆ dx k₆ dn dne hx₆ hn₆ => ?_)
  refine wpAny_execs_nil (hq h₆ tk₆ dx ⟨fun b o hb y => k₆ b o hb (k₅ b o hb y), ⟨t4, hx₆⟩, ?_, dne, hn₆⟩)
  have z : s.heap.objs.size < h₄.objs.size := hns₄.lt
  exact Nat.le_of_lt (Nat.lt_of_lt_of_le z dn)
/-- a made exception -/
structure OwnMade (h h' : Heap) (e C d : Addr) (v : Value) : Prop where
  keep : ∀ b o, h.get? b = some o → h'.get? b = some o
  new : h.objs.size ≤ e
  obj : ∃ t1 : Addr, h'.get? e = some { cls := .ref C, dict := some d, data := .fields #[.ref t1, .none, .none, .none, .bool false, .none] }
  dbig : h.objs.size ≤ d
  dne : d ≠ e
  ns : h'.Ns1 d (fun y => if y = "value" then some v else none)
theorem sup_made (T : XTxt prog K mg x C fI) {v : Value} (X : K.In s.heap) (hlim : s.heap.NoLimit) (hg : s.heap.Ns mainGlobals mg) (hb : ∃ mb, s.heap.Ns builtinsNs mb ∧ ∀ y : Str, y ≠ "__name__" → mb y = bootBuiltins y) (hroom : A.depth + 1 < recursionLimit)
    (hq : ∀ h' tk e d, OwnMade s.heap h' e C d v → R (.ok (.ret (.ref e))) { s with heap := h', toks := tk }) :
    codeAny (model prog w) A (.call (.ref C) ⟨[v], []⟩) R s := by
  obtain ⟨nm, q, N, bs, bm, sn, sub, ab, col, dd, k0, k1, k2, k3, k5, hC, hbm⟩ := T.cls
  obtain ⟨mb, hb1, hb2⟩ := hb
  obtain ⟨hp, g, dr, tk, os⟩ := s
  have k : ∀ b o, hp.get? b = some o → ((hp.push (kdv_tup [v])).push (excO C hp.objs.size)).get? b = some o := fun b o e => Heap.get?_push_of_some _ (Heap.get?_push_of_some _ e)
  have hget : ((hp.push (kdv_tup [v])).push (excO C hp.objs.size)).get? (hp.objs.size + 1) = some (excO C hp.objs.size) := by heap_get
  have hnx : K.lookup (hp.objs.size + 1) = none := by
    cases e : K.lookup (hp.objs.size + 1) with
    | none => rfl
    | some o =>
      have z : hp.get? (hp.objs.size + 1) = some o := X _ _ e
      exact absurd (Nat.lt_of_succ_lt (Heap.lt_size z)) (Nat.lt_irrefl _)
  refine call_own F.excBase_ValueError (fun X => refsVE_contains X bm hbm) (X _ _ hC) (looks_findIn X T.iC) (fun self => bind_fn X self T.tC) (two_size v) ?_
  refine sup_init (s := ⟨(hp.push (kdv_tup [v])).push (excO C hp.objs.size), g, dr, tk, os⟩) T (X.keeps k) (hlim.keeps k) (hg.keeps k) ⟨mb, hb1.keeps k, hb2⟩ hget hnx ?_ fun h' tk' dx M => ?_
  · show A.depth + 1 < recursionLimit
    exact hroom
  · obtain ⟨k', hx, dn, dne, hns⟩ := M
    have old : ∀ b o, hp.get? b = some o → h'.get? b = some o := fun b o e => k' b o (Nat.ne_of_lt (Nat.lt_succ_of_lt (Heap.lt_size e))) (k b o e)
    have z : hp.objs.size + 1 + 1 ≤ dx := by
      first
        | (simpa only [Heap.size_push] using dn)
        | exact dn
        | (have q := dn; rw [Heap.size_push, Heap.size_push] at q; exact q)
    exact ⟨rfl, hq h' tk' (hp.objs.size + 1) dx ⟨old, Nat.le_succ _, hx, Nat.le_trans (Nat.le_trans (Nat.le_succ _) (Nat.le_succ _)) z, dne, hns⟩⟩
end
end SupX_value
end PySem

set_option Elab.async false
set_option linter.all false
set_option maxRecDepth 100000
set_option maxHeartbeats 2000000

namespace L2
open PySem PySem.Spec PyProof.Rows
theorem relO_one {f : Str} {v : V} {v' : Value} (r : RelV v v') (g : Str) : RelO (List.lookup g [(f, v)]) (if g = f then some v' else none) := by
  by_cases hw : g = f
  · subst hw
    rw [if_pos rfl]
    have q : List.lookup g [(g, v)] = some v := by simp [List.lookup]
    rw [q]
    exact r
  · rw [if_neg hw]
    have qw : (g == f) = false := by simpa using hw
    have q2 : List.lookup g [(f, v)] = none := by simp [List.lookup, qw]
    rw [q2]
    trivial
/-- C(e), an exception that is made -/
def tMkX (C : Addr) (f : Str) (ta : TA) : St → Hp → XK → Prop := fun σ H Q => ta σ H fun vs H1 => ∃ v, vs = [v] ∧ ∀ d, H1 d = none → Q (.ref C) (some d) (upd H1 d (.xd [(f, v)]))
/-- C(e) as a value: the exception at a, its dict at d -/
def tExV (C : Addr) (f : Str) (ta : TA) : TE := fun σ H Q => ta σ H fun vs H1 => ∃ v, vs = [v] ∧ ∀ a d, H1 a = none → H1 d = none → d ≠ a → Q (.ref a) (upd (upd H1 d (.xd [(f, v)])) a (exo a C (some d)))
end L2
namespace L2
namespace Sup_value
open PySem PySem.Spec PyProof.Rows PySem.SupX_value
section
variable {X : Cx} {C fI : Addr} {x : Str}
theorem gblt {pins : List (Addr × Obj)} {σ : St} {H : Hp} {s : Shared} (I : Inv X pins σ H s) : ∃ mb, s.heap.Ns builtinsNs mb ∧ ∀ y : Str, y ≠ "__name__" → mb y = bootBuiltins y := by
  obtain ⟨mb, h1, h2⟩ := I.mod.blt
  exact ⟨mb, h1.keeps I.bk, h2⟩
theorem pmk_sup {a : Expr} {ta : TA} {p pos : Pos} {k : Nat} (T : XTxt X.prog X.K X.mg x C fI) (hr : Room k X.A) (ha : PA X [a] ta) (hg : Gl X x := by rfl)
    (he : starEach (a :: []) X.env = (false, eval a X.env) :: starEach [] X.env := by rfl) (hpl : (backTo pos (starEach [] X.env)).any (·.1) = false := by rfl) :
    PMk X (.Call (.Name x p) [a] [] pos) (tMkX C "value" ta) := by
  intro pins s σ H Q I h
  refine wpAny_Call_Name_kw (ld_glob I hg T.gC ?_ T.nm)
  refine PySem.W.callWith_K (h₀ := X.base) I.ok.mod.kin T.kC (thn (ha.run pos pins s σ H _ I h) fun us s1 hh => ?_) he hpl
  obtain ⟨vs, H1, I1, r1, v, ev, q1⟩ := hh
  subst ev
  refine ⟨I1.kIn, ?_⟩
  cases r1 with
  | cons rv rn =>
    rename_i v' us'
    cases rn
    show wpAny _ _ (call (.ref C) [v']) _ _ _
    have hlim := I1.nolimit
    have hgl := I1.mod.glob.keeps I1.bk
    have hbl := gblt I1
    obtain ⟨hp, g, dr, tk, os⟩ := s1
    refine wpAny_call (sup_made T I1.kIn hlim hgl hbl (by have := hr.dp; omega) fun h' tk' e d M => ?_)
    show MkP X pins σ Q (.ref e) ⟨h', g, dr, tk', os⟩
    obtain ⟨t1, hoe⟩ := M.obj
    have hns := M.ns
    obtain ⟨G', g1, g2⟩ := restrict h' fun b => decide (b ≠ e)
    have gk : ∀ b, b ≠ e → G'.get? b = h'.get? b := fun b hb => g1 b (decide_eq_true hb)
    have ge : G'.get? e = none := g2 e (by simp)
    have old : ∀ b o, hp.get? b = some o → G'.get? b = some o := fun b o q => (gk b (Nat.ne_of_lt (Nat.lt_of_lt_of_le (Heap.lt_size q) M.new))).trans (M.keep b o q)
    have ob : ObjOk X.prog X.w (upd H1 d (.xd [(("value" : Str), v)])) G' d (.xd [(("value" : Str), v)]) :=
      ⟨_, hns.at (fun o q => (gk d M.dne).trans q), fun f => relO_one rv f⟩
    have J : Inv X pins σ (upd H1 d (.xd [(("value" : Str), v)])) ⟨G', g, dr, tk', os⟩ := I1.laid (t' := tk') old M.dbig ob
    refine ⟨e, _, _, ⟨G', g, dr, tk', os⟩, _, .ref C, some d, rfl, J, fun b o q => ?_, ge, hoe, ⟨rfl, rfl⟩, rfl, rfl, ?_, rfl, I1.bare, raises_own T.exC T.tyC, q1 d (I1.hok.fresh M.dbig)⟩
    · by_cases hb : b = e
      · have q' : G'.get? b = some o := q
        rw [hb, ge] at q'; cases q'
      · exact (gk b hb).symm.trans q
    · rw [upd_ne (Ne.symm M.dne)]
      exact I1.hok.fresh M.new
/-- raise C(e) -/
theorem ps_raiseSup {a : Expr} {ta : TA} {W : WX} {p pos pos2 : Pos} {k : Nat} (hc : X.calm = true) (T : XTxt X.prog X.K X.mg x C fI) (hr : Room k X.A) (tk : Takes X W) (ha : PA X [a] ta) (hg : Gl X x := by rfl)
    (he : starEach (a :: []) X.env = (false, eval a X.env) :: starEach [] X.env := by rfl) (hpl : (backTo pos (starEach [] X.env)).any (·.1) = false := by rfl) :
    PS X (.Raise (some (.Call (.Name x p) [a] [] pos)) none pos2) (fun _ σ H => tMkX C "value" ta σ H fun cls d H' => W cls d σ H') := ps_raise hc tk (pmk_sup T hr ha hg he hpl)
theorem pmk_supN {a : Expr} {ta : TA} {p pos : Pos} {k : Nat} (T : XTxt X.prog X.K X.mg x C fI) (hr : Room k X.A) (ha : PA X [a] ta) (hg : Gl X x := by rfl)
    (he : starEach (a :: []) X.env = (false, eval a X.env) :: starEach [] X.env := by rfl) (hpl : (backTo pos (starEach [] X.env)).any (·.1) = false := by rfl) :
    L2N.PMk X (.Call (.Name x p) [a] [] pos) (tMkX C "value" ta) := by
  intro pins s σ H Q I h
  refine wpAny_Call_Name_kw (ld_glob I hg T.gC ?_ T.nm)
  refine PySem.W.callWith_K (h₀ := X.base) I.ok.mod.kin T.kC (thn (ha.run pos pins s σ H _ I h) fun us s1 hh => ?_) he hpl
  obtain ⟨vs, H1, I1, r1, v, ev, q1⟩ := hh
  subst ev
  refine ⟨I1.kIn, ?_⟩
  cases r1 with
  | cons rv rn =>
    rename_i v' us'
    cases rn
    show wpAny _ _ (call (.ref C) [v']) _ _ _
    have hlim := I1.nolimit
    have hgl := I1.mod.glob.keeps I1.bk
    have hbl := gblt I1
    obtain ⟨hp, g, dr, tk, os⟩ := s1
    refine wpAny_call (sup_made T I1.kIn hlim hgl hbl (by have := hr.dp; omega) fun h' tk' e d M => ?_)
    show L2N.MkP X pins σ Q (.ref e) ⟨h', g, dr, tk', os⟩
    obtain ⟨t1, hoe⟩ := M.obj
    have hns := M.ns
    obtain ⟨G', g1, g2⟩ := restrict h' fun b => decide (b ≠ e)
    have gk : ∀ b, b ≠ e → G'.get? b = h'.get? b := fun b hb => g1 b (decide_eq_true hb)
    have ge : G'.get? e = none := g2 e (by simp)
    have old : ∀ b o, hp.get? b = some o → G'.get? b = some o := fun b o q => (gk b (Nat.ne_of_lt (Nat.lt_of_lt_of_le (Heap.lt_size q) M.new))).trans (M.keep b o q)
    have ob : ObjOk X.prog X.w (upd H1 d (.xd [(("value" : Str), v)])) G' d (.xd [(("value" : Str), v)]) :=
      ⟨_, hns.at (fun o q => (gk d M.dne).trans q), fun f => relO_one rv f⟩
    have J : Inv X pins σ (upd H1 d (.xd [(("value" : Str), v)])) ⟨G', g, dr, tk', os⟩ := I1.laid (t' := tk') old M.dbig ob
    refine ⟨e, _, _, ⟨G', g, dr, tk', os⟩, _, .ref C, some d, rfl, J, fun b o q => ?_, ge, hoe, ⟨rfl, rfl, fun vs e => by cases e; rfl⟩, rfl, rfl, ?_, rfl, I1.bare, raises_own T.exC T.tyC, q1 d (I1.hok.fresh M.dbig)⟩
    · by_cases hb : b = e
      · have q' : G'.get? b = some o := q
        rw [hb, ge] at q'; cases q'
      · exact (gk b hb).symm.trans q
    · rw [upd_ne (Ne.symm M.dne)]
      exact I1.hok.fresh M.new
/-- raise C(e) -/
theorem ps_raiseSupN {a : Expr} {ta : TA} {W : WX} {p pos pos2 : Pos} {k : Nat} (hc : X.calm = true) (T : XTxt X.prog X.K X.mg x C fI) (hr : Room k X.A) (tk : L2N.Takes X W) (ha : PA X [a] ta) (hg : Gl X x := by rfl)
    (he : starEach (a :: []) X.env = (false, eval a X.env) :: starEach [] X.env := by rfl) (hpl : (backTo pos (starEach [] X.env)).any (·.1) = false := by rfl) :
    PS X (.Raise (some (.Call (.Name x p) [a] [] pos)) none pos2) (fun _ σ H => tMkX C "value" ta σ H fun cls d H' => W cls d σ H')   := L2N.ps_raise hc tk (pmk_supN T hr ha hg he hpl)
/-- C(e) as a value -/
theorem pe_supV {a : Expr} {ta : TA} {p pos : Pos} {k : Nat} (T : XTxt X.prog X.K X.mg x C fI) (hr : Room k X.A) (ha : PA X [a] ta) (hg : Gl X x := by rfl)
    (he : starEach (a :: []) X.env = (false, eval a X.env) :: starEach [] X.env := by rfl) (hpl : (backTo pos (starEach [] X.env)).any (·.1) = false := by rfl) :
    PE X (.Call (.Name x p) [a] [] pos) (tExV C "value" ta) := by
  refine ⟨fun pins s σ H Q I h => ?_⟩
  refine wpAny_Call_Name_kw (ld_glob I hg T.gC ?_ T.nm)
  refine PySem.W.callWith_K (h₀ := X.base) I.ok.mod.kin T.kC (thn (ha.run pos pins s σ H _ I h) fun us s1 hh => ?_) he hpl
  obtain ⟨vs, H1, I1, r1, v, ev, q1⟩ := hh
  subst ev
  refine ⟨I1.kIn, ?_⟩
  cases r1 with
  | cons rv rn =>
    rename_i v' us'
    cases rn
    show wpAny _ _ (call (.ref C) [v']) _ _ _
    have hlim := I1.nolimit
    have hgl := I1.mod.glob.keeps I1.bk
    have hbl := gblt I1
    obtain ⟨hp, g, dr, tk, os⟩ := s1
    refine wpAny_call (sup_made T I1.kIn hlim hgl hbl (by have := hr.dp; omega) fun h' tk' e d M => ?_)
    obtain ⟨t1, hoe⟩ := M.obj
    have hne : H1 e = none := I1.hok.fresh M.new
    have hnd : H1 d = none := I1.hok.fresh M.dbig
    have nde : ∀ {b : Addr} {o : Obj}, hp.get? b = some o → b ≠ e := fun {b o} z => Nat.ne_of_lt (Nat.lt_of_lt_of_le (Heap.lt_size z) M.new)
    have ndd : ∀ {b : Addr} {o : Obj}, hp.get? b = some o → b ≠ d := fun {b o} z => Nat.ne_of_lt (Nat.lt_of_lt_of_le (Heap.lt_size z) M.dbig)
    have two : ∀ {b : Addr} {o : HO}, H1 b = some o → upd (upd H1 d (.xd [(("value" : Str), v)])) e (exo e C (some d)) b = some o := fun {b o} z => by
      rw [upd_ne (ne_of_none z hne), upd_ne (ne_of_none z hnd)]
      exact z
    have U : Un X.fs [] H1 (upd (upd H1 d (.xd [(("value" : Str), v)])) e (exo e C (some d))) hp h' := {
      keep := fun b u z _ _ _ => M.keep b u z
      slot := fun b u z _ _ _ => ⟨u.slots, M.keep b u z⟩
      free := fun b u z n _ => by rw [upd_ne (nde z), upd_ne (ndd z)]; exact n
      there := fun b u z _ => ⟨u, M.keep b u z⟩
      tups := fun b xs z => two z
      frzs := fun b u xs z => two z
      tbls := fun b ps z => ⟨#[], by rw [two z]; simp⟩ }
    have ok2 : HOk X.prog X.w (upd (upd H1 d (.xd [(("value" : Str), v)])) e (exo e C (some d))) h' := fun b o z => by
      by_cases hb : b = e
      · subst hb
        rw [upd_same] at z
        cases z
        exact exo_ok hoe
      · rw [upd_ne hb] at z
        by_cases hd : b = d
        · subst hd
          rw [upd_same] at z
          cases z
          exact ⟨_, M.ns, fun f => relO_one rv f⟩
        · rw [upd_ne hd] at z
          exact (I1.hok b o z).stay (fun c u _ q => M.keep c u q) (fun c q => two q) fun c xs q => two q
    have J2 : Inv X pins σ (upd (upd H1 d (.xd [(("value" : Str), v)])) e (exo e C (some d))) ⟨h', g, dr, tk', os⟩ := I1.un (t' := tk') U ok2
    exact ⟨.ref e, _, J2, rfl, q1 e d hne hnd M.dne⟩
end
end Sup_value
end L2

set_option Elab.async false
set_option linter.all false
set_option maxRecDepth 100000
set_option maxHeartbeats 2000000
/-! An own exception class under a class under ValueError, whose __init__ is: super().__init__("text"); self.f = f. -/
namespace PySem
namespace SupX_what
open PySem.W PySem.Calls PyProof.Rows PySem.HandSPX
/-! ### the text of such an __init__ -/
def iA (p1 p2 : Pos) : Arguments := { posonlyargs := [], args := [{ arg := "self", annotation := none, pos := p1 }, { arg := "what", annotation := none, pos := p2 }], vararg := none, kwonlyargs := [], kw_defaults := [], kwarg := none, defaults := [] }
def iB (m : Str) (k : Nat) (p0 p1 p2 p3 p4 p5 q1 q2 q3 q4 : Pos) : List Stmt :=
  [.Expr (.Call (.Attribute (.Call (.Name "super" p0) [] [] p1) "__init__" p2) [.Constant (.str m) k p3] [] p4) p5,
   .Assign [.Attribute (.Name "self" q1) "what" q2] (.Name "what" q3) q4]
def iS : Scope := { kind := .function, names := [(PySem.Str.ofString "self", .local), (PySem.Str.ofString "what", .local), (PySem.Str.ofString "__class__", .free), (PySem.Str.ofString "super", .globalImplicit)], isGenerator := false, isCoroutine := false, more := [] }
/-- what the written part says of such a class at C, its __init__ at fI -/
structure XTxt (P : Program) (K : Frag) (mg : Str → Option Value) (x : Str) (C fI : Addr) : Prop where
  gC : mg x = some (.ref C)
  nm : (x == ("__debug__" : Str)) = false
  sup : mg "super" = none
  cls : ∃ nm q N bs bm sn sub ab col dd k0 k1 k2 k3 k5, K.lookup C = some (excClassObj nm q C N bs bm true sn sub ab col dd k0 k1 k2 k3 k5 "ValueError.__new__") ∧ refsVE bm = true
  sa : findIn K (.ref C) "__setattr__" = some (some (.builtin "object.__setattr__"))
  noN : findIn K (.ref C) "what" = some none
  iC : findIn K (.ref C) "__init__" = some (some (.ref fI))
  tC : typeIn K (.ref fI) = some (.type "function")
  kC : keepIn K (.ref C) = true
  exC : subIn K (.ref C) (.type "BaseException") = some true
  veC : subIn K (.ref C) (.type "ValueError") = some true
  tyC : typeIn K (.ref C) = some (.type "type")
  te : exmOne K (.ref C) (.ref C) = some true
  xf : L2.XfC K C
  sIn : ks_superIn K C C "__init__" = some (some (.builtin "ValueError.__init__"))
  opq : nsIn K cStatics "thirdparty.any" = some none
  mro : mroIn K C (.ref C) = some true
  htop : (P.main.scope.names.lookup ("super" : Str)).isSome = false
  fn : ∃ (oc : Value) (od : Option Addr) (doc pm : Value) (an : Option Addr) (cda cc : Addr) (ct : Value) (osl : Array (Option Value)) (qual m : Str) (k : Nat) (r1 r2 p0 p1 p2 p3 p4 p5 q1 q2 q3 q4 : Pos)
      (ccl cl : Value) (cdd cld : Option Addr) (ccs csl : Array (Option Value)) (vs : Array Value) (file : Str) (tf : Tok),
    K.lookup fI = some ⟨oc, od, .func (ksFn "__init__" qual (iA r1 r2) (iB m k p0 p1 p2 p3 p4 p5 q1 q2 q3 q4) iS .none .none doc pm an (.ref cda) ct cc), osl⟩ ∧ codeIn K (.ref cda) qual = true ∧ (p2.endLine == p4.line) = true ∧
    K.lookup cda = some ⟨ccl, cdd, .fields vs, ccs⟩ ∧ vs[2]? = some (.str file tf) ∧ ((P.main.file : Str) == file) = true ∧ K.lookup cc = some ⟨cl, cld, .cell (some (.ref C)), csl⟩
/-- what __init__ leaves of a fresh exception at x -/
structure InitEnd (h h' : Heap) (x C dx : Addr) (v : Value) : Prop where
  keep : ∀ b o, b ≠ x → h.get? b = some o → h'.get? b = some o
  obj : ∃ t1 : Addr, h'.get? x = some { cls := .ref C, dict := some dx, data := .fields #[.ref t1, .none, .none, .none, .bool false, .none] }
  dbig : h.objs.size ≤ dx
  dne : dx ≠ x
  ns : h'.Ns1 dx (fun y => if y = "what" then some v else none)
theorem kept_but {K : Frag} {h h' : Heap} {x : Addr} (X : K.In h) (hx : K.lookup x = none) (k : ∀ b o, b ≠ x → h.get? b = some o → h'.get? b = some o) : K.In h' := fun a o e =>
  k a o (fun z => by rw [z, hx] at e; cases e) (X a o e)
theorem two_size (v : Value) : [v].length ≤ sizeLine := by
  rw [sizeLine_eq]
  exact (by decide : 1 ≤ 16777216)
section
variable {prog : Program} {w : World} {A : Around} {E : Value → Shared → Prop} {h : Heap} {g : Array GenState} {d : Drawn} {t : Nat} {os : OsState}
variable {nm q : Str} {C N : Addr} {bs bm : List Value} {hdct : Bool} {sn : List Str} {sub : List Value} {ab : Bool} {col : Option Bool} {dd : Option Addr} {k0 k1 k2 k3 k5 : Option Value}
/-- the bound ValueError.__init__, called -/
theorem call_bw {u e t0 : Addr} {rest : List Value} {Q : Value → Shared → Prop}
    (hC : h.get? C = some (excClassObj nm q C N bs bm hdct sn sub ab col dd k0 k1 k2 k3 k5 "ValueError.__new__")) (he : h.get? e = some (excO C t0)) (hu : h.get? u = some (kxs_mw "ValueError.__init__" e)) (hrest : rest.length ≤ sizeLine)
    (hq : ∀ h' t1, (∀ b o, b ≠ e → h.get? b = some o → h'.get? b = some o) → h'.get? e = some (excO C t1) → Q .none ⟨h', g, d, t, os⟩) :
    wpAny (model prog w) A (call (.ref u) rest) Q E ⟨h, g, d, t, os⟩ := by
  refine wpAny_call (codeAny_of_tree ?_)
  show wpAny _ A.in1 (callAny (.ref u) ⟨rest, []⟩) _ _ _
  simp only [callAny]
  refine wpAny_bind (wpAny_load hu ?_)
  simp only [kxs_mw, show (Value.type "method-wrapper" == Value.type "method" || Value.type "method-wrapper" == Value.type "builtin_function_or_method" || Value.type "method-wrapper" == Value.type "method-wrapper") = true by decide, if_true]
  refine W.KFB.if_so (by decide) ?_
  refine wpAny_bind (ESX.check_bound F.excBase_ValueError hC he rfl ?_)
  refine wpAny_bind (wpAny_pure (wpAny_pure ?_))
  refine ⟨Code.quiet_builtin _ (by decide +kernel), codeAny_builtin F.excBase_ValueError.initEntry ?_⟩
  rw [Around.under_plainId F.excBase_ValueError.init.plain _]
  wp_walk
  refine hq _ h.objs.size (fun b o hb ho => ?_) ?_
  · rw [Heap.get?_update_other _ _ (Ne.symm hb)]
    exact Heap.get?_push_of_some _ ho
  · rw [Heap.get?_update_self _ (Heap.get?_push_of_some _ he) rfl]
    rfl
end
section
variable {prog : Program} {w : World} {A : Around} {R : Result → Shared → Prop} {s : Shared} {K : Frag} {mg : Str → Option Value} {x : Str} {C fI : Addr}
theorem sup_init (T : XTxt prog K mg x C fI) {e t0 : Addr} {v : Value} (X : K.In s.heap) (hlim : s.heap.NoLimit) (hg : s.heap.Ns mainGlobals mg) (hb : ∃ mb, s.heap.Ns builtinsNs mb ∧ ∀ y : Str, y ≠ "__name__" → mb y = bootBuiltins y)
    (hx : s.heap.get? e = some (excO C t0)) (hnx : K.lookup e = none) (hroom : A.depth < recursionLimit)
    (hq : ∀ h' tk dx, InitEnd s.heap h' e C dx v → R (.ok (.ret .none)) { s with heap := h', toks := tk }) :
    codeAny (model prog w) A (.call (.ref fI) ⟨[.ref e, v], []⟩) R s := by
  obtain ⟨oc, od, doc, pm, an, cda, cc, ct, osl, qual, m, k, r1, r2, p0, p1, p2, p3, p4, p5, q1, q2, q3, q4, ccl, cl, cdd, cld, ccs, csl, vs, file, tf, ho, hcd, hln, hcode, hvs, hfile, hcell⟩ := T.fn
  obtain ⟨nm, q, N, bs, bm, sn, sub, ab, col, dd, k0, k1, k2, k3, k5, hC, hbm⟩ := T.cls
  obtain ⟨mb, hb1, hb2⟩ := hb
  have hcl : clsIn K C = some { name := nm, bases := bs, mro := .ref C :: bm, ns := N, qualname := q, hasDict := true, slotNames := sn, subclasses := sub, abstract := ab, collection := col, hasDel := false } := by unfold clsIn; rw [hC] <;> rfl
  refine ks_codeAny_call_defAt (fd := ksFn "__init__" qual (iA r1 r2) (iB m k p0 p1 p2 p3 p4 p5 q1 q2 q3 q4) iS .none .none doc pm an (.ref cda) ct cc) (body := iB m k p0 p1 p2 p3 p4 p5 q1 q2 q3 q4) (binds := [("self", .ref e), ("what", v)])
    hroom (X _ _ ho) rfl hlim (codeRec_of X hcd) rfl (BindsTo.of_eq ?_) ?_ ?_ (fun h₁ hns hk₁ => ?_) rfl rfl rfl
  · first | rfl | with_unfolding_all rfl
  · intro y hy
    have hy2 : y ∈ [(PySem.Str.ofString "self", NameKind.local), (PySem.Str.ofString "what", .local), (PySem.Str.ofString "__class__", .free), (PySem.Str.ofString "super", .globalImplicit)] := hy
    simp only [List.mem_cons, List.not_mem_nil, or_false] at hy2
    rcases hy2 with rfl | rfl | rfl | rfl <;> intro z <;> cases z
  · intro y hy
    simp only [List.mem_cons, List.not_mem_nil, or_false] at hy
    rcases hy with rfl | rfl <;> rfl
  -- the frame: self, the field's value
  have X₁ : K.In h₁ := X.keeps hk₁
  have hx₁ := hk₁ _ _ hx
  have hC₁ := X₁ _ _ hC
  show _root_.PySem.wpAt _ _ _ (execs (iB m k p0 p1 p2 p3 p4 p5 q1 q2 q3 q4) _) _ _ _
  refine ks_wpAt_execs_cons (ks_wpAt_Expr_any (ks_wpAt_MethodCall (pl := (do return (← importBound (.Call (.Name "super" p0) [] [] p1) (callEnv
          (ksFn "__init__" qual (iA r1 r2) (iB m k p0 p1 p2 p3 p4 p5 q1 q2 q3 q4) iS .none .none doc pm an (.ref cda) ct cc) s.heap.objs.size fI)).getD true)) ?_ ?he) rfl rfl)
  case he =>
    rw [eval]
    unfold methodCall methodCallPos
    simp only [hln, Bool.or_true, if_true, pure_bind]
    rfl
  refine ks_wpAt_super_base (f := fI) (cc := cda) rfl rfl (by decide +kernel) rfl (X₁ _ _ ho) rfl rfl rfl (X₁ _ _ hcode) rfl hvs hfile T.htop ?_
  refine ks_loadName_global rfl rfl (loadGlobal_builtin (hg.keeps hk₁) T.sup (hb1.keeps hk₁) ((hb2 _ (by decide +kernel)).trans (show bootBuiltins "super" = some (.type "super") by first | rfl | decide +kernel | kernel_rfl)) ⟨rfl, ?_⟩)
  refine wpAny_loadName_free rfl rfl rfl ⟨_, X₁ _ _ hcell, rfl⟩ ?_
  refine wpAny_loadName_local (v := .ref e) rfl rfl hns (by rfl) ?_
  refine ks_wpAny_isType_cls hC₁ rfl ⟨rfl, ?_⟩
  refine ks_wpAny_call_super hC₁ rfl hx₁ rfl (fun c z => nomatch z) (looks_mroIn X₁ T.mro) (fun h₂ e₂ k₂ => ?_)
  have X₂ : K.In h₂ := X₁.keeps k₂
  have hx₂ := k₂ _ _ hx₁
  have hC₂ := X₂ _ _ hC
  have I₂ : InstAt h₂ e (excO C t0) C none := ⟨hx₂, rfl, rfl, trivial⟩
  have hI : Looks (model prog w) h₂ (isInstance (.ref e) (.type "ValueError")) true := I₂.type.andThen (looks_subIn X₂ T.veC)
  have hsi : alongIn K "__init__" (((Value.ref C :: bm).dropWhile (· != .ref C)).drop 1) = some (some (.builtin "ValueError.__init__")) := by
    have z := T.sIn
    unfold ks_superIn at z
    rw [hcl] at z
    exact z
  have hmro : Looks (model prog w) h₂ (mroOf (.ref C)) (Value.ref C :: bm) := fun A' Q' E' s' k' q' => wpAny_bind ((looks_clsIn X₂ hcl) A' _ E' s' k' (wpAny_pure q'))
  refine kxs_getMethod kxs_ValueError e₂ (looks_opaque X₂ T.opq) hmro rfl X₂ hsi hI (ks_ne X₂ I₂ hcl) (by decide +kernel) ?_
  have hu : (h₂.push (kxs_mw "ValueError.__init__" e)).get? h₂.objs.size = some (kxs_mw "ValueError.__init__" e) := by heap_get
  have k₃ : ∀ b o, h₂.get? b = some o → (h₂.push (kxs_mw "ValueError.__init__" e)).get? b = some o := fun b o z => Heap.get?_push_of_some _ z
  refine kxs_callWith (i := "ValueError.__init__") (x := e) (by rfl) ?_
  refine evalArgs_plain (spliced_cons ?_)
  show wpAny _ _ (eval (.Constant (.str m) k p3) _) _ _ _
  refine Constant_str (spliced_nil ⟨hu, ?_⟩)
  refine call_bw (k₃ _ _ hC₂) (k₃ _ _ hx₂) hu (two_size _) (fun h₄ t4 k₄ hx₄ => ?_)
  have k₅ : ∀ b o, b ≠ e → s.heap.get? b = some o → h₄.get? b = some o := fun b o z y => k₄ b o z (k₃ _ _ (k₂ _ _ (hk₁ _ _ y)))
  have X₄ : K.In h₄ := kept_but (X₂.keeps k₃) hnx k₄
  have hLe : s.heap.objs.size ≠ e := Nat.ne_of_gt (Heap.lt_size hx)
  have hns₄ : h₄.Ns s.heap.objs.size (fun y => List.lookup y ([(("self" : Str), Value.ref e), (("what" : Str), v)] : List (Str × Value)).reverse) := by
    obtain ⟨oL, es, ep, hL, r⟩ := hns
    exact ⟨oL, es, ep, k₄ _ _ hLe (k₃ _ _ (k₂ _ _ hL)), r⟩
  show wpAt _ _ _ (execs [.Assign [.Attribute (.Name "self" q1) "what" q2] (.Name "what" q3) q4] _) _ _ _
  refine wpAt_of_wpAny (wpAny_execs_cons (plainObj_wpAny_Assign_Attribute ?_))
  refine ESX.ldL (v := v) hns₄ (by rfl) (ESX.ldL (v := .ref e) hns₄ (by rfl) ?_)
  refine set_plain X₄ (ox := excO C t4) (od := none) ⟨hx₄, rfl, rfl, trivial⟩ T.sa ?_
  refine exc_osa X₄ hx₄ hcl (show refsVE (.ref C :: bm) = true from hbm) rfl T.noN (fun h₆ tk₆ dx k₆ dn dne hx₆ hn₆ => ?_)
  refine wpAny_execs_nil (hq h₆ tk₆ dx ⟨fun b o hb y => k₆ b o hb (k₅ b o hb y), ⟨t4, hx₆⟩, ?_, dne, hn₆⟩)
  have z : s.heap.objs.size < h₄.objs.size := hns₄.lt
  exact Nat.le_of_lt (Nat.lt_of_lt_of_le z dn)
/-- a made exception -/
structure OwnMade (h h' : Heap) (e C d : Addr) (v : Value) : Prop where
  keep : ∀ b o, h.get? b = some o → h'.get? b = some o
  new : h.objs.size ≤ e
  obj : ∃ t1 : Addr, h'.get? e = some { cls := .ref C, dict := some d, data := .fields #[.ref t1, .none, .none, .none, .bool false, .none] }
  dbig : h.objs.size ≤ d
  dne : d ≠ e
  ns : h'.Ns1 d (fun y => if y = "what" then some v else none)
theorem sup_made (T : XTxt prog K mg x C fI) {v : Value} (X : K.In s.heap) (hlim : s.heap.NoLimit) (hg : s.heap.Ns mainGlobals mg) (hb : ∃ mb, s.heap.Ns builtinsNs mb ∧ ∀ y : Str, y ≠ "__name__" → mb y = bootBuiltins y) (hroom : A.depth + 1 < recursionLimit)
    (hq : ∀ h' tk e d, OwnMade s.heap h' e C d v → R (.ok (.ret (.ref e))) { s with heap := h', toks := tk }) :
    codeAny (model prog w) A (.call (.ref C) ⟨[v], []⟩) R s := by
  obtain ⟨nm, q, N, bs, bm, sn, sub, ab, col, dd, k0, k1, k2, k3, k5, hC, hbm⟩ := T.cls
  obtain ⟨mb, hb1, hb2⟩ := hb
  obtain ⟨hp, g, dr, tk, os⟩ := s
  have k : ∀ b o, hp.get? b = some o → ((hp.push (kdv_tup [v])).push (excO C hp.objs.size)).get? b = some o := fun b o e => Heap.get?_push_of_some _ (Heap.get?_push_of_some _ e)
  have hget : ((hp.push (kdv_tup [v])).push (excO C hp.objs.size)).get? (hp.objs.size + 1) = some (excO C hp.objs.size) := by heap_get
  have hnx : K.lookup (hp.objs.size + 1) = none := by
    cases e : K.lookup (hp.objs.size + 1) with
    | none => rfl
    | some o =>
      have z : hp.get? (hp.objs.size + 1) = some o := X _ _ e
      exact absurd (Nat.lt_of_succ_lt (Heap.lt_size z)) (Nat.lt_irrefl _)
  refine call_own F.excBase_ValueError (fun X => refsVE_contains X bm hbm) (X _ _ hC) (looks_findIn X T.iC) (fun self => bind_fn X self T.tC) (two_size v) ?_
  refine sup_init (s := ⟨(hp.push (kdv_tup [v])).push (excO C hp.objs.size), g, dr, tk, os⟩) T (X.keeps k) (hlim.keeps k) (hg.keeps k) ⟨mb, hb1.keeps k, hb2⟩ hget hnx ?_ fun h' tk' dx M => ?_
  · show A.depth + 1 < recursionLimit
    exact hroom
  · obtain ⟨k', hx, dn, dne, hns⟩ := M
    have old : ∀ b o, hp.get? b = some o → h'.get? b = some o := fun b o e => k' b o (Nat.ne_of_lt (Nat.lt_succ_of_lt (Heap.lt_size e))) (k b o e)
    have z : hp.objs.size + 1 + 1 ≤ dx := by
      first
        | (simpa only [Heap.size_push] using dn)
        | exact dn
        | (have q := dn; rw [Heap.size_push, Heap.size_push] at q; exact q)
    exact ⟨rfl, hq h' tk' (hp.objs.size + 1) dx ⟨old, Nat.le_succ _, hx, Nat.le_trans (Nat.le_trans (Nat.le_succ _) (Nat.le_succ _)) z, dne, hns⟩⟩
end
end SupX_what
end PySem
namespace L2
namespace Sup_what
open PySem PySem.Spec PyProof.Rows PySem.SupX_what
section
variable {X : Cx} {C fI : Addr} {x : Str}
theorem gblt {pins : List (Addr × Obj)} {σ : St} {H : Hp} {s : Shared} (I : Inv X pins σ H s) : ∃ mb, s.heap.Ns builtinsNs mb ∧ ∀ y : Str, y ≠ "__name__" → mb y = bootBuiltins y := by
  obtain ⟨mb, h1, h2⟩ := I.mod.blt
  exact ⟨mb, h1.keeps I.bk, h2⟩
theorem pmk_sup {a : Expr} {ta : TA} {p pos : Pos} {k : Nat} (T : XTxt X.prog X.K X.mg x C fI) (hr : Room k X.A) (ha : PA X [a] ta) (hg : Gl X x := by rfl)
    (he : starEach (a :: []) X.env = (false, eval a X.env) :: starEach [] X.env := by rfl) (hpl : (backTo pos (starEach [] X.env)).any (·.1) = false := by rfl) :
    PMk X (.Call (.Name x p) [a] [] pos) (tMkX C "what" ta) := by
  intro pins s σ H Q I h
  refine wpAny_Call_Name_kw (ld_glob I hg T.gC ?_ T.nm)
  refine PySem.W.callWith_K (h₀ := X.base) I.ok.mod.kin T.kC (thn (ha.run pos pins s σ H _ I h) fun us s1 hh => ?_) he hpl
  obtain ⟨vs, H1, I1, r1, v, ev, q1⟩ := hh
  subst ev
  refine ⟨I1.kIn, ?_⟩
  cases r1 with
  | cons rv rn =>
    rename_i v' us'
    cases rn
    show wpAny _ _ (call (.ref C) [v']) _ _ _
    have hlim := I1.nolimit
    have hgl := I1.mod.glob.keeps I1.bk
    have hbl := gblt I1
    obtain ⟨hp, g, dr, tk, os⟩ := s1
    refine wpAny_call (sup_made T I1.kIn hlim hgl hbl (by have := hr.dp; omega) fun h' tk' e d M => ?_)
    show MkP X pins σ Q (.ref e) ⟨h', g, dr, tk', os⟩
    obtain ⟨t1, hoe⟩ := M.obj
    have hns := M.ns
    obtain ⟨G', g1, g2⟩ := restrict h' fun b => decide (b ≠ e)
    have gk : ∀ b, b ≠ e → G'.get? b = h'.get? b := fun b hb => g1 b (decide_eq_true hb)
    have ge : G'.get? e = none := g2 e (by simp)
    have old : ∀ b o, hp.get? b = some o → G'.get? b = some o := fun b o q => (gk b (Nat.ne_of_lt (Nat.lt_of_lt_of_le (Heap.lt_size q) M.new))).trans (M.keep b o q)
    have ob : ObjOk X.prog X.w (upd H1 d (.xd [(("what" : Str), v)])) G' d (.xd [(("what" : Str), v)]) :=
      ⟨_, hns.at (fun o q => (gk d M.dne).trans q), fun f => relO_one rv f⟩
    have J : Inv X pins σ (upd H1 d (.xd [(("what" : Str), v)])) ⟨G', g, dr, tk', os⟩ := I1.laid (t' := tk') old M.dbig ob
    refine ⟨e, _, _, ⟨G', g, dr, tk', os⟩, _, .ref C, some d, rfl, J, fun b o q => ?_, ge, hoe, ⟨rfl, rfl⟩, rfl, rfl, ?_, rfl, I1.bare, raises_own T.exC T.tyC, q1 d (I1.hok.fresh M.dbig)⟩
    · by_cases hb : b = e
      · have q' : G'.get? b = some o := q
        rw [hb, ge] at q'; cases q'
      · exact (gk b hb).symm.trans q
    · rw [upd_ne (Ne.symm M.dne)]
      exact I1.hok.fresh M.new
/-- raise C(e) -/
theorem ps_raiseSup {a : Expr} {ta : TA} {W : WX} {p pos pos2 : Pos} {k : Nat} (hc : X.calm = true) (T : XTxt X.prog X.K X.mg x C fI) (hr : Room k X.A) (tk : Takes X W) (ha : PA X [a] ta) (hg : Gl X x := by rfl)
    (he : starEach (a :: []) X.env = (false, eval a X.env) :: starEach [] X.env := by rfl) (hpl : (backTo pos (starEach [] X.env)).any (·.1) = false := by rfl) :
    PS X (.Raise (some (.Call (.Name x p) [a] [] pos)) none pos2) (fun _ σ H => tMkX C "what" ta σ H fun cls d H' => W cls d σ H') := ps_raise hc tk (pmk_sup T hr ha hg he hpl)
theorem pmk_supN {a : Expr} {ta : TA} {p pos : Pos} {k : Nat} (T : XTxt X.prog X.K X.mg x C fI) (hr : Room k X.A) (ha : PA X [a] ta) (hg : Gl X x := by rfl)
    (he : starEach (a :: []) X.env = (false, eval a X.env) :: starEach [] X.env := by rfl) (hpl : (backTo pos (starEach [] X.env)).any (·.1) = false := by rfl) :
    L2N.PMk X (.Call (.Name x p) [a] [] pos) (tMkX C "what" ta) := by
  intro pins s σ H Q I h
  refine wpAny_Call_Name_kw (ld_glob I hg T.gC ?_ T.nm)
  refine PySem.W.callWith_K (h₀ := X.base) I.ok.mod.kin T.kC (thn (ha.run pos pins s σ H _ I h) fun us s1 hh => ?_) he hpl
  obtain ⟨vs, H1, I1, r1, v, ev, q1⟩ := hh
  subst ev
  refine ⟨I1.kIn, ?_⟩
  cases r1 with
  | cons rv rn =>
    rename_i v' us'
    cases rn
    show wpAny _ _ (call (.ref C) [v']) _ _ _
    have hlim := I1.nolimit
    have hgl := I1.mod.glob.keeps I1.bk
    have hbl := gblt I1
    obtain ⟨hp, g, dr, tk, os⟩ := s1
    refine wpAny_call (sup_made T I1.kIn hlim hgl hbl (by have := hr.dp; omega) fun h' tk' e d M => ?_)
    show L2N.MkP X pins σ Q (.ref e) ⟨h', g, dr, tk', os⟩
    obtain ⟨t1, hoe⟩ := M.obj
    have hns := M.ns
    obtain ⟨G', g1, g2⟩ := restrict h' fun b => decide (b ≠ e)
    have gk : ∀ b, b ≠ e → G'.get? b = h'.get? b := fun b hb => g1 b (decide_eq_true hb)
    have ge : G'.get? e = none := g2 e (by simp)
    have old : ∀ b o, hp.get? b = some o → G'.get? b = some o := fun b o q => (gk b (Nat.ne_of_lt (Nat.lt_of_lt_of_le (Heap.lt_size q) M.new))).trans (M.keep b o q)
    have ob : ObjOk X.prog X.w (upd H1 d (.xd [(("what" : Str), v)])) G' d (.xd [(("what" : Str), v)]) :=
      ⟨_, hns.at (fun o q => (gk d M.dne).trans q), fun f => relO_one rv f⟩
    have J : Inv X pins σ (upd H1 d (.xd [(("what" : Str), v)])) ⟨G', g, dr, tk', os⟩ := I1.laid (t' := tk') old M.dbig ob
    refine ⟨e, _, _, ⟨G', g, dr, tk', os⟩, _, .ref C, some d, rfl, J, fun b o q => ?_, ge, hoe, ⟨rfl, rfl, fun vs e => by cases e; rfl⟩, rfl, rfl, ?_, rfl, I1.bare, raises_own T.exC T.tyC, q1 d (I1.hok.fresh M.dbig)⟩
    · by_cases hb : b = e
      · have q' : G'.get? b = some o := q
        rw [hb, ge] at q'; cases q'
      · exact (gk b hb).symm.trans q
    · rw [upd_ne (Ne.symm M.dne)]
      exact I1.hok.fresh M.new
/-- raise C(e) -/
theorem ps_raiseSupN {a : Expr} {ta : TA} {W : WX} {p pos pos2 : Pos} {k : Nat} (hc : X.calm = true) (T : XTxt X.prog X.K X.mg x C fI) (hr : Room k X.A) (tk : L2N.Takes X W) (ha : PA X [a] ta) (hg : Gl X x := by rfl)
    (he : starEach (a :: []) X.env = (false, eval a X.env) :: starEach [] X.env := by rfl) (hpl : (backTo pos (starEach [] X.env)).any (·.1) = false := by rfl) :
    PS X (.Raise (some (.Call (.Name x p) [a] [] pos)) none pos2) (fun _ σ H => tMkX C "what" ta σ H fun cls d H' => W cls d σ H')   := L2N.ps_raise hc tk (pmk_supN T hr ha hg he hpl)
/-- C(e) as a value -/
theorem pe_supV {a : Expr} {ta : TA} {p pos : Pos} {k : Nat} (T : XTxt X.prog X.K X.mg x C fI) (hr : Room k X.A) (ha : PA X [a] ta) (hg : Gl X x := by rfl)
    (he : starEach (a :: []) X.env = (false, eval a X.env) :: starEach [] X.env := by rfl) (hpl : (backTo pos (starEach [] X.env)).any (·.1) = false := by rfl) :
    PE X (.Call (.Name x p) [a] [] pos) (tExV C "what" ta) := by
  refine ⟨fun pins s σ H Q I h => ?_⟩
  refine wpAny_Call_Name_kw (ld_glob I hg T.gC ?_ T.nm)
  refine PySem.W.callWith_K (h₀ := X.base) I.ok.mod.kin T.kC (thn (ha.run pos pins s σ H _ I h) fun us s1 hh => ?_) he hpl
  obtain ⟨vs, H1, I1, r1, v, ev, q1⟩ := hh
  subst ev
  refine ⟨I1.kIn, ?_⟩
  cases r1 with
  | cons rv rn =>
    rename_i v' us'
    cases rn
    show wpAny _ _ (call (.ref C) [v']) _ _ _
    have hlim := I1.nolimit
    have hgl := I1.mod.glob.keeps I1.bk
    have hbl := gblt I1
    obtain ⟨hp, g, dr, tk, os⟩ := s1
    refine wpAny_call (sup_made T I1.kIn hlim hgl hbl (by have := hr.dp; omega) fun h' tk' e d M => ?_)
    obtain ⟨t1, hoe⟩ := M.obj
    have hne : H1 e = none := I1.hok.fresh M.new
    have hnd : H1 d = none := I1.hok.fresh M.dbig
    have nde : ∀ {b : Addr} {o : Obj}, hp.get? b = some o → b ≠ e := fun {b o} z => Nat.ne_of_lt (Nat.lt_of_lt_of_le (Heap.lt_size z) M.new)
    have ndd : ∀ {b : Addr} {o : Obj}, hp.get? b = some o → b ≠ d := fun {b o} z => Nat.ne_of_lt (Nat.lt_of_lt_of_le (Heap.lt_size z) M.dbig)
    have two : ∀ {b : Addr} {o : HO}, H1 b = some o → upd (upd H1 d (.xd [(("what" : Str), v)])) e (exo e C (some d)) b = some o := fun {b o} z => by
      rw [upd_ne (ne_of_none z hne), upd_ne (ne_of_none z hnd)]
      exact z
    have U : Un X.fs [] H1 (upd (upd H1 d (.xd [(("what" : Str), v)])) e (exo e C (some d))) hp h' := {
      keep := fun b u z _ _ _ => M.keep b u z
      slot := fun b u z _ _ _ => ⟨u.slots, M.keep b u z⟩
      free := fun b u z n _ => by rw [upd_ne (nde z), upd_ne (ndd z)]; exact n
      there := fun b u z _ => ⟨u, M.keep b u z⟩
      tups := fun b xs z => two z
      frzs := fun b u xs z => two z
      tbls := fun b ps z => ⟨#[], by rw [two z]; simp⟩ }
    have ok2 : HOk X.prog X.w (upd (upd H1 d (.xd [(("what" : Str), v)])) e (exo e C (some d))) h' := fun b o z => by
      by_cases hb : b = e
      · subst hb
        rw [upd_same] at z
        cases z
        exact exo_ok hoe
      · rw [upd_ne hb] at z
        by_cases hd : b = d
        · subst hd
          rw [upd_same] at z
          cases z
          exact ⟨_, M.ns, fun f => relO_one rv f⟩
        · rw [upd_ne hd] at z
          exact (I1.hok b o z).stay (fun c u _ q => M.keep c u q) (fun c q => two q) fun c xs q => two q
    have J2 : Inv X pins σ (upd (upd H1 d (.xd [(("what" : Str), v)])) e (exo e C (some d))) ⟨h', g, dr, tk', os⟩ := I1.un (t' := tk') U ok2
    exact ⟨.ref e, _, J2, rfl, q1 e d hne hnd M.dne⟩
end
end Sup_what
end L2

set_option Elab.async false
set_option linter.all false
set_option maxRecDepth 100000
set_option maxHeartbeats 4000000
namespace PySem.W
open PySem PySem.Spec PySem.Calls PyProof.Rows
section
variable {prog : Program} {w : World} {A : Around} {E : Value → Shared → Prop} {s : Shared} {K : Frag} {x D : Addr} {ox : Obj}
theorem findObj_dX {C : Addr} {odx : Option Obj} {name : Str} {a g : Value} (hc : (clsIn K C).isSome = true) (ha : findIn K (.ref C) name = some (some a)) (hg : specialIn K a "__get__" = some (some g)) (ht : takesIn K a = some true) : findObj K C odx name = some (.bind g a) := by
  obtain ⟨cd, hc⟩ := Option.isSome_iff_exists.mp hc
  unfold findObj
  rw [hc, Option.bind_some, ha, Option.bind_some]
  simp [hg, ht]
theorem kin_classX {odx : Option Obj} {Q : Option Value → Shared → Prop} (hga : findIn K (.ref D) "__getattribute__" = some (some (.builtin "BaseException.__getattribute__"))) (hgt : findIn K (.ref D) "__getattr__" = some none) (hsub : subIn K (.ref D) (.type "BaseException") = some true)
    (hdct : hasDictIn K D = true) (ha : findIn K (.ref D) "__class__" = some (some (.builtin "object.__class__")))
    (hn : specialIn K (.builtin "object.__class__") "__get__" = some (some (.builtin "getset_descriptor.__get__"))) (htk : takesIn K (.builtin "object.__class__") = some true) (hm : mroIn K D (.type "object") = some true)
    (X : K.In s.heap) (I : InstAt s.heap x ox D odx) (h : Q (some (.ref D)) { s with toks := s.toks + 1 }) : wpAny (model prog w) A (getAttr? (.ref x) "__class__") Q E s := by
  have hf : findObj K D odx "__class__" = some (.bind (.builtin "getset_descriptor.__get__") (.builtin "object.__class__")) := findObj_dX (by obtain ⟨cd, hc, _⟩ := any_some hdct; rw [hc]; rfl) ha hn htk
  obtain ⟨hp, g, d, t, os⟩ := s
  have L0 := I.type (M := model prog w)
  have L1 := looks_findIn (M := model prog w) X hga
  have L2 := looks_findIn (M := model prog w) X hgt
  have L3 := looks_find (M := model prog w) X I hf
  have sub : Looks (model prog w) hp (isInstance (.ref x) (.type "BaseException")) true := L0.andThen (looks_subIn X hsub)
  have hx0 : (false && onTheHeap (Value.builtin "BaseException.__getattribute__")) = false := rfl
  have hx2 : (Value.builtin "BaseException.__getattribute__" == Value.builtin "object.__getattribute__") = false := by decide +kernel
  have hx1 : (onTheHeap (Value.ref D) && Value.builtin "BaseException.__getattribute__" == Value.builtin "object.__getattribute__") = false := by rw [hx2]; rfl
  unfold getAttr? getAttrBy? getAttrBy
  refine wpAny_bind (wpAny_mkText (wpAny_bind (wpAny_attempt (wpAny_holding (wpAny_bind (L0.at (wpAny_bind (L1.at ?_))))))))
  show wpAny _ _ (if (onTheHeap (Value.ref D) && Value.builtin "BaseException.__getattribute__" == Value.builtin "object.__getattribute__") = true then _ else _) _ _ _
  rw [hx1, if_neg Bool.false_ne_true]
  unfold getAttrByItsOwn hookBefore
  refine wpAny_bind ?_
  rw [if_pos (show onTheHeap (Value.ref D) = true from rfl)]
  refine L2.at ?_
  refine wpAny_bind (wpAny_attempt (wpAny_holding ?_))
  unfold callGetattribute
  rw [hx0, if_neg Bool.false_ne_true]
  unfold boundAndCalled
  rw [PySem.F.excAttr_ValueError.ga.bind (.ref x)]
  refine wpAny_bind (wpAny_pure ?_)
  show wpAny _ _ (call (.builtin "BaseException.__getattribute__") [.ref x, .str "__class__" t]) _ _ _
  refine wpAny_call (codeAny_call_builtin PySem.F.excAttr_ValueError.ga.plain PySem.F.entry_bexc_ga ?_)
  refine @check_slot (model prog w) _ _ ⟨hp, g, d, t + 1, os⟩ "BaseException.__getattribute__" "BaseException" "__getattribute__" (.ref x) [.str "__class__" t] [] _ (by decide +kernel) (by decide +kernel) sub (PySem.F.args_bexc_ga (.ref x) (.str "__class__" t)) ?_
  unfold Builtin.«object.__getattribute__»
  refine wpAny_bind (wpAny_of_eq (a := ((Value.ref x : Value), [Value.str "__class__" t])) (by first | rfl | (simp only [slotArgs]; rfl)) ?_)
  refine wpAny_bind (wpAny_pure (wpAny_bind (L0.at (wpAny_bind (L3.at ?_)))))
  show wpAny _ _ (holding [Value.builtin "object.__class__"] (call (.builtin "getset_descriptor.__get__") [.builtin "object.__class__", .ref x, .ref D]) >>= ret) _ _ _
  refine wpAny_bind (wpAny_holding (wpAny_call (class_get (s := ⟨hp, g, d, t + 1, os⟩) (ox := ox) (od := odx) X I hm ?_)))
  refine wpAny_pure ?_
  show wpAny _ _ (handedOut (.ref D)) _ _ _
  rw [handedOut_of (v := .ref D) rfl]
  first
    | exact wpAny_pure (wpAny_pure h)
    | exact wpAny_pure h
    | exact wpAny_pure (wpAny_bind (wpAny_pure (wpAny_pure h)))
theorem kitx_excX {odx : Option Obj} (hga : findIn K (.ref D) "__getattribute__" = some (some (.builtin "BaseException.__getattribute__"))) (hgt : findIn K (.ref D) "__getattr__" = some none) (hsub : subIn K (.ref D) (.type "BaseException") = some true) (hdct : hasDictIn K D = true) (ha : findIn K (.ref D) "__class__" = some (some (.builtin "object.__class__")))
    (hn : specialIn K (.builtin "object.__class__") "__get__" = some (some (.builtin "getset_descriptor.__get__"))) (htk : takesIn K (.builtin "object.__class__") = some true) (hm : mroIn K D (.type "object") = some true) :
    KitX K (.ref x) (.ref D) (fun h => InstAt h x ox D odx) where
  ty := fun _ _ _ I => I.type
  it := fun _ _ X _ => by
    obtain ⟨cdD, hcD, _⟩ := any_some hdct
    unfold clsIn at hcD
    split at hcD
    · rename_i c' d' cd' sl' ho
      intro A' Q' E' s' k q
      unfold isType loadHead
      exact wpAny_bind (wpAny_loadPart (k _ _ (X _ _ ho)) (wpAny_pure q))
    · cases hcD
  ne := fun h tp dd its n sl X htp => by
    obtain ⟨cdD, hcD, _⟩ := any_some hdct
    refine Bool.eq_false_iff.mpr fun q => ?_
    have e : D = tp := Value.ref.inj (beq_iff_eq.mp q)
    subst e
    unfold clsIn at hcD
    split at hcD
    · rename_i c' d' cd' sl' ho
      have z := (X _ _ ho).symm.trans htp
      cases z
    · cases hcD
  ca := fun X I k => kin_classX hga hgt hsub hdct ha hn htk hm X I k
end
end PySem.W
namespace L2
open PySem PySem.Spec PyProof.Rows
/-- an exception object that stands, with its dict -/
def ExT (K : PySem.W.Frag) (H : Hp) (x : V) (t : Value) : Prop := ∃ (a C d : Addr) (fs : List (Str × V)), x = .ref a ∧ t = .ref C ∧ H a = some (exo a C (some d)) ∧ H d = some (.xd fs) ∧ ExcC K C
def KX (K : PySem.W.Frag) (H : Hp) (x : V) (t : Value) : Prop := TyX K H x t ∨ ExT K H x t
def rIsiV (K : PySem.W.Frag) : List V → Hp → VK → Prop := fun xs H Q => ∃ (x c : V) (t u : Value) (b : Bool), xs = [x, c] ∧ ClsV c u ∧ KX K H x t ∧ PySem.W.kitOne K t u = some b ∧ Q (.bl b) H
section
variable {X : Cx}
theorem call_isiV : CallR X (.builtin "isinstance") (rIsiV X.K) := by
  intro pins s σ H xs us Q I r h
  obtain ⟨x, c, t, u, b, rfl, k, ty, e, q⟩ := h
  obtain ⟨u1, u2, rfl, r1, r2⟩ := vals2 r
  have e2 := k.eq r2
  subst e2
  rcases ty with ty | ⟨a, C, d, fs, rfl, rfl, ha, hd, EC⟩
  · obtain ⟨P, Z, p, hx⟩ := kit_of I r1 ty
    exact PySem.W.kia_one Z I.kIn p e hx fun tk => ⟨.bl b, H, I.tok tk, rfl, q⟩
  · cases (show u1 = Value.ref a from r1)
    obtain ⟨t1, ho⟩ := exo_at I.hok ha
    obtain ⟨mA, ⟨od, es, ep, hod, _⟩, _⟩ := (show ObjOk X.prog X.w H s.heap d (.xd fs) from I.hok d _ hd)
    have J : PySem.W.InstAt s.heap a _ C (some od) := ⟨ho, rfl, rfl, hod⟩
    exact PySem.W.kia_one (PySem.W.kitx_excX EC.hg EC.hk EC.hs EC.hd EC.ha EC.hn EC.ht EC.hm) I.kIn J e (fun z => nomatch z) fun tk => ⟨.bl b, H, I.tok tk, rfl, q⟩
end
end L2

set_option Elab.async false
set_option linter.all false
set_option maxRecDepth 100000
set_option maxHeartbeats 2000000
namespace L2
open PySem PySem.Spec PyProof.Rows
section
variable {X : Cx} {CX : CXT} {k : Nat} {f C : Addr} {fd : FuncData} {ps ks : List Str} {sp : Sp} {E : XK} {x m : Str} {p pos : Pos} {kws : List Keyword} {tk : TA} {g : List Value → List Value → List Value} {gV : List V → List V → List V}
/-- f(k = v, ..): keywords alone -/
theorem pe_kw0 (F : FnOk X.prog X.w X.K X.mg X.base CX k f fd ps sp) (hr : Room k X.A) (hg : Gl X x) (hm : X.mg x = some (.ref f)) (hk : PySem.W.keepIn X.K (.ref f) = true) (hb : KBinds X.K fd ps ks g gV) (hx : Passes CX X E)
    (hkw : PK X kws tk) (hall : (backToKw pos (keywordEach kws X.env)).all (·.1.isSome) = true := by rfl) (hks : (backToKw pos (keywordEach kws X.env)).filterMap (·.1) = ks := by rfl) (hdb : (x == ("__debug__" : Str)) = false := by decide)
    (hpl : ((backTo pos (starEach [] X.env)).any (·.1) || (backToKw pos (keywordEach kws X.env)).any (·.1.isNone)) = false := by rfl) :
    PE X (.Call (.Name x p) [] kws pos) (tCallK sp gV E tNil tk) := by
  refine ⟨fun pins s σ H Q I h => ?_⟩
  refine wpAny_Call_Name_kw (ld_glob I hg hm ?_ hdb)
  refine PySem.W.callWith_KW0 (h₀ := X.base) I.ok.mod.kin hk hall (thn (hkw.run pos pins s σ H _ I h) fun ws s2 ⟨zs, H2, I2, rz, q2⟩ => ⟨I2.kIn, ?_⟩) hpl
  rw [hks]
  exact run_fnk (us := []) (vs := []) F hr hb hx I2 .nil rz q2
end
section
variable {X : Cx} {CX : CXT} {k : Nat} {f C : Addr} {fd : FuncData} {ps ks : List Str} {sp : Sp} {E : L2.St → XK} {x m : Str} {p pos : Pos} {kws : List Keyword} {tk : TA} {g : List Value → List Value → List Value} {gV : List V → List V → List V}
def tCallKS (sp : Sp) (gV : List V → List V → List V) (E : L2.St → XK) (tk : TA) : TE := fun σ H Q => tk σ H fun zs H2 => sp (gV [] zs) H2 Q (E σ)
/-- f(k = v, ..) that may raise, the wish at the caller's slots -/
theorem pe_kwS0 (F : FnOk X.prog X.w X.K X.mg X.base CX k f fd ps sp) (hr : Room k X.A) (hg : Gl X x) (hm : X.mg x = some (.ref f)) (hk : PySem.W.keepIn X.K (.ref f) = true) (hb : KBinds X.K fd ps ks g gV) (hx : ∀ σ, PassesAt CX X σ (E σ))
    (hkw : PK X kws tk) (hall : (backToKw pos (keywordEach kws X.env)).all (·.1.isSome) = true := by rfl) (hks : (backToKw pos (keywordEach kws X.env)).filterMap (·.1) = ks := by rfl) (hdb : (x == ("__debug__" : Str)) = false := by decide)
    (hpl : ((backTo pos (starEach [] X.env)).any (·.1) || (backToKw pos (keywordEach kws X.env)).any (·.1.isNone)) = false := by rfl) :
    PE X (.Call (.Name x p) [] kws pos) (tCallKS sp gV E tk) := by
  refine ⟨fun pins s σ H Q I h => ?_⟩
  refine wpAny_Call_Name_kw (ld_glob I hg hm ?_ hdb)
  refine PySem.W.callWith_KW0 (h₀ := X.base) I.ok.mod.kin hk hall (thn (hkw.run pos pins s σ H _ I h) fun ws s2 ⟨zs, H2, I2, rz, q2⟩ => ⟨I2.kIn, ?_⟩) hpl
  rw [hks]
  have r2 := hb.rel (vs := []) (us := []) .nil rz
  have hl : (g [] ws).length = ps.length := by rw [← r2.length]; exact F.len _ _ _ _ q2
  refine wpAny_call (codeAny_mono (F.run X.A X.stack s2 H2 ⟨[], ks.zip ws⟩ (g [] ws) (gV [] zs) Q (E σ) hr I2.env0 (hb.to s2 [] ws I2.kIn hl) r2 q2) fun r s' hq => ?_)
  cases r with
  | error e => exact hx σ pins H2 s2 e s' I2 hq
  | ok fl =>
    cases fl with
    | ret u => exact I2.after hq
    | next => exact False.elim hq
    | brk => exact False.elim hq
    | cont => exact False.elim hq
end
section
variable {X : Cx}
/-- // by any divisor but nought, not too long -/
def CDivV (_ j : Int) : Prop := j ≠ 0 ∧ j.natAbs.log2 < 9000
theorem op_fdivV : OpR X (binaryOp .FloorDiv) (rI CDivV fun i j => .int (i.fdiv j)) := opI fun _ _ _ _ _ _ _ hc q => floordiv_int hc.1 q (.inl (PyProof.noPylong_of_log2 hc.2))
end
end L2
namespace L2
open PySem PySem.Spec PyProof.Rows
theorem passN {X : Cx} : Passes (L2N.CX X.prog X.w) X E0 := fun _ _ _ _ _ _ _ h => by
  obtain ⟨_, _, _, _, _, _, _, _, _, _, _, _, z⟩ := h
  exact z.elim
theorem passH {X : Cx} {σ : L2.St} {E : XK} : PassesAt CX0 X σ E := fun _ _ _ _ _ _ h => h.elim
theorem takesN0 {X : Cx} : L2N.Takes X (fun _ _ _ _ => False) := fun _ _ x => by
  obtain ⟨_, _, _, _, _, _, _, _, _, _, _, _, _, _, _, _, z⟩ := x
  exact z.elim
theorem hotS {X : Cx} {a : Addr} {oe : Obj} {cls : Value} {d : Option Addr} {pn : List (Addr × Obj)} (hz : L2N.Zn cls d oe) (hf : ∃ vs, oe.data = .fields vs) : L2H.HotC (X.suite a ((a, oe) :: pn)) := by
  obtain ⟨vs, e⟩ := hf
  exact ⟨(a, oe), ⟨rfl, vs, e, hz.2.2 vs e⟩, List.mem_cons_self⟩
theorem roomS {X : Cx} {k : Nat} {a : Addr} {pn : List (Addr × Obj)} (r : Room k X.A) : L2H.RoomH k (X.suite a pn).A := ⟨r.dp, r.un⟩
section
variable {P : Program} {w : World} {K : PySem.W.Frag} {mg : Str → Option Value} {base : Heap}
/-- a def that may raise, the exception's context none -/
theorem Fun.okN {x qual : Str} {st : Stmt} {f : Addr} {fd : FuncData} {N ps : List Str} {k : Nat} {sp : Sp} (F : Fun K x qual st f fd) (S : FnScope N ps (defScope st)) (len : ∀ vs H Q E, sp vs H Q E → vs.length = ps.length)
    (hbody : ∀ (cdv : Value) (A : Around) (outer : List Env) (s : Shared) (H : Hp) (vs : List V) (Q : VK) (E : XK), Room k (A.deeper (envOfC qual (defScope st) s.heap.objs.size f cdv)) → sp vs H Q E →
      ∃ t, PSs (cxOf (L2N.CX P w) P w K mg base N qual (defScope st) f cdv A outer s H E) (defBody st) t ∧ t { nx := fun _ H' => Q .non H', rt := Q } (start N vs) H) : FnOk P w K mg base (L2N.CX P w) (k + 1) f fd ps sp := by
  obtain ⟨oc, od, kV, doc, pm, an, cdv, ct, osl, rfl, lk, hcd⟩ := F.ex
  exact fn_of lk hcd S len fun A outer s H vs Q E hr hsp => hbody cdv A outer s H vs Q E hr hsp
/-- a def called where an exception is handled -/
theorem Fun.okH {CX : CXT} {x qual : Str} {st : Stmt} {f : Addr} {fd : FuncData} {N ps : List Str} {k : Nat} {sp : Sp} (F : Fun K x qual st f fd) (S : FnScope N ps (defScope st)) (len : ∀ vs H Q E, sp vs H Q E → vs.length = ps.length)
    (hbody : ∀ (cdv : Value) (A : Around) (outer : List Env) (s : Shared) (H : Hp) (vs : List V) (Q : VK) (E : XK) (p : Addr × Obj), L2H.RoomH k (A.deeper (envOfC qual (defScope st) s.heap.objs.size f cdv)) → sp vs H Q E →
      ∃ t, PSs (L2H.cxH CX P w K mg base N qual (defScope st) f cdv A outer s H E p) (defBody st) t ∧ t { nx := fun _ H' => Q .non H', rt := Q } (start N vs) H) : L2H.FnH P w K mg base CX (k + 1) f fd ps sp := by
  obtain ⟨oc, od, kV, doc, pm, an, cdv, ct, osl, rfl, lk, hcd⟩ := F.ex
  exact L2H.fn_ofH lk hcd S len fun A outer s H vs Q E p _ hr hsp => hbody cdv A outer s H vs Q E p hr hsp
end
end L2
namespace Sx
open PySem L2
abbrev St := L2.St
theorem Same.up {H H' : Hp} {a : Addr} {o : HO} (e : Same H H') (h : H a = some o) : H' a = some o := e _ _ h
/-- all but what stands at a is as it was -/
def Keep (a : Addr) (H H' : Hp) : Prop := ∀ b o, b ≠ a → H b = some o → H' b = some o
theorem Keep.up {c : Addr} {H H' : Hp} {a : Addr} {o : HO} (e : Keep c H H') (n : a ≠ c) (h : H a = some o) : H' a = some o := e _ _ n h
theorem Keep.refl (a : Addr) (H : Hp) : Keep a H H := fun _ _ _ h => h
theorem Keep.trans {a : Addr} {H H1 H2 : Hp} (e : Keep a H H1) (f : Keep a H1 H2) : Keep a H H2 := fun b o n h => f b o n (e b o n h)
theorem Keep.same {a : Addr} {H H1 : Hp} (e : Same H H1) : Keep a H H1 := fun b o _ h => e b o h
theorem Keep.put {a : Addr} {H H1 : Hp} {o : HO} (e : Keep a H H1) : Keep a H (upd H1 a o) := fun b o n h => by
  rw [upd_ne n]
  exact e b o n h
theorem Same.new {H : Hp} {p : Addr} {o : HO} (h : H p = none) : Same H (upd H p o) := fun a u e => by
  rw [upd_ne (ne_of_none e h)]
  exact e
theorem Same.put {a : Addr} {H H1 : Hp} {o : HO} (e : Same H H1) (n : H a = none) : Same H (upd H1 a o) := fun b u h => by
  rw [upd_ne (ne_of_none h n)]
  exact e b u h
/-- a keeping but at a place that was free ahead -/
theorem Keep.toSame {a : Addr} {H H1 H2 : Hp} (e : Same H H1) (n : H a = none) (f : Keep a H1 H2) : Same H H2 := fun b o h => f b o (ne_of_none h n) (e b o h)
theorem Keep.free {a b : Addr} {H H' : Hp} (e : Keep a H H') (n : b ≠ a) (h : H' b = none) : H b = none := by
  cases q : H b with
  | none => rfl
  | some o =>
    rw [e b o n q] at h
    cases h
theorem same_free {H H' : Hp} (e : Same H H') {l : Addr} (h : H' l = none) : H l = none := L2.Same.free e h
section
variable {K : PySem.W.Frag} {σ : St} {H : Hp} {Q : VK} {D : Ends} {t u : TS} {te ta tb tx : TE} {tt tu : TT} {r : R2} {x y z v w : V} {nx : St → Hp → Prop} {xs ys : List V}
theorem s_seq (h : t { D with nx := u D } σ H) : tSeq t u D σ H := h
theorem s_next (h : D.nx σ H) : tNext D σ H := h
theorem s_brk (h : D.bk σ H) : tBreak D σ H := h
theorem s_cont (h : D.ct σ H) : tCont D σ H := h
theorem s_asg {g : TG} (h : te σ H fun x H1 => g x σ H1 D.nx) : tAsg te g D σ H := h
theorem s_name {i : Nat} (h : nx (σ.set i (some v)) H) : gName i v σ H nx := h
theorem s_drop (h : te σ H fun _ H1 => D.nx σ H1) : tDrop te D σ H := h
theorem s_ret (h : te σ H D.rt) : tRet te D σ H := h
theorem s_ifS (h : tt σ H fun b H1 => if b = true then t D σ H1 else u D σ H1) : tIfS tt t u D σ H := h
theorem s_var {i : Nat} (h : σ[i]? = some (some v)) (q : Q v H) : tVar i σ H Q := ⟨v, h, q⟩
theorem s_c (q : Q v H) : tC v σ H Q := q
theorem s_op (h : ta σ H fun x H1 => tb σ H1 fun y H2 => r x y H2 Q) : tOp r ta tb σ H Q := h
theorem s_un {r : V → Hp → VK → Prop} (h : ta σ H fun x H1 => r x H1 Q) : tUn r ta σ H Q := h
variable {R : Bool → Hp → Prop}
theorem s_test (h : te σ H fun x H' => ∃ k, x = .bl k ∧ R k H') : tTest te σ H R := h
theorem s_tB (h : te σ H fun x H' => ∃ k, x = .bl k ∧ R k H') : tB te σ H R := h
theorem s_tT (h : te σ H fun x H' => ∃ k, x = .bl k ∧ R k H') : tTest te σ H R := h
theorem s_bl {k : Bool} (h : R k H) : ∃ k', V.bl k = V.bl k' ∧ R k' H := ⟨k, rfl, h⟩
theorem s_and (h : tt σ H fun c H1 => if c = true then tu σ H1 R else R false H1) : tAnd tt tu σ H R := h
theorem s_or (h : tt σ H fun c H1 => if c = true then R true H1 else tu σ H1 R) : tOr tt tu σ H R := h
theorem s_not (h : tt σ H fun c H1 => R (!c) H1) : tNot tt σ H R := h
theorem s_andV (h : ta σ H fun x H1 => ∃ c, x = .bl c ∧ if c = true then tb σ H1 Q else Q (.bl false) H1) : tAndV ta tb σ H Q := h
theorem s_orV (h : ta σ H fun x H1 => ∃ c, x = .bl c ∧ if c = true then Q (.bl true) H1 else tb σ H1 Q) : tOrV ta tb σ H Q := h
theorem s_notV (h : ta σ H fun x H1 => ∃ c, x = .bl c ∧ Q (.bl (!c)) H1) : tNotV ta σ H Q := h
theorem s_blV {k : Bool} {P : Bool → Prop} (h : P k) : ∃ k', V.bl k = V.bl k' ∧ P k' := ⟨k, rfl, h⟩
theorem s_if (h : tt σ H fun c H1 => if c = true then ta σ H1 Q else tb σ H1 Q) : tIf tt ta tb σ H Q := h
theorem s_cb {r : List V → Hp → VK → Prop} {t : TA} (h : t σ H fun vs H1 => r vs H1 Q) : tCB r t σ H Q := h
theorem s_call {sp : Sp} {dvs : List V} {E : XK} {t : TA} (h : t σ H fun vs H1 => sp (vs ++ dvs) H1 Q E) : tCall sp dvs E t σ H Q := h
theorem s_callK {sp : Sp} {gV : List V → List V → List V} {E : XK} {t tk : TA} (h : t σ H fun vs H1 => tk σ H1 fun zs H2 => sp (gV vs zs) H2 Q E) : tCallK sp gV E t tk σ H Q := h
theorem s_nil {P : List V → Hp → Prop} (h : P [] H) : tNil σ H P := h
theorem s_cons {ta : TE} {tr : TA} {P : List V → Hp → Prop} (h : ta σ H fun x H1 => tr σ H1 fun xs H2 => P (x :: xs) H2) : tCons ta tr σ H P := h
theorem s_tup {t : TA} (h : t σ H fun xs H1 => xs.length ≤ sizeLine ∧ ∀ p, H1 p = none → Q (.ref p) (upd H1 p (.tup xs))) : tTup t σ H Q := h
theorem s_lst {t : TA} (h : t σ H fun xs H1 => xs.length ≤ sizeLine ∧ ∀ p, H1 p = none → Q (.ref p) (upd H1 p (.lst xs))) : tLst t σ H Q := h
theorem new_same {H H2 : Hp} {p : Addr} {o : HO} (n : H p = none) (e : upd H p o = H2) : Same H H2 := by
  subst e
  exact Same.new n
theorem new_at {H H2 : Hp} {p : Addr} {o : HO} (e : upd H p o = H2) : H2 p = some o := by
  subst e
  exact upd_same
theorem put_keep {H H2 : Hp} {p : Addr} {o : HO} (e : upd H p o = H2) : Keep p H H2 := by
  subst e
  exact Keep.put (Keep.refl p H)
theorem c_mul_r {i j : Int} (a : -(2 ^ 64) < j) (b : j < 2 ^ 64) : CMul i j := .inr ⟨a, b⟩
theorem c_mul_l {i j : Int} (a : -(2 ^ 64) < i) (b : i < 2 ^ 64) : CMul i j := .inl ⟨a, b⟩
theorem c_div {i j : Int} (a : 0 < j) (b : j < 1073741824) : CDiv i j := ⟨a, b⟩
theorem c_pow {i j : Int} (a : 0 ≤ j) (b : j ≤ 1000000) (c : i.natAbs < 2 ^ 64) : CPow i j := ⟨a, b, c⟩
-- operators on values
theorem r_I0 {g : Int → Int → V} {i j : Int} (q : Q (g i j) H) : rI0 g (.int i) (.int j) H Q := ⟨i, j, rfl, rfl, q⟩
theorem r_I {C : Int → Int → Prop} {g : Int → Int → V} {i j : Int} (c : C i j) (q : Q (g i j) H) : rI C g (.int i) (.int j) H Q := ⟨i, j, rfl, rfl, c, q⟩
theorem r_U {g : Int → V} {i : Int} (q : Q (g i) H) : rU g (.int i) H Q := ⟨i, rfl, q⟩
theorem r_eq (h : scal x y = true) (q : Q (.bl (decide (x = y))) H) : rEq x y H Q := ⟨h, q⟩
theorem r_ne (h : scal x y = true) (q : Q (.bl (!decide (x = y))) H) : rNe x y H Q := ⟨h, q⟩
theorem v_int_eq {i j : Int} : decide (V.int i = V.int j) = decide (i = j) := by
  by_cases h : i = j
  · rw [h]; simp
  · simp [h]
theorem r_eqI {i j : Int} (q : Q (.bl (decide (i = j))) H) : rEq (.int i) (.int j) H Q := ⟨rfl, by rw [v_int_eq]; exact q⟩
theorem r_neI {i j : Int} (q : Q (.bl (!decide (i = j))) H) : rNe (.int i) (.int j) H Q := ⟨rfl, by rw [v_int_eq]; exact q⟩
theorem r_isB {a b : Bool} (q : Q (.bl (decide (a = b))) H) : rIsB (.bl a) (.bl b) H Q := ⟨a, b, rfl, rfl, q⟩
theorem r_notB {a b : Bool} (q : Q (.bl (!decide (a = b))) H) : rNotB (.bl a) (.bl b) H Q := ⟨a, b, rfl, rfl, q⟩
theorem r_ixL {p : Addr} {i : Int} (h : H p = some (.lst xs)) (a : atI xs i = some v) (q : Q v H) : rIx K (.ref p) (.int i) H Q := .inl ⟨p, xs, i, v, rfl, rfl, SqL.of h, a, q⟩
theorem r_ixT {p : Addr} {i : Int} (h : H p = some (.tup xs)) (a : atI xs i = some v) (q : Q v H) : rIx K (.ref p) (.int i) H Q := .inr (.inl ⟨p, xs, i, v, rfl, rfl, SqT.of h, a, q⟩)
def IxG : List V → Int → (V → Prop) → Prop
  | [], _, _ => False
  | a :: r, i, P => (i = 0 → P a) ∧ (i ≠ 0 → IxG r (i - 1) P)
theorem ig_cons {a : V} {r : List V} {i : Int} {P : V → Prop} (h1 : i = 0 → P a) (h2 : i ≠ 0 → IxG r (i - 1) P) : IxG (a :: r) i P := ⟨h1, h2⟩
theorem ig_nil {i : Int} {P : V → Prop} (h : False) : IxG [] i P := h
theorem IxG.get : ∀ {xs : List V} {n : Nat} {P : V → Prop}, IxG xs (n : Int) P → ∃ v, xs[n]? = some v ∧ P v
  | [], _, _, h => h.elim
  | a :: r, 0, P, h => ⟨a, rfl, h.1 rfl⟩
  | a :: r, n + 1, P, h => by
    have h2 := h.2 (by omega)
    have e : ((n + 1 : Nat) : Int) - 1 = (n : Int) := by omega
    rw [e] at h2
    obtain ⟨v, h3, h4⟩ := IxG.get h2
    exact ⟨v, by simpa using h3, h4⟩
theorem r_ixG {p : Addr} {i : Int} (h : H p = some (.lst xs)) (hi : 0 ≤ i) (q : IxG xs i fun v => Q v H) : rIx K (.ref p) (.int i) H Q := by
  obtain ⟨n, rfl⟩ := Int.eq_ofNat_of_zero_le hi
  obtain ⟨v, h1, h2⟩ := IxG.get q
  exact .inl ⟨p, xs, _, v, rfl, rfl, SqL.of h, atI_nat h1, h2⟩
theorem r_ixGT {p : Addr} {i : Int} (h : H p = some (.tup xs)) (hi : 0 ≤ i) (q : IxG xs i fun v => Q v H) : rIx K (.ref p) (.int i) H Q := by
  obtain ⟨n, rfl⟩ := Int.eq_ofNat_of_zero_le hi
  obtain ⟨v, h1, h2⟩ := IxG.get q
  exact .inr (.inl ⟨p, xs, _, v, rfl, rfl, SqT.of h, atI_nat h1, h2⟩)
theorem r_ixS {p : Addr} {i : Int} (h : SqL K H p xs) (a : atI xs i = some v) (q : Q v H) : rIx K (.ref p) (.int i) H Q := .inl ⟨p, xs, i, v, rfl, rfl, h, a, q⟩
theorem r_setL {p : Addr} {i : Int} {j : Nat} {P : Hp → Prop} (h : H p = some (.lst xs)) (a : ixN xs.length i = some j) (q : ∀ H2, Keep p H H2 → H2 p = some (.lst (xs.set j v)) → P H2) : rSetL (.ref p) (.int i) v H P := ⟨p, xs, i, j, rfl, rfl, h, a, q _ (Keep.put (Keep.refl p H)) upd_same⟩
theorem s_sub {to ti : TE} {ts : TSet} (h : to σ H fun o H1 => ti σ H1 fun i H2 => ts o i v H2 fun H3 => nx σ H3) : gSub to ti ts v σ H nx := h
theorem r_app {p : Addr} (h : H p = some (.lst xs)) (l : xs.length < sizeLine) (q : ∀ H2, Keep p H H2 → H2 p = some (.lst (xs ++ [y])) → Q .non H2) : rAppend (.ref p) [y] H Q := ⟨p, xs, y, rfl, rfl, h, l, q _ (Keep.put (Keep.refl p H)) upd_same⟩
theorem s_bm {T : String} {r : V → List V → Hp → VK → Prop} {to : TE} {t : TA} (h : to σ H fun x H1 => tyV K T x H1 ∧ t σ H1 fun xs H2 => r x xs H2 Q) : tBM K T r to t σ H Q := h
theorem ty_list {p : Addr} {P : Prop} (h : H p = some (.lst xs)) (q : P) : tyV K "list" (.ref p) H ∧ P := ⟨.inl ⟨rfl, _, SqL.of h⟩, q⟩
theorem r_gcd {a b : Int} (q : Q (.int ((Nat.gcd a.natAbs b.natAbs : Nat) : Int)) H) : rGcd [.int a, .int b] H Q := ⟨a, b, rfl, q⟩
theorem r_all {p : Addr} {bs : List Bool} (h : H p = some (.lst (bs.map V.bl))) (q : Q (.bl (bs.all id)) H) : rAll K [.ref p] H Q := ⟨p, bs, rfl, SqL.of h, q⟩
theorem i_T {c : Prop} [Decidable c] {A B : Prop} (hc : c) (h : A) : if decide c = true then A else B := by
  rw [if_pos (decide_eq_true hc)]; exact h
theorem i_F {c : Prop} [Decidable c] {A B : Prop} (hc : ¬ c) (h : B) : if decide c = true then A else B := by
  rw [if_neg (by simp [hc])]; exact h
theorem i_2 {c : Prop} [Decidable c] {A B : Prop} (h1 : c → A) (h2 : ¬ c → B) : if decide c = true then A else B := by
  by_cases h : c
  · exact i_T h (h1 h)
  · exact i_F h (h2 h)
theorem i_n2 {c : Prop} [Decidable c] {A B : Prop} (h1 : ¬ c → A) (h2 : c → B) : if (!decide c) = true then A else B := by
  by_cases h : c
  · rw [if_neg (by simp [h])]; exact h2 h
  · rw [if_pos (by simp [h])]; exact h1 h
theorem i_b2 {b : Bool} {A B : Prop} (h1 : b = true → A) (h2 : b = false → B) : if b = true then A else B := by
  cases b
  · exact iteF (h2 rfl)
  · exact iteT (h1 rfl)
theorem i_nb2 {b : Bool} {A B : Prop} (h1 : b = false → A) (h2 : b = true → B) : if (!b) = true then A else B := by
  cases b
  · exact iteT (h1 rfl)
  · exact iteF (h2 rfl)
theorem i_t {A B : Prop} (h : A) : if true = true then A else B := iteT h
theorem i_f {A B : Prop} (h : B) : if false = true then A else B := iteF h
theorem i_nt {A B : Prop} (h : B) : if (!true) = true then A else B := iteF h
theorem i_nf {A B : Prop} (h : A) : if (!false) = true then A else B := iteT h
end
end Sx

set_option Elab.async false
set_option linter.all false
set_option maxRecDepth 100000
set_option maxHeartbeats 2000000
/-! an own class's method called by keywords; a method that may raise, called in a try -/
namespace L2
open PySem PySem.Spec PyProof.Rows
section
variable {X : Cx} {CX : CXT} {k : Nat} {f C : Addr} {fd : FuncData} {ps ks : List Str} {sp : Sp} {m : Str} {pos apos : Pos} {o e : Expr} {es : List Expr} {kws : List Keyword} {ta : TE} {t tk : TA} {g : List Value → List Value → List Value} {gV : List V → List V → List V} {ds : List Value} {dvs : List V}
def tMethK (C : Addr) (m : Str) (sp : Sp) (gV : List V → List V → List V) (E : XK) (ta : TE) (tk : TA) : TE := fun σ H Q => ta σ H fun x H1 => ∃ a dx fs, x = .ref a ∧ H1 a = some (.ins C dx fs) ∧ fs.lookup m = none ∧ tk σ H1 fun zs H2 => sp (gV [x] zs) H2 Q E
/-- o.m(k = v, ..) -/
theorem pe_methK {E : XK} {pl : Sem Bool} (he : PE X o ta) (c : Cls X.K C) (hm : Meth X.K C m f) (F : FnOk X.prog X.w X.K X.mg X.base CX k f fd ps sp) (hr : Room k X.A) (hb : KBinds X.K fd ps ks g gV) (hx : Passes CX X E)
    (hkw : PK X kws tk) (hall : (backToKw pos (keywordEach kws X.env)).all (·.1.isSome) = true := by rfl) (hks : (backToKw pos (keywordEach kws X.env)).filterMap (·.1) = ks := by rfl)
    (hpl : ((backTo pos (starEach [] X.env)).any (·.1) || (backToKw pos (keywordEach kws X.env)).any (·.1.isNone)) = false := by rfl)
    (ht : eval (.Call (.Attribute o m apos) [] kws pos) X.env = (do
      let ov ← eval o X.env
      standAt apos.atName
      let (f, first) ← holding [ov] (getMethod ov m pl)
      callWith pos f first (backTo pos (starEach [] X.env)) (backToKw pos (keywordEach kws X.env))) := by rfl) :
    PE X (.Call (.Attribute o m apos) [] kws pos) (tMethK C m sp gV E ta tk) := by
  refine ⟨fun pins s σ H Q I h => ?_⟩
  refine PySem.W.methodCall_KW (pl := pl) (thn (he.run pins s σ H _ I h) fun u s1 ⟨x, H1, I1, rx, a, dx, fs, ex, ea, l, q⟩ => ?_) ht
  subst ex
  obtain rfl : u = Value.ref a := rx
  refine getmeth_ok I1 ea c hm l ?_
  refine PySem.W.callWith_KW0 (first := [.ref a]) (h₀ := X.base) I.ok.mod.kin hm.kp hall (thn (hkw.run pos pins s1 σ H1 _ I1 q) fun ws s2 ⟨zs, H2, I2, rz, q2⟩ => ⟨I2.kIn, ?_⟩) hpl
  rw [hks]
  exact run_fnk (us := [.ref a]) (vs := [.ref a]) F hr hb hx I2 (.cons rfl .nil) rz q2
def tMthS (C : Addr) (m : Str) (sp : Sp) (dvs : List V) (E : L2.St → XK) (ta : TE) (t : TA) : TE := fun σ H Q => ta σ H fun x H1 => ∃ a dx fs, x = .ref a ∧ H1 a = some (.ins C dx fs) ∧ fs.lookup m = none ∧ t σ H1 fun vs H2 => sp (x :: (vs ++ dvs)) H2 Q (E σ)
/-- o.m(e, ..) that may raise, the wish at the caller's slots -/
theorem pe_mthS {E : L2.St → XK} {pl : Sem Bool} (he : PE X o ta) (c : Cls X.K C) (hm : Meth X.K C m f) (F : FnOk X.prog X.w X.K X.mg X.base CX k f fd ps sp) (hr : Room k X.A) (hb : Binds X.K fd ps ds) (hd : Vals dvs ds) (hx : ∀ σ, PassesAt CX X σ (E σ)) (ha : PA X (e :: es) t)
    (hst : starEach (e :: es) X.env = (false, eval e X.env) :: starEach es X.env := by rfl) (hpl : (backTo pos (starEach es X.env)).any (·.1) = false := by rfl)
    (ht : eval (.Call (.Attribute o m apos) (e :: es) [] pos) X.env = (do
      let ov ← eval o X.env
      standAt apos.atName
      let (f, first) ← holding [ov] (getMethod ov m pl)
      callWith pos f first (backTo pos (starEach (e :: es) X.env)) (backToKw pos (keywordEach [] X.env))) := by rfl) :
    PE X (.Call (.Attribute o m apos) (e :: es) [] pos) (tMthS C m sp dvs E ta t) := by
  refine ⟨fun pins s σ H Q I h => ?_⟩
  refine PySem.W.methodCall_KW (pl := pl) (thn (he.run pins s σ H _ I h) fun u s1 ⟨x, H1, I1, rx, a, dx, fs, ex, ea, l, q⟩ => ?_) ht
  subst ex
  obtain rfl : u = Value.ref a := rx
  refine getmeth_ok I1 ea c hm l ?_
  refine PySem.W.callWith_K (first := [.ref a]) (h₀ := X.base) I.ok.mod.kin hm.kp (thn (ha.run pos pins s1 σ H1 _ I1 q) fun us s2 ⟨vs, H2, I2, r, q2⟩ => ⟨I2.kIn, ?_⟩) hst hpl
  have r2 : Vals (V.ref a :: (vs ++ dvs)) (Value.ref a :: (us ++ ds)) := .cons rfl (r.append hd)
  have hl : (Value.ref a :: (us ++ ds)).length = ps.length := by rw [← r2.length]; exact F.len _ _ _ _ q2
  refine wpAny_call (codeAny_mono (F.run X.A X.stack s2 H2 ⟨Value.ref a :: us, []⟩ (Value.ref a :: (us ++ ds)) (V.ref a :: (vs ++ dvs)) Q (E σ) hr I2.env0 (hb s2 (Value.ref a :: us) I2.kIn hl) r2 q2) fun r s' hq => ?_)
  cases r with
  | error e => exact hx σ pins H2 s2 e s' I2 hq
  | ok fl =>
    cases fl with
    | ret u => exact I2.after hq
    | next => exact False.elim hq
    | brk => exact False.elim hq
    | cont => exact False.elim hq
end
end L2
namespace Sx
open PySem L2
section
variable {H : Hp} {Q : VK} {σ : L2.St} {C : Addr} {m : Str} {sp : Sp} {dvs : List V} {ta : TE} {t tk : TA} {gV : List V → List V → List V}
theorem s_methK {E : XK} (h : ta σ H fun x H1 => ∃ a dx fs, x = .ref a ∧ H1 a = some (.ins C dx fs) ∧ fs.lookup m = none ∧ tk σ H1 fun zs H2 => sp (gV [x] zs) H2 Q E) : tMethK C m sp gV E ta tk σ H Q := h
theorem s_mthS {E : L2.St → XK} (h : ta σ H fun x H1 => ∃ a dx fs, x = .ref a ∧ H1 a = some (.ins C dx fs) ∧ fs.lookup m = none ∧ t σ H1 fun vs H2 => sp (x :: (vs ++ dvs)) H2 Q (E σ)) : tMthS C m sp dvs E ta t σ H Q := h
end
end Sx

set_option Elab.async false
set_option linter.all false
set_option maxRecDepth 100000
set_option maxHeartbeats 2000000
namespace Sx
open PySem L2
/-- what a class of errors is not -/
structure ExK (K : PySem.W.Frag) (C : Addr) : Prop where
  ec : ExcC K C
  ni : PySem.W.subIn K (.ref C) (.type "int") = some false
  nb : PySem.W.subIn K (.ref C) (.type "bool") = some false
  nt : PySem.W.subIn K (.ref C) (.type "tuple") = some false
  ns : PySem.W.subIn K (.ref C) (.type "str") = some false
  nl : PySem.W.subIn K (.ref C) (.type "list") = some false
/-- a value whose kind is known; every address of it is in B -/
inductive Kn (K : PySem.W.Frag) (H : Hp) (B : Addr → Prop) : V → Prop where
  | non : Kn K H B .non
  | bl (b : Bool) : Kn K H B (.bl b)
  | int (i : Int) : Kn K H B (.int i)
  | str (s : Str) : Kn K H B (.str s)
  | lst {p : Addr} {xs : List V} (h : H p = some (.lst xs)) (b : B p) : Kn K H B (.ref p)
  | tup {p : Addr} {xs : List V} (h : H p = some (.tup xs)) (b : B p) : Kn K H B (.ref p)
  | exc {a C d : Addr} {fs : List (Str × V)} (ha : H a = some (exo a C (some d))) (hd : H d = some (.xd fs)) (e : ExK K C) (ba : B a) (bd : B d) : Kn K H B (.ref a)
theorem Kn.up {K : PySem.W.Frag} {H H' : Hp} {B B' : Addr → Prop} {v : V} (k : Kn K H B v) (hB : ∀ b, B b → B' b) (hk : ∀ b o, B b → H b = some o → H' b = some o) : Kn K H' B' v := by
  cases k with
  | non => exact .non
  | bl b => exact .bl b
  | int i => exact .int i
  | str s => exact .str s
  | lst h b => exact .lst (hk _ _ b h) (hB _ b)
  | tup h b => exact .tup (hk _ _ b h) (hB _ b)
  | exc ha hd e ba bd => exact .exc (hk _ _ ba ha) (hk _ _ bd hd) e (hB _ ba) (hB _ bd)
def isI : V → Bool | .int _ => true | _ => false
def isB : V → Bool | .bl _ => true | _ => false
def isS : V → Bool | .str _ => true | _ => false
def tO : Option HO → Bool | some (.tup _) => true | _ => false
def lO : Option HO → Bool | some (.lst _) => true | _ => false
def isT (H : Hp) : V → Bool | .ref p => tO (H p) | _ => false
def isL (H : Hp) : V → Bool | .ref p => lO (H p) | _ => false
theorem isT_of {H : Hp} {p : Addr} {o : HO} (h : H p = some o) : isT H (.ref p) = tO (some o) := by
  show tO (H p) = _
  rw [h]
theorem isL_of {H : Hp} {p : Addr} {o : HO} (h : H p = some o) : isL H (.ref p) = lO (some o) := by
  show lO (H p) = _
  rw [h]
theorem isT_inv {H : Hp} {v : V} (h : isT H v = true) : ∃ p xs, v = .ref p ∧ H p = some (.tup xs) := by
  cases v with
  | ref p =>
    have h' : tO (H p) = true := h
    cases e : H p with
    | none =>
      rw [e] at h'
      cases h'
    | some o =>
      rw [e] at h'
      cases o with
      | tup xs => exact ⟨p, xs, rfl, e⟩
      | _ => cases h'
  | _ => cases h
section
variable {K : PySem.W.Frag} {H : Hp} {B : Addr → Prop} {v : V} {Q : VK}
theorem kit_exc {C : Addr} {T : String} {b : Bool} (h : PySem.W.subIn K (.ref C) (.type T) = some b) (m : PySem.W.kitMeta T = true) : PySem.W.kitOne K (.ref C) (.type T) = some b := by
  unfold PySem.W.kitOne
  rw [if_neg (by intro z; exact nomatch z)]
  show (if PySem.W.kitMeta T = true then PySem.W.subIn K (.ref C) (.type T) else none) = some b
  rw [if_pos m, h]
theorem isi_go {T n : String} {ty : Value} {b : Bool} (k : KX K H v ty) (e : PySem.W.kitOne K ty (.type T) = some b) (q : Q (.bl b) H) : rIsiV K [v, .ty T] H Q := ⟨v, .ty T, ty, .type T, b, rfl, .ty T, k, e, q⟩
theorem c_isiI (k : Kn K H B v) (q : Q (.bl (isI v || isB v)) H) : rIsiV K [v, .ty "int"] H Q := by
  cases k with
  | non => exact ⟨_, _, _, _, false, rfl, .ty _, .inl (.base .non), kit_ty (by decide +kernel), q⟩
  | bl b => exact ⟨_, _, _, _, true, rfl, .ty _, .inl (.base (.bl b)), kit_ty (by decide +kernel), q⟩
  | int i => exact ⟨_, _, _, _, true, rfl, .ty _, .inl (.base (.int i)), kit_ty (by decide +kernel), q⟩
  | str s => exact ⟨_, _, _, _, false, rfl, .ty _, .inl (.base (.str s)), kit_ty (by decide +kernel), q⟩
  | lst h _ => exact ⟨_, _, _, _, false, rfl, .ty _, .inl (.base (.lst h)), kit_ty (by decide +kernel), q⟩
  | tup h _ => exact ⟨_, _, _, _, false, rfl, .ty _, .inl (.base (.tup h)), kit_ty (by decide +kernel), q⟩
  | exc ha hd e _ _ => exact ⟨_, _, _, _, false, rfl, .ty _, .inr ⟨_, _, _, _, rfl, rfl, ha, hd, e.ec⟩, kit_exc e.ni (by decide +kernel), q⟩
theorem c_isiB (k : Kn K H B v) (q : Q (.bl (isB v)) H) : rIsiV K [v, .ty "bool"] H Q := by
  cases k with
  | non => exact ⟨_, _, _, _, false, rfl, .ty _, .inl (.base .non), kit_ty (by decide +kernel), q⟩
  | bl b => exact ⟨_, _, _, _, true, rfl, .ty _, .inl (.base (.bl b)), kit_ty (by decide +kernel), q⟩
  | int i => exact ⟨_, _, _, _, false, rfl, .ty _, .inl (.base (.int i)), kit_ty (by decide +kernel), q⟩
  | str s => exact ⟨_, _, _, _, false, rfl, .ty _, .inl (.base (.str s)), kit_ty (by decide +kernel), q⟩
  | lst h _ => exact ⟨_, _, _, _, false, rfl, .ty _, .inl (.base (.lst h)), kit_ty (by decide +kernel), q⟩
  | tup h _ => exact ⟨_, _, _, _, false, rfl, .ty _, .inl (.base (.tup h)), kit_ty (by decide +kernel), q⟩
  | exc ha hd e _ _ => exact ⟨_, _, _, _, false, rfl, .ty _, .inr ⟨_, _, _, _, rfl, rfl, ha, hd, e.ec⟩, kit_exc e.nb (by decide +kernel), q⟩
theorem c_isiS (k : Kn K H B v) (q : Q (.bl (isS v)) H) : rIsiV K [v, .ty "str"] H Q := by
  cases k with
  | non => exact ⟨_, _, _, _, false, rfl, .ty _, .inl (.base .non), kit_ty (by decide +kernel), q⟩
  | bl b => exact ⟨_, _, _, _, false, rfl, .ty _, .inl (.base (.bl b)), kit_ty (by decide +kernel), q⟩
  | int i => exact ⟨_, _, _, _, false, rfl, .ty _, .inl (.base (.int i)), kit_ty (by decide +kernel), q⟩
  | str s => exact ⟨_, _, _, _, true, rfl, .ty _, .inl (.base (.str s)), kit_ty (by decide +kernel), q⟩
  | lst h _ => exact ⟨_, _, _, _, false, rfl, .ty _, .inl (.base (.lst h)), kit_ty (by decide +kernel), q⟩
  | tup h _ => exact ⟨_, _, _, _, false, rfl, .ty _, .inl (.base (.tup h)), kit_ty (by decide +kernel), q⟩
  | exc ha hd e _ _ => exact ⟨_, _, _, _, false, rfl, .ty _, .inr ⟨_, _, _, _, rfl, rfl, ha, hd, e.ec⟩, kit_exc e.ns (by decide +kernel), q⟩
theorem c_isiT (k : Kn K H B v) (q : Q (.bl (isT H v)) H) : rIsiV K [v, .ty "tuple"] H Q := by
  cases k with
  | non => exact ⟨_, _, _, _, false, rfl, .ty _, .inl (.base .non), kit_ty (by decide +kernel), q⟩
  | bl b => exact ⟨_, _, _, _, false, rfl, .ty _, .inl (.base (.bl b)), kit_ty (by decide +kernel), q⟩
  | int i => exact ⟨_, _, _, _, false, rfl, .ty _, .inl (.base (.int i)), kit_ty (by decide +kernel), q⟩
  | str s => exact ⟨_, _, _, _, false, rfl, .ty _, .inl (.base (.str s)), kit_ty (by decide +kernel), q⟩
  | lst h _ => exact ⟨_, _, _, _, false, rfl, .ty _, .inl (.base (.lst h)), kit_ty (by decide +kernel), by rw [isT_of h] at q; exact q⟩
  | tup h _ => exact ⟨_, _, _, _, true, rfl, .ty _, .inl (.base (.tup h)), kit_ty (by decide +kernel), by rw [isT_of h] at q; exact q⟩
  | exc ha hd e _ _ => exact ⟨_, _, _, _, false, rfl, .ty _, .inr ⟨_, _, _, _, rfl, rfl, ha, hd, e.ec⟩, kit_exc e.nt (by decide +kernel), by rw [isT_of ha] at q; exact q⟩
theorem c_isiL (k : Kn K H B v) (q : Q (.bl (isL H v)) H) : rIsiV K [v, .ty "list"] H Q := by
  cases k with
  | non => exact ⟨_, _, _, _, false, rfl, .ty _, .inl (.base .non), kit_ty (by decide +kernel), q⟩
  | bl b => exact ⟨_, _, _, _, false, rfl, .ty _, .inl (.base (.bl b)), kit_ty (by decide +kernel), q⟩
  | int i => exact ⟨_, _, _, _, false, rfl, .ty _, .inl (.base (.int i)), kit_ty (by decide +kernel), q⟩
  | str s => exact ⟨_, _, _, _, false, rfl, .ty _, .inl (.base (.str s)), kit_ty (by decide +kernel), q⟩
  | lst h _ => exact ⟨_, _, _, _, true, rfl, .ty _, .inl (.base (.lst h)), kit_ty (by decide +kernel), by rw [isL_of h] at q; exact q⟩
  | tup h _ => exact ⟨_, _, _, _, false, rfl, .ty _, .inl (.base (.tup h)), kit_ty (by decide +kernel), by rw [isL_of h] at q; exact q⟩
  | exc ha hd e _ _ => exact ⟨_, _, _, _, false, rfl, .ty _, .inr ⟨_, _, _, _, rfl, rfl, ha, hd, e.ec⟩, kit_exc e.nl (by decide +kernel), by rw [isL_of ha] at q; exact q⟩
end
/-- a stream of draws stands at a -/
def Flow (H : Hp) (a : Addr) : Prop := ∃ (c n : Int) (b : Bool) (p : Int), H a = some (.lst [.int c, .int n, .bl b, .int p])
theorem Flow.up {H H' : Hp} {a : Addr} (f : Flow H a) (k : ∀ o, H a = some o → H' a = some o) : Flow H' a := by
  obtain ⟨c, n, b, p, h⟩ := f
  exact ⟨c, n, b, p, k _ h⟩
theorem Flow.same {H H' : Hp} {a : Addr} (e : Same H H') (f : Flow H a) : Flow H' a := f.up fun o h => e _ _ h
theorem Flow.keep {H H' : Hp} {a b : Addr} (e : Keep b H H') (n : a ≠ b) (f : Flow H a) : Flow H' a := f.up fun o h => e _ _ n h
theorem Flow.at {H : Hp} {a : Addr} (f : Flow H a) : ∃ o, H a = some o := by
  obtain ⟨c, n, b, p, h⟩ := f
  exact ⟨_, h⟩
theorem Flow.ne {H : Hp} {a b : Addr} (f : Flow H a) (n : H b = none) : a ≠ b := by
  obtain ⟨o, h⟩ := f.at
  exact ne_of_none h n
end Sx
namespace Sx
open PySem L2
def Mem (K : PySem.W.Frag) (H : Hp) (B : Addr → Prop) (x : V) : Prop := Kn K H B x ∧ ∀ n, x = .int n → n.natAbs < 2 ^ 190
def Val (K : PySem.W.Frag) (H : Hp) (B : Addr → Prop) (v : V) : Prop := Kn K H B v ∧ ∀ p xs, v = .ref p → H p = some (.tup xs) → ∀ x ∈ xs, Mem K H B x
section
variable {K : PySem.W.Frag} {H H' : Hp} {B B' : Addr → Prop} {v x : V} {xs : List V} {p a d C : Addr}
theorem Mem.up (k : Mem K H B x) (hB : ∀ b, B b → B' b) (hk : ∀ b o, B b → H b = some o → H' b = some o) : Mem K H' B' x := ⟨k.1.up hB hk, k.2⟩
theorem Val.up (k : Val K H B v) (hB : ∀ b, B b → B' b) (hk : ∀ b o, B b → H b = some o → H' b = some o) : Val K H' B' v := by
  refine ⟨k.1.up hB hk, fun p xs e h x hx => ?_⟩
  subst e
  cases k.1 with
  | lst g b =>
    rw [hk _ _ b g] at h
    cases h
  | tup g b =>
    have g' := hk _ _ b g
    rw [g'] at h
    cases h
    exact (k.2 p xs rfl g x hx).up hB hk
  | exc ha hd e ba bd =>
    rw [hk _ _ ba ha] at h
    cases h
theorem mem_int {n : Int} (h1 : -100000000000000 < n) (h2 : n < 100000000000000) : Mem K H B (.int n) := ⟨.int n, fun m e => by
  cases e
  have : (100000000000000 : Nat) < 2 ^ 190 := by decide
  omega⟩
theorem mem_kn (k : Kn K H B x) (h : isI x = false) : Mem K H B x := ⟨k, fun n e => by
  subst e
  cases h⟩
theorem mems_nil : ∀ x ∈ ([] : List V), Mem K H B x := fun x h => by cases h
theorem mems_cons (h1 : Mem K H B x) (h2 : ∀ y ∈ xs, Mem K H B y) : ∀ y ∈ x :: xs, Mem K H B y := fun y h => by
  rcases List.mem_cons.mp h with rfl | h
  · exact h1
  · exact h2 y h
theorem val_tup (h : H p = some (.tup xs)) (b : B p) (m : ∀ x ∈ xs, Mem K H B x) : Val K H B (.ref p) := ⟨.tup h b, fun q ys e g => by
  cases e
  rw [h] at g
  cases g
  exact m⟩
theorem val_lst (h : H p = some (.lst xs)) (b : B p) : Val K H B (.ref p) := ⟨.lst h b, fun q ys e g => by
  cases e
  rw [h] at g
  cases g⟩
theorem val_exc {fs : List (Str × V)} (ha : H a = some (exo a C (some d))) (hd : H d = some (.xd fs)) (e : ExK K C) (ba : B a) (bd : B d) : Val K H B (.ref a) := ⟨.exc ha hd e ba bd, fun q ys z g => by
  cases z
  rw [ha] at g
  cases g⟩
theorem val_flat (k : Kn K H B v) (h : ∀ p, v ≠ .ref p) : Val K H B v := ⟨k, fun q ys e _ => absurd e (h q)⟩
theorem newx_same {H2 : Hp} {o u : HO} (na : H a = none) (nd : H d = none) (e : upd (upd H d u) a o = H2) : Same H H2 := by
  subst e
  intro b z h
  rw [upd_ne (ne_of_none h na), upd_ne (ne_of_none h nd)]
  exact h
theorem newx_at {H2 : Hp} {o u : HO} (e : upd (upd H d u) a o = H2) : H2 a = some o := by
  subst e
  exact upd_same
theorem newx_d {H2 : Hp} {o u : HO} (n : d ≠ a) (e : upd (upd H d u) a o = H2) : H2 d = some u := by
  subst e
  rw [upd_ne n]
  exact upd_same
theorem s_exv {σ : St} {Q : VK} {f : Str} {ta : TA} (h : ta σ H fun vs H1 => ∃ v, vs = [v] ∧ ∀ a d, H1 a = none → H1 d = none → d ≠ a → Q (.ref a) (upd (upd H1 d (.xd [(f, v)])) a (exo a C (some d)))) : tExV C f ta σ H Q := h
end
end Sx

set_option Elab.async false
set_option linter.all false
set_option maxRecDepth 100000
set_option maxHeartbeats 2000000
/-! a dict comprehension whose dict may have tuples as keys -/
namespace L2
open PySem PySem.Spec PyProof.Rows
section
variable {X : Cx} {pins : List (Addr × Obj)} {σ : St} {H H' : Hp} {s : Shared} {E : Value → Shared → Prop} {D : Addr} {y v : V} {yv r : Value} {Q : Unit → Shared → Prop}
/-- the store of a comprehension, keys of both kinds -/
theorem dcp_put (hu : X.A.units < cLine) (I : Inv X pins σ H s) (g : DPut H D y v H') (ry : RelV y yv) (rv : RelV v r) (h : ∀ s', Inv X pins σ H' s' → Q () s') :
    wpAny (model X.prog X.w) X.A (dictSet D yv r) Q E s := by
  rcases g with ⟨kvs, k, eD, rfl, lz, rfl⟩ | ⟨kvs, k, b, eD, rfl, eb, lz, rfl⟩
  · exact d_dictSet I eD lz ry rv h
  · obtain rfl : yv = Value.ref b := ry
    obtain ⟨z1, ns, xs, rl, ok⟩ := dt_of I.hok eD
    have l1 : (putK kvs k v).length ≤ sizeLine := Nat.le_trans (length_putK kvs k v) lz
    have l2 : xs.length ≤ sizeLine := by
      rw [← rl.length]
      exact z1
    refine wpAny_dictSet_heap (hsz := l2) (knd := tupleKind (mixKind X.prog X.w)) hu (key_of I.hok eb) ok fun hh ⟨q, es, ep, k1, k2, k3, k4, _, k5⟩ sb => h _ (d_write I (by rw [eD]; trivial) sb ⟨q, k1⟩ ?_)
    exact ⟨l1, ns, _, (rl.put k eb rv).keeps fun c ys ec => (upd_ne (ne_of ec eD fun e => nomatch e)).trans ec, q, es, ep, k1, k2, k3, k4, k5⟩
end
section
variable {X : Cx}
/-- {k: v for target in iter if ..}: u0 says which keys are coming -/
def tDcP (u0 : HO) (wi : TI) (g : TG) (tt : TT) (tk tv : TE) (vs : List Nat) : TE := fun σ H Q => wi σ H fun J H1 => ∀ D, H1 D = none →
  ∃ W : Nat → Nat → Hp → Prop, (∃ m, W 0 m (upd H1 D u0)) ∧ ∀ i m H2, W i m H2 → (J.stop i H2 ∧ Q (.ref D) H2) ∨
    (J.go i H2 ∧ ∃ Nx : Hp → Prop, (∀ H', Nx H' → ∃ m', m' < m ∧ W (i + 1) m' H') ∧ ∀ x H3, J.yld i H2 x H3 → g x (wipe σ vs) H3 fun σ2 H4 => wipe σ2 vs = wipe σ vs ∧ tt σ2 H4 fun b H5 =>
      if b = true then tk σ2 H5 fun y H6 => tv σ2 H6 fun z H7 => ∃ H8, DPut H7 D y z H8 ∧ Nx H8 else Nx H5)
/-- the two beginnings -/
def Dc0 (u0 : HO) : Prop := u0 = .dK [] ∨ u0 = .dT []
theorem Dc0.new {u0 : HO} (z : Dc0 u0) {P : Program} {w : World} {H : Hp} (h : Heap) (hb : sysModules < h.objs.size) : ObjOk P w H (h.push { cls := .type "dict", data := .dict #[] }) h.objs.size u0 := by
  rcases z with rfl | rfl
  · exact dk_empty h hb
  · exact dt_empty h hb

/-- what a comprehension's parts answer, whatever block they stand in -/
structure DcParts (X : Cx) (scope : Scope) (tg kx vx : Expr) (ifs : List Expr) (g : TG) (tt : TT) (tk tv : TE) : Prop where
  tgt : ∀ (s : Shared) (H : Hp) (C : Addr) (cl : List (Str × Addr)) (fp : List Addr), PG (X.blk s H scope (compEnvC scope cl C X.env) fp) tg g
  tst : ∀ (s : Shared) (H : Hp) (C : Addr) (cl : List (Str × Addr)) (fp : List Addr), PTs (X.blk s H scope (compEnvC scope cl C X.env) fp) ifs tt
  key : ∀ (s : Shared) (H : Hp) (C : Addr) (cl : List (Str × Addr)) (fp : List Addr), PE (X.blk s H scope (compEnvC scope cl C X.env) fp) kx tk
  val : ∀ (s : Shared) (H : Hp) (C : Addr) (cl : List (Str × Addr)) (fp : List Addr), PE (X.blk s H scope (compEnvC scope cl C X.env) fp) vx tv
/-- a dict comprehension, its value used as use says -/
theorem dcp_core {pins : List (Addr × Obj)} {s : Shared} {σ : St} {H : Hp} {Q : VK} {u0 : HO} {kx vx tg iter : Expr} {ifs : List Expr} {scope : Scope} {own : List (Str × Nat)} {pos pos' : Pos} {wi : TI} {g : TG} {tt : TT} {tk tv : TE} {use : Option (Value → Sem Unit)} {Qf : Value → Shared → Prop} (z0 : Dc0 u0) (hu : X.A.units < cLine) (hc : X.calm = true) (hN : X.N.Nodup)
    (I : Inv X pins σ H s) (hi : PI X tg iter wi) (ok : BlkOk X.N X.env.scope scope own) (parts : DcParts X scope tg kx vx ifs g tt tk tv) (hs : ∀ x, foldedSetIterable iter X.env x = pure x) (want : tDcP u0 wi g tt tk tv (own.map (·.2)) σ H Q)
    (ends : ∀ D C s' m H', Inv X pins σ H' s' → Q (.ref D) H' → s'.heap.Ns C m → FpOk X pins H' C → compPost (model X.prog X.w) X.A X.xe use Qf (.ref D) C (.ok .next) s') :
    wpAny (model X.prog X.w) X.A (comprehension (.DictComp kx vx [⟨tg, iter, ifs, 0⟩] scope pos) scope X.env pos' newDict false (eval iter X.env) use) Qf X.xe s := by
  have cells : ∀ y ∈ scope.names, y.2 = .free → ∃ c, X.env.cells.lookup y.1 = some c := fun y hy e =>
    (ok.free y hy e).elim (fun k => I.ok.has _ (.inl k)) fun k => I.ok.has _ (.inr k)
  refine wpAny_comprehension_free (use := use) rfl hs (closure_ok cells) ok.kind (fun y hy e => (ok.uniq y hy).trans (by rw [e])) ?_
  refine thn (hi.run pins s σ H _ I want) fun xv s1 hx => thn hx fun itv s2 ⟨it, fp, tn, J, H2, e, I2, T, st2, f2, rest⟩ => ?_
  subst e
  refine wpAny_newObj_type (newEnv_comp ?_)
  obtain ⟨D, hD⟩ : ∃ D, D = s2.heap.objs.size := ⟨_, rfl⟩
  rw [← hD]
  obtain ⟨W, ⟨m0, start⟩, turns⟩ := rest D (I2.hok.fresh (Nat.le_of_eq hD.symm))
  -- behind the making of the dict
  obtain ⟨s3, hs3⟩ : ∃ s3 : Shared, s3 = { s2 with heap := s2.heap.push { cls := .type "dict", data := .dict #[] } } := ⟨_, rfl⟩
  have heap3 : s3.heap = s2.heap.push { cls := .type "dict", data := .dict #[] } := by rw [hs3]
  have grows : ∀ b o, s2.heap.get? b = some o → s3.heap.get? b = some o := fun b o e => by
    rw [heap3]
    exact Heap.get?_push_of_some _ e
  have I3 : Inv X pins σ (upd H2 D u0) s3 := by
    rw [hs3]
    refine I2.laid (t' := s2.toks) (fun b o e => Heap.get?_push_of_some _ e) (Nat.le_of_eq hD.symm) ?_
    rw [hD]
    exact z0.new s2.heap I2.big
  have lows : ∀ b ∈ fp, b < s2.heap.objs.size := fun b hb => (T.obj _ _ st2 b hb).elim fun o h => Heap.lt_size h.1
  have frees : ∀ b ∈ fp, FpOk X pins (upd H2 D u0) b ∧ b < s3.heap.objs.size := fun b hb => by
    have l := lows b hb
    have n : b ≠ D := fun e => Nat.lt_irrefl _ (by rw [e, hD] at l; exact l)
    refine ⟨⟨by rw [upd_ne n]; exact (f2 b hb).1, (f2 b hb).2⟩, ?_⟩
    rw [heap3, Heap.size_push]
    exact Nat.lt_succ_of_lt l
  have st3 : tn 0 s3.heap := T.keep _ _ _ st2 fun b _ o e => grows b o e
  obtain ⟨C, hC⟩ : ∃ C, C = s3.heap.objs.size := ⟨_, rfl⟩
  obtain ⟨cl, hcl⟩ : ∃ cl, cl = cellsFrom (C + 1) scope.names (cloFrom X.env.cells scope.names []) := ⟨_, rfl⟩
  obtain ⟨H3, hH3⟩ : ∃ H3, H3 = upd H2 D u0 := ⟨_, rfl⟩
  have I4 := block_start I3 ok hN frees
  rw [← hC, ← hcl, ← hH3] at I4
  rw [← hH3] at I3 frees start
  have pg := parts.tgt s3 H3 C cl fp
  have pt := parts.tst s3 H3 C cl fp
  have pk := parts.key s3 H3 C cl fp
  have pv := parts.val s3 H3 C cl fp
  rw [← hs3, ← hC, ← hcl]
  obtain ⟨ce, hce⟩ : ∃ ce, ce = compEnvC scope cl C X.env := ⟨_, rfl⟩
  have locals : ce.locals = C := by rw [hce]; rfl
  rw [← hce] at I4 pg pt pk pv
  show codeAny _ _ (.compStart (.DictComp kx vx [⟨tg, iter, ifs, 0⟩] scope pos) 0 (.ref it) (.ref D) (compEnvC scope cl C X.env)) (compPost (model X.prog X.w) X.A X.xe use Qf (.ref D) C) { s3 with heap := pushCells (s3.heap.push { cls := .type "dict", data := .dict #[] }) scope.names }
  rw [← hce]
  obtain ⟨s4, hs4⟩ : ∃ s4 : Shared, s4 = { s3 with heap := pushCells (s3.heap.push { cls := .type "dict", data := .dict #[] }) scope.names } := ⟨_, rfl⟩
  rw [← hs4] at I4 ⊢
  have st4 : tn 0 s4.heap := T.keep _ _ _ st3 fun b _ o e => by
    rw [hs4]
    exact pushCells_keeps _ _ _ _ (Heap.get?_push_of_some _ e)
  -- what the walk reads stays what it was
  have still : ∀ {τ : St} {H' : Hp} {s' : Shared}, Inv (X.blk s3 H3 scope ce fp) [] τ H' s' → (∀ b ∈ fp, H' b = none) → ∀ b ∈ fp, FpOk (X.blk s3 H3 scope ce fp) [] H' b := by
    exact fun I' no b hb => ⟨no b hb, (I'.ok.exf b hb).1, I'.ok.exfs b hb, .inl hb, fun x c e => (I'.ok.exf b hb).2 x c e, fun p hp => absurd (show p ∈ ([] : List (Addr × Obj)) ++ [] from hp) (by simp)⟩
  -- behind the block
  have back : ∀ {τ : St} {H' : Hp} {s' : Shared}, Inv (X.blk s3 H3 scope ce fp) [] τ H' s' → Inv X pins σ H' s' ∧ (∃ m, s'.heap.Ns C m) ∧ FpOk X pins H' C := by
    intro τ H' s' I'
    have n : H' C = none := by rw [← locals]; exact I'.free
    obtain ⟨m, ns, _⟩ := I'.loc
    refine ⟨I3.call' (ch := fp) I'.os I'.base I'.hok I'.bare fun b hb => ⟨(frees b hb).1.2.2.2.1, (frees b hb).1.2.1, (frees b hb).1.2.2.2.2.1, (frees b hb).1.2.2.2.2.2⟩, ⟨m, ?_⟩, I3.fpOk (Nat.le_of_eq hC.symm) n⟩
    rw [← locals]
    exact ns
  have loop : codeAny (model X.prog X.w) X.A (.compLoop (.DictComp kx vx [⟨tg, iter, ifs, 0⟩] scope pos) 0 (.ref it) (.ref D) ce) (compPost (model X.prog X.w) X.A X.xe use Qf (.ref D) C) s4 := by
    refine compLoop_anyD (fun n s' => ∃ i H', W i n H' ∧ tn i s'.heap ∧ (∀ b ∈ fp, H' b = none) ∧ Inv (X.blk s3 H3 scope ce fp) [] (wipe σ (own.map (·.2))) H' s') ?_ m0 ⟨0, H3, start, st4, fun b hb => (frees b hb).1.1, I4⟩
    rintro n s5 ⟨i, H5, w5, st5, n5, I5⟩
    rcases turns i n H5 w5 with ⟨halt, won⟩ | ⟨go, Nx, next, turn⟩
    · refine thnF (T.done (X.blk s3 H3 scope ce fp) rfl rfl rfl hc i [] s5 _ H5 (fun _ _ => False) I5 (still I5 n5) st5 halt) fun r s6 ⟨hr, I6⟩ => ?_
      subst hr
      obtain ⟨J6, ⟨m, ns⟩, f6⟩ := back I6
      exact ends D C s6 m H5 J6 won ns f6
    · refine thnF (T.item (X.blk s3 H3 scope ce fp) rfl rfl rfl hc i [] s5 _ H5 (fun _ _ => False) I5 (still I5 n5) st5 go) fun r s6 ⟨u, hr, h6⟩ => ?_
      subst hr
      refine thnF h6 fun _ s7 ⟨x, H7, I7, r7, y7, st7, n7⟩ => ?_
      obtain ⟨pl, hpl⟩ : ∃ pl, pl = pinsAt fp s7.heap := ⟨_, rfl⟩
      have P7 : Inv (X.blk s3 H3 scope ce fp) ([] ++ pl) (wipe σ (own.map (·.2))) H7 s7 := by
        rw [hpl]
        exact I7.pinned (still I7 n7) (T.obj _ _ st7)
      -- a turn that is over
      have over : ∀ {τ : St} {s' : Shared} {H' : Hp}, wipe τ (own.map (·.2)) = wipe σ (own.map (·.2)) → Inv (X.blk s3 H3 scope ce fp) ([] ++ pl) τ H' s' → Nx H' →
          ∃ m, m < n ∧ ∃ i H', W i m H' ∧ tn i s'.heap ∧ (∀ b ∈ fp, H' b = none) ∧ Inv (X.blk s3 H3 scope ce fp) [] (wipe σ (own.map (·.2))) H' s' := by
        intro τ s' H' same I' nx
        obtain ⟨m', lt, w'⟩ := next H' nx
        have there : ∀ b ∈ fp, ∀ o, s7.heap.get? b = some o → s'.heap.get? b = some o ∧ H' b = none := fun b hb o e => by
          have z := I'.pin (b, o) (List.mem_append_right _ (List.mem_append_right _ (by rw [hpl]; exact mem_pinsAt hb e)))
          exact ⟨z.1, z.2.1⟩
        refine ⟨m', lt, i + 1, H', w', T.keep _ _ _ st7 fun b hb o e => (there b hb o e).1, fun b hb => (T.obj _ _ st7 b hb).elim fun o h => (there b hb o h.1).2, ?_⟩
        refine (I'.unpinned (pins := [])).weak (by rw [← same, wipe_length]) fun j v e => ?_
        rw [← same] at e
        exact (wipe_some e).1
      refine thnF (pg.run _ s7 _ H7 x u _ P7 r7 (turn x H7 y7)) fun _ s8 ⟨τ, H8, I8, same, q8⟩ => ?_
      refine thnF (pt.run _ s8 τ H8 _ I8 q8) fun b s9 ⟨H9, I9, q9⟩ => ?_
      cases b with
      | true =>
        refine thnF (pk.run _ s9 τ H9 _ I9 q9) fun ku s10 ⟨y, H10, I10, r10, q10⟩ => ?_
        refine thnF (pv.run _ s10 τ H10 _ I10 q10) fun vu s11 ⟨v, H11, I11, r11, H12, put, nx⟩ => ?_
        exact dcp_put (X := X.blk s3 H3 scope ce fp) hu I11 put r10 r11 fun s12 I12 => over same I12 nx
      | false => exact over same I9 q9
  exact codeAny_compStart_dict loop (T.self X.A 0 _ _ _ st4 loop)
/-- the value of a dict comprehension over any walk -/
theorem pe_dcP {u0 : HO} {kx vx tg iter : Expr} {ifs : List Expr} {scope : Scope} {own : List (Str × Nat)} {pos : Pos} {wi : TI} {g : TG} {tt : TT} {tk tv : TE} (z0 : Dc0 u0) (hu : X.A.units < cLine) (hc : X.calm = true) (hN : X.N.Nodup)
    (hi : PI X tg iter wi) (ok : BlkOk X.N X.env.scope scope own) (parts : DcParts X scope tg kx vx ifs g tt tk tv) (hs : ∀ x, foldedSetIterable iter X.env x = pure x := by intro _; rfl) :
    PE X (.DictComp kx vx [⟨tg, iter, ifs, 0⟩] scope pos) (tDcP u0 wi g tt tk tv (own.map (·.2))) := by
  refine ⟨fun pins s σ H Q I want => ?_⟩
  rw [arm_eval_DictComp]
  refine dcp_core z0 hu hc hN I hi ok parts hs want fun D C s' m H' I' q ns f => ⟨m, ns, fun h'' sb => ?_⟩
  obtain ⟨q0, q1, _, q3, q4, q5⟩ := f
  exact ⟨.ref D, H', I'.turned (t' := s'.toks) (fun b o hb e => (sb.2 b hb).trans e) q0 q1 q3 q4 q5, rfl, q⟩
theorem swd_true {kx vx : Expr} {gs : List Comprehension} {scope : Scope} {pos py : Pos} {y : Str} {l : Nat} {env : Env} (hk : env.scope.kind = .function) (hy : env.scope.names.lookup y = some .local) (hl : (py.line == pos.line) = true)
    (ha : (scope.names.any fun (n, k) => n == y && (k == .local || k == .cell)) = false) : swapsWith (.DictComp kx vx gs scope pos) (some (.Name y py)) l env = pure true := by
  have b1 : env.kindOf y = some .local := hy
  have b2 : env.blockKind = .function := by (unfold Env.blockKind; rw [hk]; rfl)
  (unfold swapsWith; simp only [b2, b1, ha, Expr.pos, hl]; rfl)
/-- name = {..} on one line, the name a local -/
theorem ps_setDc {i : Nat} {y : Str} {py : Pos} {u0 : HO} {kx vx tg iter : Expr} {ifs : List Expr} {scope : Scope} {own : List (Str × Nat)} {pos spos : Pos} {wi : TI} {g : TG} {tt : TT} {tk tv : TE} (z0 : Dc0 u0) (hu : X.A.units < cLine) (hc : X.calm = true) (hN : X.N.Nodup) (hy : X.N[i]? = some y) (hyl : X.env.scope.names.lookup y = some .local)
    (hsw : swapsWith (.DictComp kx vx [⟨tg, iter, ifs, 0⟩] scope pos) (some (.Name y py)) spos.line X.env = pure true) (hi : PI X tg iter wi) (ok : BlkOk X.N X.env.scope scope own) (parts : DcParts X scope tg kx vx ifs g tt tk tv) (hs : ∀ x, foldedSetIterable iter X.env x = pure x := by intro _; rfl) :
    PS X (.Assign [.Name y py] (.DictComp kx vx [⟨tg, iter, ifs, 0⟩] scope pos) spos) (tAsg (tDcP u0 wi g tt tk tv (own.map (·.2))) (gName i)) := by
  refine ⟨fun pins s σ H D I want => ?_⟩
  rw [exec_Assign_Name_used _ _ _ _ hsw]
  refine wpAny_bind (wpAny_standAt (wpAny_bind (m := evalThenUse _ _ _) ?_))
  show wpAny _ X.A (do let _ ← comprehension (.DictComp kx vx [⟨tg, iter, ifs, 0⟩] scope pos) scope X.env (firstIterPos [⟨tg, iter, ifs, 0⟩] pos) newDict false (eval iter X.env) (some (assign (.Name y py) X.env))) _ _ s
  have want' : tDcP u0 wi g tt tk tv (own.map (·.2)) σ H (fun x H1 => gName i x σ H1 D.nx) := want
  refine wpAny_bind (thn (dcp_core (Qf := fun _ s' => SP X pins D .next s') z0 hu hc hN I hi ok parts hs want' fun L C s' m H' I' q hn f => ?_) fun _ s' hq => wpAny_pure (wpAny_pure hq))
  obtain ⟨f0, f1, f2, f3, f4, f5⟩ := f
  refine wpAny_assign_Name (store_ok2 (v := V.ref L) I' hN hy (.inl hyl) rfl (fun s2 I2 ⟨a, sb, ha⟩ => ⟨m, hn.sameBut sb ?_, fun h3 sb3 => ⟨_, H', I2.turned (t' := s2.toks) (fun b o hb e => (sb3.2 b hb).trans e) f0 f1 f3 f4 f5, q⟩⟩) (.inr hyl))
  exact ha.elim (fun z => by rw [z]; exact f1) fun z e => f4 y a z e.symm
/-- over a tuple that stays: n turns, Pv i what is so behind i of them -/
theorem dcp_tup {K : PySem.W.Frag} {u0 : HO} {a : Addr} {xs : List V} {g : TG} {tt : TT} {tk tv : TE} {vs : List Nat} {σ : St} {H1 : Hp} {D : Addr} {Qd : Hp → Prop} (Pv : Nat → Hp → Prop) (first : Pv 0 (upd H1 D u0)) (stays : ∀ i H, i ≤ xs.length → Pv i H → SqT K H a xs)
    (each : ∀ i x H, xs[i]? = some x → Pv i H → g x (wipe σ vs) H fun σ2 H4 => wipe σ2 vs = wipe σ vs ∧ tt σ2 H4 fun b H5 =>
      if b = true then tk σ2 H5 fun y H6 => tv σ2 H6 fun z H7 => ∃ H8, DPut H7 D y z H8 ∧ Pv (i + 1) H8 else Pv (i + 1) H5) (last : ∀ H, Pv xs.length H → Qd H) :
    ∃ W : Nat → Nat → Hp → Prop, (∃ m, W 0 m (upd H1 D u0)) ∧ ∀ i m H2, W i m H2 → ((Itt K a).stop i H2 ∧ Qd H2) ∨
      ((Itt K a).go i H2 ∧ ∃ Nx : Hp → Prop, (∀ H', Nx H' → ∃ m', m' < m ∧ W (i + 1) m' H') ∧ ∀ x H3, (Itt K a).yld i H2 x H3 → g x (wipe σ vs) H3 fun σ2 H4 => wipe σ2 vs = wipe σ vs ∧ tt σ2 H4 fun b H5 =>
        if b = true then tk σ2 H5 fun y H6 => tv σ2 H6 fun z H7 => ∃ H8, DPut H7 D y z H8 ∧ Nx H8 else Nx H5) := by
  refine ⟨fun i m H => i + m = xs.length ∧ Pv i H, ⟨xs.length, Nat.zero_add _, first⟩, ?_⟩
  rintro i m H ⟨e, p⟩
  have sq := stays i H (by omega) p
  cases m with
  | zero =>
    obtain rfl : i = xs.length := by omega
    exact .inl ⟨⟨xs, sq, Nat.le_refl _⟩, last H p⟩
  | succ m =>
    have lt : i < xs.length := by omega
    refine .inr ⟨⟨xs, xs[i], sq, by simp [lt]⟩, Pv (i + 1), fun H' p' => ⟨m, Nat.lt_succ_self m, by omega, p'⟩, fun x H' ⟨e', y⟩ => ?_⟩
    subst e'
    exact each i x _ (y xs sq) p
end
end L2

set_option Elab.async false
set_option linter.all false
set_option maxRecDepth 100000
set_option maxHeartbeats 3200000
/-! set(v) of a list or a tuple, the loop's promise left open -/
namespace L2
open PySem PySem.Spec PyProof.Rows
section
variable {P : Program} {w : World} {A : Around} {E : Value → Shared → Prop} {s : Shared}
/-- the set that a call makes first -/
abbrev setNew (w : World) : Obj := { cls := .type "set", dict := none, data := .set #[] 0 (.fresh 0 0 (!w.params.followText "set-order")) }
/-- a built-in kind that set() walks -/
structure SeqTy (T : String) : Prop where
  noSet : isSubtype (.type T) (.type "set") = pure false
  noFrozen : isSubtype (.type T) (.type "frozenset") = pure false
  noDict : (Value.type T == Value.type "dict") = false
theorem seqTy_list : SeqTy "list" := ⟨F.sub_list_set, F.sub_list_frozenset, by decide⟩
theorem seqTy_tuple : SeqTy "tuple" := ⟨F.sub_tuple_set, F.sub_tuple_frozenset, by decide⟩
/-- what is asked of the walk that fills the set at S: R is what it leaves -/
def Fills (P : Program) (w : World) (A : Around) (E : Value → Shared → Prop) (S l : Addr) (R : Shared → Prop) (s : Shared) : Prop :=
  wpAny (model P w) A (pyIter (.ref l)) (fun it s2 => codeAny (model P w) A (.builtin "set.update.loop" ⟨[.ref S, it], []⟩) (wants (fun r s3 => r = .none ∧ R s3) E) s2) E s
theorem init_seq {T : String} {S l : Addr} {o : Obj} {R : Shared → Prop} (ty : SeqTy T) (hS : s.heap.get? S = some (setNew w)) (hl : s.heap.get? l = some o) (hT : o.cls = .type T) (fill : Fills P w A E S l R s) :
    wpAny (model P w) A (Builtin.«set.__init__» ⟨[.ref S, .ref l], []⟩) (fun r s2 => r = .done (.ret .none) ∧ R s2) E s := by
  obtain ⟨c, dd, da, sl⟩ := o
  obtain rfl : c = Value.type T := hT
  have q1 := ty.noSet
  have q2 := ty.noFrozen
  have q3 := ty.noDict
  unfold Builtin.«set.__init__» noKeywords Builtin.Frozenset.updateFrom
  unfold Fills at fill
  generalize pyIter = PI at *
  wp_walk
  refine wpAny_mono fill (fun it s2 h2 => ?_) fun _ _ z => z
  refine wpAny_bind (wpAny_runValue (codeAny_mono h2 fun r s3 h3 => ?_))
  cases r with
  | error e => exact h3
  | ok fl =>
    cases fl with
    | ret u => exact wpAny_pure (wpAny_pure ⟨rfl, h3.2⟩)
    | _ => exact h3.elim
/-- set(v): the walk is asked where it stands -/
theorem call_set_seq {T : String} {l : Addr} {o : Obj} {R : Shared → Prop} {Q : Value → Shared → Prop} (ty : SeqTy T) (hl : s.heap.get? l = some o) (hT : o.cls = .type T)
    (fill : Fills P w A.in1.in1 E s.heap.objs.size l R { s with heap := s.heap.push (setNew w) }) (won : ∀ s', R s' → Q (.ref s.heap.objs.size) s') : wpAny (model P w) A (call (.type "set") [.ref l]) Q E s := by
  obtain ⟨c, tl, hmro⟩ := F.called_set.mro
  have a1 := F.called_set.made
  have a2 := F.called_set.sub
  have a3 := F.called_set.notType
  have a4 := F.called_set.canCreate
  have a5 := F.typeCall_set_1 (.ref l)
  refine wpAny_call (codeAny_of_tree ?_)
  show wpAny _ _ (callAny (.type "set") ⟨[.ref l], []⟩) _ _ s
  refine wpAny_pure ⟨Code.quiet_builtin _ (by decide +kernel), codeAny_builtin F.entry_type_call ?_⟩
  rw [Around.under_plain (weight_type_call_type "set" [.ref l] []) rfl]
  repeat (any_goals (first | assumption | wp_step))
  -- the new set
  refine codeAny_mono (code_set_led1 (.ref l) (E := E) (Q₁ := fun v s1 => v = .ref s.heap.objs.size ∧ s1 = { s with heap := s.heap.push (setNew w) }) ⟨rfl, rfl⟩) fun r s1 hr => ?_
  cases r with
  | error e => exact hr
  | ok fl =>
    cases fl with
    | ret v =>
      obtain ⟨rfl, rfl⟩ := hr
      have at0 : (s.heap.push (setNew w)).get? s.heap.objs.size = some (setNew w) := Heap.get?_push_size _ rfl
      have atl : (s.heap.push (setNew w)).get? l = some o := Heap.get?_push_of_some _ hl
      have hty : Shared.TypeIs { s with heap := s.heap.push (setNew w) } (.ref s.heap.objs.size) "set" := ⟨_, at0, rfl⟩
      have b1 := F.called_set.init.lookup
      have b2 := F.called_set.init.bind (.ref s.heap.objs.size)
      repeat (any_goals (first | assumption | wp_step))
      refine codeAny_mono (codeAny_call_builtin (R := wants (fun r s2 => r = .none ∧ R s2) E) F.called_set.init.plain F.entry_set_init (check_set_init_1 hty ?_)) fun r2 s2 hr2 => ?_
      · refine wpAny_mono (init_seq ty at0 atl hT fill) (fun fin s3 h3 => ?_) fun _ _ z => z
        obtain ⟨rfl, h3⟩ := h3
        exact ⟨rfl, h3⟩
      · cases r2 with
        | error e => exact hr2
        | ok fl2 =>
          cases fl2 with
          | ret u =>
            obtain ⟨rfl, h3⟩ := hr2
            have q := won s2 h3
            repeat (any_goals (first | assumption | wp_step))
          | _ => exact hr2.elim
    | _ => exact hr.elim

/-- set(t), t a tuple of tuples of ints -/
theorem call_set_ofT {l : Addr} {items : Array Value} (ks : List (Addr × List Int)) {Q : Value → Shared → Prop} (hh : A.handled = none) (hl : s.heap.IsTuple l items) (same : items.toList = ks.map fun p => Value.ref p.1)
    (keys : ∀ p ∈ ks, IsT P w s.heap p.2 p.1) (few : ks.length < 64) (hu : A.units + 3 < cLine)
    (won : ∀ (h' : Heap) (tk : Nat) L es ep t, (∀ b o, s.heap.get? b = some o → h'.get? b = some o) → Got ks ks.length L → SetTR P w h' s.heap.objs.size L es ep t → Q (.ref s.heap.objs.size) { s with heap := h', toks := tk }) :
    wpAny (model P w) A (call (.type "set") [.ref l]) Q E s := by
  have len : items.size = ks.length := by rw [← Array.length_toList, same, List.length_map]
  obtain ⟨o, ho, oc, n, od⟩ := id hl
  have lt : l < s.heap.objs.size := Heap.lt_size ho
  have nobody : ∀ b, s.heap.objs.size ≤ b → s.heap.get? b = none := fun b hb => Classical.byContradiction fun h => by
    obtain ⟨u, hu⟩ := Option.ne_none_iff_exists'.mp h
    exact Nat.lt_irrefl _ (Nat.lt_of_le_of_lt hb (Heap.lt_size hu))
  refine call_set_seq (R := fun s' => ∃ (h' : Heap) (tk : Nat), s' = { s with heap := h', toks := tk } ∧ ∃ L es ep t, (∀ b o, s.heap.get? b = some o → h'.get? b = some o) ∧ Got ks ks.length L ∧ SetTR P w h' s.heap.objs.size L es ep t)
    seqTy_tuple ho oc ?_ fun s' ⟨h', tk, e, L, es, ep, t, q1, q2, q3⟩ => by rw [e]; exact won h' tk L es ep t q1 q2 q3
  have l1 : (s.heap.push (setNew w)).IsTuple l items := hl.at fun u e => Heap.get?_push_of_some _ e
  have sz : (s.heap.push (setNew w)).objs.size = s.heap.objs.size + 1 := Heap.size_push ..
  refine wpAny_pyIter_tuple l1 ?_
  have apart : l ≠ (s.heap.push (setNew w)).objs.size := by
    rw [sz]
    exact Nat.ne_of_lt (Nat.lt_succ_of_lt lt)
  have hA : A.in1.in1.in1.handled = none := by simp [hh]
  refine set_update_tups (A := A.in1.in1) (Walks.tuple hA _ l apart items).toS s.heap.objs.size ?_ ks len few (fun i v hv => ?_) s.heap keys (nobody _ (Nat.le_refl _)) (fun b hb => ?_) hu items.size 0 _ rfl (Nat.zero_le _)
    ⟨⟨_, Heap.get?_push_size _ rfl, rfl, rfl⟩, l1.at fun u e => Heap.get?_push_of_some _ e⟩ (fun b u e => Heap.get?_push_of_some _ (Heap.get?_push_of_some _ e)) ?_ ?_
  · rw [sz]
    simp only [List.mem_cons, List.not_mem_nil, or_false, not_or]
    exact ⟨Nat.ne_of_lt (Nat.lt_succ_self _), Nat.ne_of_gt lt⟩
  · have z : (ks.map fun p => Value.ref p.1)[i]? = some v := by rw [← same, Array.getElem?_toList]; exact hv
    rw [List.getElem?_map] at z
    obtain ⟨p, e1, e2⟩ := Option.map_eq_some_iff.mp z
    exact ⟨p, e1, e2.symm⟩
  · rw [List.mem_singleton.mp hb, sz]
    exact nobody _ (Nat.le_succ _)
  · exact ⟨[], #[], 0, _, setTR_fresh (Heap.get?_push_of_some _ (Heap.get?_push_size _ rfl)), Got.zero ks⟩
  · rintro ⟨h', g', d', tk', os'⟩ L es ep t mv full got keeps
    obtain rfl : g' = s.gens := mv.gens
    obtain rfl : d' = s.drawn := mv.drawn
    obtain rfl : os' = s.os := mv.os
    rw [len] at got
    exact ⟨rfl, h', tk', rfl, L, es, ep, t, keeps, got, full⟩
end
section
variable {X : Cx}
/-- set(t), the rule -/
def rSetOfTT (K : PySem.W.Frag) (P : Program) (w : World) : List V → Hp → VK → Prop := fun xs H Q => ∃ (l : Addr) (ks : List (Addr × List Int)), xs = [V.ref l] ∧ SqT K H l (ks.map fun p => V.ref p.1) ∧ (∀ p ∈ ks, SqT K H p.1 (p.2.map V.int)) ∧ ks.length < 64 ∧
  ∀ a L, H a = none → (∀ p ∈ L, p ∈ ks) → (∀ p ∈ ks, p.2 ∈ L.map (·.2)) → Q (.ref a) (upd H a (SetTO P w a L))
theorem cr_setOfTT (hc : X.calm = true) (hu : X.A.units + 64 < cLine) : CallR X (.type "set") (rSetOfTT X.K X.prog X.w) := by
  rintro pins s σ H xs us Q I r ⟨l, ks, rfl, tl, keys, few, won⟩
  rw [Vals.ref1 r]
  obtain ⟨its, rv, ⟨o, ho, oc, n, od⟩, _⟩ := I.tuple tl
  refine call_set_ofT (items := its.toArray) ks (I.ok.hd hc) ⟨o, ho, oc, n, od⟩ (by simpa using refs_of_vals rv) (fun p hp => I.isT (keys p hp)) few (by omega) fun h' tk L es ep t k g R => ?_
  refine ⟨.ref s.heap.objs.size, upd H s.heap.objs.size (SetTO X.prog X.w s.heap.objs.size L), I.laid (t' := tk) k (Nat.le_refl _) (setTO_new R.t0), rfl, won _ L (I.hok.fresh (Nat.le_refl _)) (fun p hp => List.mem_of_mem_take (g.sub p hp)) fun p hp => g.all p ?_⟩
  rw [List.take_length]
  exact hp
end
end L2

set_option Elab.async false
set_option linter.all false
set_option maxRecDepth 100000
set_option maxHeartbeats 3200000
/-! sorted(s) of a set with one tuple, or none -/
namespace L2
open PySem PySem.Spec PyProof.Rows SrtO
section
variable {P : Program} {w : World} {A : Around} {E : Value → Shared → Prop} {s : Shared}
theorem perm_one {α : Type} {l m : List α} (p : l.Perm m) (h : m.length ≤ 1) : l = m := by
  match m, h with
  | [], _ => exact p.eq_nil
  | [x], _ => exact List.perm_singleton.mp p
theorem swo_none {α : Type} : Swo fun (_ _ : α) => false := ⟨fun _ _ _ => rfl, fun _ _ _ _ _ => rfl⟩
theorem sorted_setOne {a : Addr} {L : List (Addr × List Int)} {es : Array (Int × Value)} {ep : Nat} {t : SetTable} {Q : Value → Shared → Prop} (R : SetTR P w s.heap a L es ep t) (hh : A.handled = none) (one : L.length ≤ 1)
    (won : ∀ s' p c, (∀ b o, s.heap.get? b = some o → s'.heap.get? b = some o) → s'.gens = s.gens → s'.os = s.os → s.heap.objs.size ≤ p → s'.heap.get? p = some (seqObj "list" (L.map fun q => Value.ref q.1).toArray c) → Q (.ref p) s') :
    wpAny (model P w) A (call (.builtin "sorted") [.ref a]) Q E s := by
  obtain ⟨o, ho, hex, hd⟩ := R.ob
  have size := R.size
  refine Calls.call_function_entry kind_sorted plain_sorted entry_sorted (args_sorted1 _) ?_
  unfold Builtin.«sorted»
  refine wpAny_bind (m := checkCount "sorted" 1 1 _) (wpAny_pure ?_)
  refine wpAny_bind (collect_set (A := A.in1) hh ⟨o, ho, hex.1, hd⟩ R.fits (by unfold scanBound; omega) R.tab.ris R.led fun s1 vs keep bigger hg hos pm => ?_)
  have vals : es.toList.map (·.2) = L.map fun q => Value.ref q.1 := by
    rw [R.rows]
    unfold rowsOf
    rw [List.map_map] <;> rfl
  have evs : vs = L.map fun q => Value.ref q.1 := by
    rw [vals] at pm
    exact perm_one pm (by rw [List.length_map]; exact one)
  subst evs
  have lz : (L.map fun q => Value.ref q.1).length ≤ sizeLine := by rw [List.length_map, sizeLine_eq]; omega
  refine wpAny_bind (wpAny_newList ?_ lz)
  have new : (s1.heap.push (seqObj "list" (L.map fun q => Value.ref q.1).toArray 0)).get? s1.heap.objs.size = some (seqObj "list" (L.map fun q => Value.ref q.1).toArray 0) := Heap.get?_push_size _ rfl
  refine wpAny_bind (wpAny_holding (wpAny_call_entry slot_list_sort ⟨_, new, rfl⟩ entry_list_sort
    (list_sort_ord (s := { s1 with heap := s1.heap.push (seqObj "list" (L.map fun q => Value.ref q.1).toArray 0) }) swo_none new lz (fun h => absurd h (by rw [List.length_map]; omega)) fun out h1 h2 => ⟨_, rfl, ?_⟩) (args_list_sort _)))
  have eo : out = L.map fun q => Value.ref q.1 := perm_one h2.perm (by rw [List.length_map]; exact one)
  subst eo
  obtain ⟨c, hc⟩ := sortedHeap_at (vs := L.map fun q => Value.ref q.1) (out := (L.map fun q => Value.ref q.1).toArray) new
  refine wpAny_pure ⟨_, rfl, won _ s1.heap.objs.size c (fun b u e => ?_) hg hos bigger hc⟩
  have lt := Heap.lt_size (keep b u e)
  have q := Heap.get?_push_of_some (seqObj "list" (L.map fun q => Value.ref q.1).toArray 0) (keep b u e)
  rw [← sortedHeap_old (vs := L.map fun q => Value.ref q.1) (out := (L.map fun q => Value.ref q.1).toArray) (Nat.ne_of_lt lt) (by rw [size_push']; exact Nat.lt_succ_of_lt lt)] at q
  exact q
end
section
variable {X : Cx}
def rSortedOne (K : PySem.W.Frag) (P : Program) (w : World) : List V → Hp → VK → Prop := fun vs H Q => ∃ (a : Addr) (L : List (Addr × List Int)), vs = [V.ref a] ∧ H a = some (SetTO P w a L) ∧ (∀ p ∈ L, SqT K H p.1 (p.2.map V.int)) ∧ (∀ p ∈ L, p.2 = []) ∧
  ((L.map (·.2)).Nodup → L.length ≤ 1 → ∀ p, H p = none → Q (.ref p) (upd H p (.lst (L.map fun q => V.ref q.1))))
theorem nils_one : ∀ {L : List (Addr × List Int)}, (L.map (·.2)).Nodup → (∀ p ∈ L, p.2 = []) → L.length ≤ 1
  | [], _, _ => Nat.zero_le _
  | [p], _, _ => Nat.le_refl _
  | p :: q :: L, nd, e => by
    have h1 := e p List.mem_cons_self
    have h2 := e q (List.mem_cons_of_mem _ List.mem_cons_self)
    have h3 := (List.nodup_cons.mp nd).1
    exact absurd (show p.2 ∈ (q :: L).map (·.2) by rw [List.map_cons, h1, h2]; exact List.mem_cons_self) h3
theorem cr_sortedOne (hc : X.calm = true) : CallR X (.builtin "sorted") (rSortedOne X.K X.prog X.w) := by
  rintro pins s σ H vs us Q I r ⟨a, L, rfl, ha, keys, nils, won⟩
  obtain ⟨es, ep, t, R⟩ := SetT0.full (show SetT0 X.prog X.w s.heap a L from (I.hok a _ ha).1) fun p hp => I.isT (keys p hp)
  have one := nils_one R.nd nils
  rw [Vals.ref1 r]
  refine sorted_setOne R (I.ok.hd hc) one fun s' p c keep hg hos le at' => ?_
  have new : H p = none := I.hok.fresh le
  have J : Inv X pins σ (upd H p (.lst (L.map fun q => V.ref q.1))) { s with heap := s'.heap, gens := s'.gens, drawn := s'.drawn, toks := s'.toks } := by
    refine I.call (ch := []) (Un.laid keep le new) (I.hok.laid keep le ⟨?_, _, c, vals_of_refs L, at'⟩) (by rw [hg]; exact I.bare) fun _ z => nomatch z
    rw [List.length_map, sizeLine_eq]
    omega
  have e : s' = { s with heap := s'.heap, gens := s'.gens, drawn := s'.drawn, toks := s'.toks } := by
    cases s'; cases s; cases hos; rfl
  rw [e]
  exact ⟨.ref p, _, J, rfl, won R.nd one p new⟩
end
end L2

set_option Elab.async false
set_option linter.all false
set_option maxRecDepth 100000
set_option maxHeartbeats 2000000
/-! len(o) by an own __len__ -/
namespace L2
open PySem PySem.Spec PyProof.Rows
section
variable {X : Cx} {CX : CXT} {k : Nat} {f C : Addr} {fd : FuncData} {ps : List Str} {sp : Sp} {E : XK}
def rLenO (C : Addr) (sp : Sp) (E : XK) : List V → Hp → VK → Prop := fun vs H Q => ∃ a dx fs, vs = [.ref a] ∧ H a = some (.ins C dx fs) ∧ sp [.ref a] H (fun v H' => ∃ n : Nat, v = .int n ∧ n < 2 ^ 62 ∧ Q (.int n) H') E
theorem call_lenO (F : FnOk X.prog X.w X.K X.mg X.base CX k f fd ps sp) (hr : Room (k + 1) X.A) (hs : PySem.W.findIn X.K (.ref C) "__len__" = some (some (.ref f))) (hf : PySem.W.isFn X.K (.ref f) = true) (hb : Binds X.K fd ps []) (hx : Passes CX X E) :
    CallR X (.builtin "len") (rLenO C sp E) := by
  rintro pins s σ H vs us Q I r ⟨a, dx, fs, rfl, ha, hsp⟩
  rw [Vals.ref1 r]
  obtain ⟨mA, J, _⟩ := ins_get I.hok ha
  obtain ⟨od, J, _⟩ := J.look
  obtain ⟨m, hF⟩ := I.fr
  refine PySem.W.len_K hF I.ok.mod.kin J hs hf ?_
  have sub : Sub X k X.A.in1 := Sub.in1 ⟨hr, rfl⟩
  have e0 : Env0 X.prog X.w X.K X.mg X.base X.A.in1 X.stack s H := by
    have e := I.env0
    exact ⟨by rw [sub.fr]; exact e.frames, e.mod, e.bs, e.bsz, e.funs, e.frf, e.hok, e.bare⟩
  have hl := F.len _ _ _ _ hsp
  refine wpAny_call (codeAny_mono (F.run X.A.in1 X.stack s H ⟨[.ref a], []⟩ [.ref a] [.ref a] _ E sub.room e0 (by
    have z := hb s [.ref a] I.kIn (by simpa using hl)
    simpa using z) (.cons rfl .nil) hsp) fun r s' hq => ?_)
  cases r with
  | error e => exact hx pins σ H s e s' I hq
  | ok fl =>
    cases fl with
    | ret w =>
      obtain ⟨z, H', I', rz, n, ez, hn, q⟩ := I.after hq
      subst ez
      obtain ⟨t, rfl⟩ := rz
      refine ⟨⟨Int.natCast_nonneg n, by omega⟩, .int n, H', I'.tok _, ⟨_, rfl⟩, q⟩
    | next => exact False.elim hq
    | brk => exact False.elim hq
    | cont => exact False.elim hq
end
end L2

set_option Elab.async false
set_option linter.all false
set_option maxRecDepth 100000
set_option maxHeartbeats 2000000
/-! values of any kind asked for their class; instances of an own class -/
namespace Sx
open PySem L2
/-- an own class whose instances are asked with isinstance -/
structure OwnK (K : PySem.W.Frag) (C : Addr) : Prop where
  cl : Cls K C
  co : PySem.W.findIn K (.ref C) "__class__" = some (some (.builtin "object.__class__"))
  s1 : PySem.W.specialIn K (.builtin "object.__class__") "__get__" = some (some (.builtin "getset_descriptor.__get__"))
  s2 : PySem.W.takesIn K (.builtin "object.__class__") = some true
  mo : PySem.W.mroIn K C (.type "object") = some true
  is : PySem.W.subIn K (.ref C) (.ref C) = some true
  ni : PySem.W.subIn K (.ref C) (.type "int") = some false
  nb : PySem.W.subIn K (.ref C) (.type "bool") = some false
  nt : PySem.W.subIn K (.ref C) (.type "tuple") = some false
  ns : PySem.W.subIn K (.ref C) (.type "str") = some false
  nl : PySem.W.subIn K (.ref C) (.type "list") = some false
theorem u1 {k : Nat} {A : Around} (r : Room k A) : A.units + 1 < cLine := by
  have := r.units
  omega
/-- isinstance(v, T) is b -/
def IsIn (K : PySem.W.Frag) (H : Hp) (v : V) (T : String) (b : Bool) : Prop := ∃ ty, KX K H v ty ∧ PySem.W.kitOne K ty (.type T) = some b
section
variable {K : PySem.W.Frag} {H H' : Hp} {B : Addr → Prop} {v : V} {Q : VK} {C : Addr}
theorem isi_in {T : String} {b : Bool} (h : IsIn K H v T b) (q : Q (.bl b) H) : rIsiV K [v, .ty T] H Q := by
  obtain ⟨ty, k, e⟩ := h
  exact ⟨v, .ty T, ty, .type T, b, rfl, .ty T, k, e, q⟩
theorem OwnK.ty (o : OwnK K C) {a dx : Addr} {fs : List (Str × V)} (h : H a = some (.ins C dx fs)) : KX K H (.ref a) (.ref C) := .inl (.base (.ins h o.cl o.co o.s1 o.s2 o.mo))
theorem OwnK.isin (o : OwnK K C) {a dx : Addr} {fs : List (Str × V)} (h : H a = some (.ins C dx fs)) {T : String} {b : Bool} (e : PySem.W.subIn K (.ref C) (.type T) = some b) (m : PySem.W.kitMeta T = true) : IsIn K H (.ref a) T b :=
  ⟨_, o.ty h, kit_exc e m⟩
/-- isinstance(o, C), o one of C's -/
theorem OwnK.own (o : OwnK K C) {a dx : Addr} {fs : List (Str × V)} (h : H a = some (.ins C dx fs)) (q : Q (.bl true) H) : rIsiV K [.ref a, .ref C] H Q := by
  refine ⟨.ref a, .ref C, .ref C, .ref C, true, rfl, .own C, o.ty h, ?_, q⟩
  unfold PySem.W.kitOne
  rw [if_pos (beq_self_eq_true _)]
theorem in_int (i : Int) : IsIn K H (.int i) "int" true := ⟨_, .inl (.base (.int i)), kit_ty (by decide +kernel)⟩
theorem in_int_b (i : Int) : IsIn K H (.int i) "bool" false := ⟨_, .inl (.base (.int i)), kit_ty (by decide +kernel)⟩
theorem in_int_t (i : Int) : IsIn K H (.int i) "tuple" false := ⟨_, .inl (.base (.int i)), kit_ty (by decide +kernel)⟩
theorem in_int_l (i : Int) : IsIn K H (.int i) "list" false := ⟨_, .inl (.base (.int i)), kit_ty (by decide +kernel)⟩
theorem in_int_s (i : Int) : IsIn K H (.int i) "str" false := ⟨_, .inl (.base (.int i)), kit_ty (by decide +kernel)⟩
theorem in_tup {p : Addr} {xs : List V} (h : H p = some (.tup xs)) : IsIn K H (.ref p) "tuple" true := ⟨_, .inl (.base (.tup h)), kit_ty (by decide +kernel)⟩
theorem in_tup_i {p : Addr} {xs : List V} (h : H p = some (.tup xs)) : IsIn K H (.ref p) "int" false := ⟨_, .inl (.base (.tup h)), kit_ty (by decide +kernel)⟩
theorem in_tup_b {p : Addr} {xs : List V} (h : H p = some (.tup xs)) : IsIn K H (.ref p) "bool" false := ⟨_, .inl (.base (.tup h)), kit_ty (by decide +kernel)⟩
theorem in_tup_l {p : Addr} {xs : List V} (h : H p = some (.tup xs)) : IsIn K H (.ref p) "list" false := ⟨_, .inl (.base (.tup h)), kit_ty (by decide +kernel)⟩
theorem in_tup_s {p : Addr} {xs : List V} (h : H p = some (.tup xs)) : IsIn K H (.ref p) "str" false := ⟨_, .inl (.base (.tup h)), kit_ty (by decide +kernel)⟩
theorem in_lst {p : Addr} {xs : List V} (h : H p = some (.lst xs)) : IsIn K H (.ref p) "list" true := ⟨_, .inl (.base (.lst h)), kit_ty (by decide +kernel)⟩
theorem in_lst_t {p : Addr} {xs : List V} (h : H p = some (.lst xs)) : IsIn K H (.ref p) "tuple" false := ⟨_, .inl (.base (.lst h)), kit_ty (by decide +kernel)⟩
/-- asked for int and for bool -/
def NI (K : PySem.W.Frag) (H : Hp) (v : V) : Prop := ∃ b c, IsIn K H v "int" b ∧ IsIn K H v "bool" c ∧ (b && !c) = isI v
theorem ni_int (i : Int) : NI K H (.int i) := ⟨_, _, in_int i, in_int_b i, rfl⟩
theorem ni_kn (k : Kn K H B v) : NI K H v := by
  cases k with
  | non => exact ⟨false, false, ⟨_, .inl (.base .non), kit_ty (by decide +kernel)⟩, ⟨_, .inl (.base .non), kit_ty (by decide +kernel)⟩, rfl⟩
  | bl b => exact ⟨true, true, ⟨_, .inl (.base (.bl b)), kit_ty (by decide +kernel)⟩, ⟨_, .inl (.base (.bl b)), kit_ty (by decide +kernel)⟩, rfl⟩
  | int i => exact ni_int i
  | str s => exact ⟨false, false, ⟨_, .inl (.base (.str s)), kit_ty (by decide +kernel)⟩, ⟨_, .inl (.base (.str s)), kit_ty (by decide +kernel)⟩, rfl⟩
  | lst h _ => exact ⟨false, false, ⟨_, .inl (.base (.lst h)), kit_ty (by decide +kernel)⟩, ⟨_, .inl (.base (.lst h)), kit_ty (by decide +kernel)⟩, rfl⟩
  | tup h _ => exact ⟨_, _, in_tup_i h, in_tup_b h, rfl⟩
  | exc ha hd e _ _ => exact ⟨false, false, ⟨_, .inr ⟨_, _, _, _, rfl, rfl, ha, hd, e.ec⟩, kit_exc e.ni (by decide +kernel)⟩, ⟨_, .inr ⟨_, _, _, _, rfl, rfl, ha, hd, e.ec⟩, kit_exc e.nb (by decide +kernel)⟩, rfl⟩
theorem OwnK.ni' (o : OwnK K C) {a dx : Addr} {fs : List (Str × V)} (h : H a = some (.ins C dx fs)) : NI K H (.ref a) := ⟨_, _, o.isin h o.ni (by decide +kernel), o.isin h o.nb (by decide +kernel), rfl⟩
/-- the number that a value is -/
def num? (f : Int → Bool) : V → Bool | .int i => f i | _ => false
def isBit : V → Bool := num? fun i => decide (0 ≤ i) && decide (i ≤ 1)
theorem tyOf_same {t : Value} (e : Same H H') (h : TyOf K H v t) : TyOf K H' v t := by
  cases h with
  | non => exact .non
  | bl x => exact .bl x
  | int i => exact .int i
  | str x => exact .str x
  | flt x => exact .flt x
  | lst g => exact .lst (e _ _ g)
  | frz g => exact .frz (e _ _ g)
  | tup g => exact .tup (e _ _ g)
  | dK g => exact .dK (e _ _ g)
  | dT g => exact .dT (e _ _ g)
  | ins g cl ha hn htk hm => exact .ins (e _ _ g) cl ha hn htk hm
theorem tyX_same {t : Value} (e : Same H H') (h : TyX K H v t) : TyX K H' v t := by
  cases h with
  | base g => exact .base (tyOf_same e g)
  | byt b => exact .byt b
  | set g => exact .set (e _ _ g)
  | kList g c => exact .kList g c
  | kTuple g c => exact .kTuple g c
  | kDict g c => exact .kDict g c
  | fTuple g => exact .fTuple (e _ _ g)
  | fDict g => exact .fDict (e _ _ g)
theorem isIn_same {T : String} {b : Bool} (e : Same H H') (h : IsIn K H v T b) : IsIn K H' v T b := by
  obtain ⟨ty, k, z⟩ := h
  refine ⟨ty, k.elim (fun k => .inl (tyX_same e k)) fun ⟨a, C, d, fs, e1, e2, ha, hd, c⟩ => .inr ⟨a, C, d, fs, e1, e2, e _ _ ha, e _ _ hd, c⟩, z⟩
theorem ni_same (e : Same H H') (h : NI K H v) : NI K H' v := by
  obtain ⟨b, c, h1, h2, z⟩ := h
  exact ⟨b, c, isIn_same e h1, isIn_same e h2, z⟩
theorem s_chain {σ : St} {r r' : R2} {ta tb tc : TE} (h : ta σ H fun x H1 => tb σ H1 fun y H2 => r x y H2 fun z H3 => ∃ k, z = .bl k ∧ if k = true then tc σ H3 fun w H4 => r' y w H4 Q else Q (.bl false) H3) : tChain r r' ta tb tc σ H Q := h
theorem s_fldS {σ : St} {D : Ends} {ta tv : TE} {f : Str} (h : tv σ H fun y H1 => ta σ H1 fun x H2 => ∃ a C dx fs, x = .ref a ∧ H2 a = some (.ins C dx fs) ∧ Cls K C ∧ NoAttr K C f ∧ fs.length < 1000 ∧ D.nx σ (upd H2 a (.ins C dx (putF f y fs)))) : sFld K ta tv f D σ H := h
theorem r_put {x : V} {a dx : Addr} {fs : List (Str × V)} {f : Str} {y : V} {P : Hp → Prop} (e : x = .ref a) (h : H a = some (.ins C dx fs)) (c : Cls K C) (n : NoAttr K C f) (l : fs.length < 1000) (q : ∀ H2, Keep a H H2 → H2 a = some (.ins C dx (putF f y fs)) → P H2) :
    ∃ a C dx fs, x = .ref a ∧ H a = some (.ins C dx fs) ∧ Cls K C ∧ NoAttr K C f ∧ fs.length < 1000 ∧ P (upd H a (.ins C dx (putF f y fs))) := ⟨a, C, dx, fs, e, h, c, n, l, q _ (put_keep rfl) upd_same⟩
theorem s_fld {σ : St} {ta : TE} {f : Str} (h : ta σ H fun x H1 => ∃ a C dx fs v, x = .ref a ∧ H1 a = some (.ins C dx fs) ∧ Cls K C ∧ NoAttr K C f ∧ fs.lookup f = some v ∧ Q v H1) : tFld K ta f σ H Q := h
theorem r_get {x : V} {a dx : Addr} {fs : List (Str × V)} {f : Str} {v : V} {P : V → Prop} (e : x = .ref a) (h : H a = some (.ins C dx fs)) (c : Cls K C) (n : NoAttr K C f) (l : fs.lookup f = some v) (q : P v) :
    ∃ a C dx fs v, x = .ref a ∧ H a = some (.ins C dx fs) ∧ Cls K C ∧ NoAttr K C f ∧ fs.lookup f = some v ∧ P v := ⟨a, C, dx, fs, v, e, h, c, n, l, q⟩
theorem s_dIn {σ : St} {ty td : TE} (h : ty σ H fun y H1 => td σ H1 fun x H2 => ∃ a o, x = .ref a ∧ DGet H2 a y o ∧ Q (.bl o.isSome) H2) : tDIn ty td σ H Q := h
theorem s_dNotIn {σ : St} {ty td : TE} (h : ty σ H fun y H1 => td σ H1 fun x H2 => ∃ a o, x = .ref a ∧ DGet H2 a y o ∧ Q (.bl (!o.isSome)) H2) : tDNotIn ty td σ H Q := h
theorem s_sl {σ : St} {r : V → Option Int → Option Int → Hp → VK → Prop} {te : TE} {tl th : TO} (h : te σ H fun x H1 => tl σ H1 fun l H2 => th σ H2 fun u H3 => r x l u H3 Q) : tSl r te tl th σ H Q := h
theorem s_noPart {σ : St} {R : Option Int → Hp → Prop} (h : R none H) : tNoPart σ H R := h
theorem s_part {σ : St} {t : TE} {R : Option Int → Hp → Prop} (h : t σ H fun x H1 => ∃ i, x = .int i ∧ R (some i) H1) : tPart t σ H R := h
/-- t[:j], a part of it -/
theorem r_take {p : Addr} {xs : List V} {j : Nat} (h : H p = some (.tup xs)) (lt : j < xs.length) (q : ∀ p' H2, H p' = none → Same H H2 → H2 p' = some (.tup (xs.take j)) → Q (.ref p') H2) : rSlA K (.ref p) none (some (j : Int)) H Q := by
  refine ⟨p, xs, rfl, SqT.of h, fun z => ?_, fun _ p' np => q p' _ np (Sx.Same.new np) ?_⟩
  · have e := z.2
    rw [HT.sIx_nat] at e
    omega
  · rw [upd_same]
    unfold cutV
    rw [HT.sIx_nat, HT.sIx_none, Nat.min_eq_left (Nat.le_of_lt lt)]
    rfl
/-- t[j + 1:] -/
theorem r_drop {p : Addr} {xs : List V} {j : Nat} (h : H p = some (.tup xs)) (lt : j < xs.length) (q : ∀ p' H2, H p' = none → Same H H2 → H2 p' = some (.tup (xs.drop (j + 1))) → Q (.ref p') H2) : rSlA K (.ref p) (some ((j : Int) + 1)) none H Q := by
  have e1 : ((j : Int) + 1) = ((j + 1 : Nat) : Int) := by omega
  rw [e1]
  refine ⟨p, xs, rfl, SqT.of h, fun z => ?_, fun _ p' np => q p' _ np (Sx.Same.new np) ?_⟩
  · have e := z.1
    rw [HT.sIx_nat] at e
    omega
  · rw [upd_same]
    unfold cutV
    rw [HT.sIx_nat, HT.sIx_none, Nat.min_eq_left lt, List.take_of_length_le (by rw [List.length_drop]; omega)]
/-- t + u -/
theorem r_cat {a b : Addr} {xs ys : List V} (ha : H a = some (.tup xs)) (hb : H b = some (.tup ys)) (sz : xs.length + ys.length ≤ sizeLine) (q : ∀ p H2, Same H H2 → H2 p = some (.tup (xs ++ ys)) → Q (.ref p) H2) : rCatA K (.ref a) (.ref b) H Q := by
  refine ⟨a, b, xs, ys, rfl, rfl, SqT.of ha, SqT.of hb, sz, fun e => q b H (L2.Same.refl _) ?_, fun _ e => q a H (L2.Same.refl _) ?_, fun _ _ p np => q p _ (Sx.Same.new np) upd_same⟩
  · rw [e]
    exact hb
  · rw [e, List.append_nil]
    exact ha
theorem s_meth {σ : St} {C : Addr} {m : Str} {sp : Sp} {dvs : List V} {E : XK} {ta : TE} {t : TA} (h : ta σ H fun x H1 => ∃ a dx fs, x = .ref a ∧ H1 a = some (.ins C dx fs) ∧ fs.lookup m = none ∧ t σ H1 fun vs H2 => sp (x :: (vs ++ dvs)) H2 Q E) : tMeth C m sp dvs E ta t σ H Q := h
theorem s_make {σ : St} {C : Addr} {sp : Sp} {dvs : List V} {E : XK} {t : TA} (h : t σ H fun vs H1 => ∀ x dx, H1 x = none → H1 dx = none → dx ≠ x → sp (.ref x :: (vs ++ dvs)) (upd (upd H1 dx (.own x)) x (.ins C dx [])) (fun v H2 => v = .non ∧ Q (.ref x) H2) E) : tMake C sp dvs E t σ H Q := h
theorem in_of {T : String} {b : Bool} (h : rIsiV K [v, .ty T] H fun z _ => z = .bl b) : IsIn K H v T b := by
  obtain ⟨x, c, t, u, b', e, kc, kx, ke, hb⟩ := h
  cases e
  cases kc
  cases hb
  exact ⟨t, kx, ke⟩
theorem in_iK (k : Kn K H B v) : IsIn K H v "int" (isI v || isB v) := in_of (c_isiI k rfl)
theorem in_bK (k : Kn K H B v) : IsIn K H v "bool" (isB v) := in_of (c_isiB k rfl)
theorem in_sK (k : Kn K H B v) : IsIn K H v "str" (isS v) := in_of (c_isiS k rfl)
theorem in_tK (k : Kn K H B v) : IsIn K H v "tuple" (isT H v) := in_of (c_isiT k rfl)
theorem in_lK (k : Kn K H B v) : IsIn K H v "list" (isL H v) := in_of (c_isiL k rfl)
theorem r_isN {x : V} (q : Q (.bl (decide (x = .non))) H) : V.non = V.non ∧ Q (.bl (decide (x = .non))) H := ⟨rfl, q⟩
theorem s_yes {σ : St} {R : Bool → Hp → Prop} (h : R true H) : tYes σ H R := h
theorem r_len {p : Addr} {xs : List V} (h : H p = some (.tup xs)) (q : Q (.int xs.length) H) : ∃ x n, [V.ref p] = [x] ∧ LenV K x H n ∧ Q (.int n) H := ⟨_, _, rfl, .inr ⟨xs, SqT.of h, rfl⟩, q⟩
end
end Sx

set_option Elab.async false
set_option linter.all false
set_option maxRecDepth 100000
set_option maxHeartbeats 2000000
/-! a == b by an own __eq__, where an error is handled -/
namespace L2
open PySem PySem.Spec PyProof.Rows
section
variable {X : Cx} {CX : CXT} {k : Nat} {f C : Addr} {fd : FuncData} {ps : List Str} {sp : Sp} {E : XK}
def rEqOwn (C : Addr) (sp : Sp) (E : XK) : R2 := fun x y H Q => ∃ a b dx dy fs gs, x = .ref a ∧ y = .ref b ∧ H a = some (.ins C dx fs) ∧ H b = some (.ins C dy gs) ∧ sp [.ref a, .ref b] H (fun v H' => v = .bl true ∧ Q v H') E
theorem op_eqOwnH (F : L2H.FnH X.prog X.w X.K X.mg X.base CX k f fd ps sp) (hr : L2H.RoomH k X.A) (hc : L2H.HotC X) (hs : PySem.W.findIn X.K (.ref C) "__eq__" = some (some (.ref f))) (hf : PySem.W.isFn X.K (.ref f) = true) (hb : Binds X.K fd ps [])
    (hx : ∀ σ, PassesAt CX X σ E) : OpR X (compareOp .Eq) (rEqOwn C sp E) := by
  rintro pins s σ H x y v u Q I rx ry ⟨a, b, dx, dy, fs, gs, rfl, rfl, ha, hb', q⟩
  cases rx
  cases ry
  obtain ⟨mA, J, _⟩ := ins_get I.hok ha
  obtain ⟨mB, J', _⟩ := ins_get I.hok hb'
  obtain ⟨od, J, _⟩ := J.look
  obtain ⟨od', J', _⟩ := J'.look
  obtain ⟨m, hF⟩ := I.fr
  have hu : X.A.units < cLine := by have := hr.un; omega
  show wpAny (model X.prog X.w) X.A (richCompare .Eq (.ref a) (.ref b)) (EP X pins σ Q) X.xe s
  refine PySem.W.cmp_K (op := .Eq) (tb := .ref C) hu hF I.ok.mod.kin J J'.type (by simp [PySem.W.notFirst]) hs hf ?_
  refine wpAny_mono (L2H.run_fnH (E := fun _ => E) F hr hc hb (hx σ) I (.cons (a := V.ref a) rfl (.cons (a := V.ref b) rfl .nil)) q) (fun r s' z => ?_) fun _ _ z => z
  obtain ⟨v, H', I', rv, ev, q'⟩ := z
  subst ev
  cases rv
  exact ⟨.bl true, H', I', rfl, q'⟩
end
end L2

set_option Elab.async false
set_option linter.all false
set_option maxRecDepth 100000
set_option maxHeartbeats 3200000
/-! enumerate of a tuple -/
namespace PySem
open Sem (wp)
set_option maxHeartbeats 1000000 in
theorem enum1_new {v : Value} {o : Obj} {G : Heap → Prop} (B : Begins v o G) :
    Meets (Builtin.«enumerate.__new__» ⟨[.type "enumerate", v], []⟩) (fun _ R s => G s.heap ∧ R (.ok (.ret (.ref (s.heap.push o).objs.size)))
      { s with heap := (s.heap.push o).push { cls := .type "enumerate", data := .fields #[.none, .bool false, .ref s.heap.objs.size, rawInt 0, .none, .none] } }) :=
  .of_wp fun P w A R s0 z => by
    obtain ⟨hp, gs, dr, tk, os⟩ := s0; obtain ⟨z1, z⟩ := z
    have sube := sub_enumerate
    have qi : ∀ {A' : Around} {E' : Value → Shared → Prop} {Q' : Value → Shared → Prop}, Q' (.ref hp.objs.size) ⟨hp.push o, gs, dr, tk, os⟩ → wpAny (model P w) A' (pyIter v) Q' E' ⟨hp, gs, dr, tk, os⟩ := fun q => B.iter P w _ _ ⟨hp, gs, dr, tk, os⟩ _ z1 q
    wp_walk using qi
    (refine wpAny_stack_any fun st => wpAny_pure ?_; split)
    · rename_i c _ _ _ _ _
      (generalize (c == Value.type "enumerate") = same; cases same) <;> (wp_walk using qi; exact ⟨_, rfl, z⟩)
    · (wp_walk using qi; exact ⟨_, rfl, z⟩)
theorem enum1_call {P : Program} {w : World} {A : Around} {E : Value → Shared → Prop} {s : Shared} {v : Value} {o : Obj} {G : Heap → Prop} {Q : Value → Shared → Prop} (B : Begins v o G) (g : G s.heap)
    (q : ∀ h', IsEnum h' (s.heap.objs.size + 1) s.heap.objs.size 0 .none → h'.get? s.heap.objs.size = some o → h'.objs.size = s.heap.objs.size + 2 → (∀ b o', s.heap.get? b = some o' → h'.get? b = some o') → Q (.ref (s.heap.objs.size + 1)) { s with heap := h' }) :
    wpAny (model P w) A (call (.type "enumerate") [v]) Q E s := by
  refine callType_new F.called_enumerate (by decide) (F.typeCall_enumerate_1 _) (F.newCall_enumerate_1 _) (fun ob => F.args_object_init_2 ob _) F.entry_enumerate_new (enum1_new B) ⟨g, ?_⟩
  have sz : (s.heap.push o).objs.size = s.heap.objs.size + 1 := Heap.size_push ..
  have e := Heap.get?_push_size (s.heap.push o) (o := { cls := .type "enumerate", data := .fields #[.none, .bool false, .ref s.heap.objs.size, rawInt 0, .none, .none] }) rfl
  rw [sz] at e
  show _ ∧ _
  rw [sz]
  exact ⟨⟨_, e, rfl⟩, q _ e (Heap.get?_push_of_some _ (Heap.get?_push_size _ B.free)) (by rw [Heap.size_push, sz]) fun b o' z => Heap.get?_push_of_some _ (Heap.get?_push_of_some _ z)⟩
end PySem
namespace L2
open PySem PySem.Spec PyProof.Rows
/-- the tuple at a, each item in a new pair with its number -/
def IteT (K : PySem.W.Frag) (a : Addr) : It :=
  ⟨fun i H => ∃ (xs : List V) (x : V), SqT K H a xs ∧ xs[i]? = some x, fun i H v H' => ∃ T x, v = .ref T ∧ H T = none ∧ H' = upd H T (.tup [.int (i : Nat), x]) ∧ ∀ xs, SqT K H a xs → xs[i]? = some x, fun i H => ∃ xs : List V, SqT K H a xs ∧ xs.length = i⟩
theorem turn_enumT {P : Program} {w : World} {K : PySem.W.Frag} {elts : List Expr} {kk : Nat} {tpos : Pos} (a e it : Addr) :
    Turn P w K (.Tuple elts kk tpos) (IteT K a) [e, it] e (fun i h => (∃ old, IsEnum h e it ((i : Nat) : Int) old) ∧ h.IsTupleIter it a i ∧ e ≠ it) where
  mem := by simp
  obj := fun i h st b hb => by
    obtain ⟨⟨old, he⟩, ⟨o, ho, hc, hd⟩, _⟩ := st
    have two : b = e ∨ b = it := by simpa using hb
    rcases two with rfl | rfl
    · exact ⟨_, he, fun v q => nomatch q⟩
    · exact ⟨o, ho, fun v q => by rw [hd] at q; cases q⟩
  keep := fun i h h' st k => ⟨st.1.elim fun old he => ⟨old, k e (by simp) _ he⟩, st.2.1.at fun o q => k it (by simp) o q, st.2.2⟩
  item := by
    intro X hP hw hK hc i pins s σ H E I hf st hg
    (subst hP; subst hw; subst hK)
    obtain ⟨⟨old, he⟩, hit, ne⟩ := st
    obtain ⟨xs, x, hx0, hx⟩ := hg
    obtain ⟨us, rv, tp, tz⟩ := I.tuple hx0
    obtain ⟨u, hu, ru⟩ := rv.get hx
    have le : e < s.heap.objs.size := Heap.lt_size he
    have li : it < s.heap.objs.size := by obtain ⟨_, q, _⟩ := hit; exact Heap.lt_size q
    have ne2 : a ≠ it := fun z => by
      obtain ⟨o1, q1, c1, _⟩ := hit
      obtain ⟨o2, q2, c2, _⟩ := (show s.heap.IsTuple a us.toArray from tp)
      rw [z, q1] at q2
      cases q2
      rw [c1] at c2
      injection c2 with c3
      exact absurd c3 (by decide)
    have ne3 : e ≠ a := fun z => by
      obtain ⟨o2, q2, c2, _⟩ := (show s.heap.IsTuple a us.toArray from tp)
      rw [← z, he] at q2
      cases q2
      injection c2 with c3
      exact absurd c3 (by decide)
    have D := Draws.tuple (prog := X.prog) (w := X.w) (A := X.A.in1) (by simp [I.ok.hd hc]) it a ne2 us.toArray
    have lt : i < us.toArray.size := by
      have := (List.getElem?_eq_some_iff.mp hu).1
      simpa using this
    refine wpAny_pyNext_enum_itemC (D := D) he ⟨hit, tp⟩ lt ne (by simp [ne, ne3]) fun y h' tk hy ho st' hT hsz hk => ?_
    have ey : y = u := by
      have z : us.toArray[i]? = some y := hy
      simp [hu] at z
      exact z.symm
    subst ey
    refine ⟨_, rfl, wpAny_letOwnedTupleGo_enum (s := { s with heap := h', toks := tk + 1 }) ho fun h2 he2 sb => ?_⟩
    have hT2 : h2.get? s.heap.objs.size = some { cls := .type "tuple", data := .seq #[.int i tk, y] } := (sb.2 _ (Nat.ne_of_gt le)).trans hT
    have new : ObjOk X.prog X.w (upd H s.heap.objs.size (.tup [.int (i : Nat), x])) h2 s.heap.objs.size (.tup [.int (i : Nat), x]) :=
      ⟨by show 2 ≤ sizeLine; decide, [.int i tk, y], .cons ⟨_, rfl⟩ (.cons ru .nil), ⟨_, hT2, rfl, _, rfl⟩⟩
    have I1 : Inv X pins σ (upd H s.heap.objs.size (.tup [.int (i : Nat), x])) { s with heap := h2, toks := tk + 1 } :=
      I.turnedNew (ch := [e, it]) (fun b ob hb q => (sb.2 b (fun z => hb (by simp [z]))).trans (hk b ob (fun z => hb (by simp [z])) (fun z => hb (by simp [z])) q)) hf (Nat.le_refl _) new
    refine ⟨.ref s.heap.objs.size, _, I1, rfl, ⟨_, x, rfl, I.hok.fresh (Nat.le_refl _), rfl, fun ys hy' => by rw [I.tuple_inj hy' hx0]; exact hx⟩, ⟨⟨y, ?_⟩, st'.1.at fun o q => (sb.2 it (Ne.symm ne)).trans q, ne⟩, fun b hb => ?_⟩
    · rw [show ((i + 1 : Nat) : Int) = (i : Int) + 1 by omega]
      exact he2
    · have lb : b < s.heap.objs.size := by
        have two : b = e ∨ b = it := by simpa using hb
        rcases two with rfl | rfl
        · exact le
        · exact li
      rw [upd_ne (Nat.ne_of_lt lb)]
      exact (hf b hb).1
  done := by
    intro X hP hw hK hc i pins s σ H E I hf st hg
    (subst hP; subst hw; subst hK)
    obtain ⟨⟨old, he⟩, hit, ne⟩ := st
    obtain ⟨xs, hx0, hx⟩ := hg
    obtain ⟨us, rv, tp, tz⟩ := I.tuple hx0
    have ne2 : a ≠ it := fun z => by
      obtain ⟨o1, q1, c1, _⟩ := hit
      obtain ⟨o2, q2, c2, _⟩ := (show s.heap.IsTuple a us.toArray from tp)
      rw [z, q1] at q2
      cases q2
      rw [c1] at c2
      injection c2 with c3
      exact absurd c3 (by decide)
    have D := Draws.tuple (prog := X.prog) (w := X.w) (A := X.A.in1) (by simp [I.ok.hd hc]) it a ne2 us.toArray
    obtain ⟨f0, f1, f2, f3, f4, f5⟩ := hf it (by simp)
    have en : us.toArray.size = i := by
      have := rv.length
      simp
      omega
    refine wpAny_pyNext_enum_endD (D := D) he (by rw [en]; exact ⟨hit, tp⟩) fun h' eb => ⟨rfl, I.turned (t' := s.toks) (fun b o hb q => eb b o hb q) f0 f1 f3 f4 f5⟩
  self := fun A i s Q E st h => st.1.elim fun _ he => wpAny_pyIter_enum he h
def iEnumT (K : PySem.W.Frag) (ta : TA) : TI := fun σ H R => ta σ H fun vs H1 => ∃ a xs, vs = [.ref a] ∧ SqT K H1 a xs ∧ R (IteT K a) H1
theorem pi_enumT {X : Cx} {e : Expr} {ta : TA} {p pos tpos : Pos} {elts : List Expr} {kk : Nat} (hg : Gl X "enumerate") (hm : X.mg "enumerate" = none) (ha : PA X [e] ta) (hs : starEach [e] X.env = [(false, eval e X.env)] := by rfl) :
    PI X (.Tuple elts kk tpos) (.Call (.Name "enumerate" p) [e] [] pos) (iEnumT X.K ta) := ⟨fun pins s σ H R I h => by
  refine Call_ (ld_blt I hg hm boot_enumerate (PyProof.Rows.callWith_type1 (thn (ha.run pos pins s σ H _ I h) fun us s1 ⟨vs, H1, I1, r1, q1⟩ => ?_) hs rfl))
  obtain ⟨a, xs, rfl, hq, q⟩ := q1
  rw [Vals.ref1 r1]
  obtain ⟨its, rv, tp, hz⟩ := I1.tuple hq
  refine enum1_call (begins_tuple a its.toArray) tp fun h' he hit hsz hk => wpAny_pyIter_enum he ?_
  have I2 : Inv X pins σ H1 { s1 with heap := h' } := I1.kept (t' := s1.toks) hk
  refine ⟨s1.heap.objs.size + 1, [s1.heap.objs.size + 1, s1.heap.objs.size], _, _, H1, rfl, I2, turn_enumT a (s1.heap.objs.size + 1) s1.heap.objs.size, ⟨⟨.none, he⟩, ⟨_, hit, rfl, rfl⟩, Nat.succ_ne_self _⟩, fun b hb => ?_, q⟩
  have two : b = s1.heap.objs.size + 1 ∨ b = s1.heap.objs.size := by simpa using hb
  have le : s1.heap.objs.size ≤ b := by
    rcases two with rfl | rfl
    · exact Nat.le_succ _
    · exact Nat.le_refl _
  exact I1.fpOk le (I1.hok.fresh le)⟩
section
variable {K : PySem.W.Frag} {a : Addr} {xs : List V}
theorem walk_enumT : Walk (IteT K a) xs.length (fun H => SqT K H a xs) (YPair (fun i => some (.int (i : Nat))) (fun i => xs[i]?)) := by
  refine ⟨fun i _ hi q => ⟨xs, xs[i], q, by simp [hi]⟩, fun _ q => ⟨xs, q, rfl⟩, fun i H v H' _ q y => ?_⟩
  obtain ⟨T, x, h1, h2, h3, h4⟩ := y
  exact ⟨T, .int (i : Nat), x, h1, h2, h3, rfl, h4 xs q⟩
/-- a dict comprehension over any walk -/
theorem dcp_it {J : It} {n : Nat} {G : Hp → Prop} {Y : Nat → Hp → V → Hp → Prop} (wk : Walk J n G Y) {u0 : HO} {g : TG} {tt : TT} {tk tv : TE} {vs : List Nat} {σ : St} {H1 : Hp} {D : Addr} {Qd : Hp → Prop} (Pv : Nat → Hp → Prop) (h0 : Pv 0 (upd H1 D u0)) (hG : ∀ i H, i ≤ n → Pv i H → G H)
    (hs : ∀ i x H H', i < n → Pv i H → Y i H x H' → g x (wipe σ vs) H' fun σ2 H2 => wipe σ2 vs = wipe σ vs ∧ tt σ2 H2 fun b H3 => if b = true then tk σ2 H3 fun y H4 => tv σ2 H4 fun z H5 => ∃ H6, DPut H5 D y z H6 ∧ Pv (i + 1) H6 else Pv (i + 1) H3) (hd : ∀ H, Pv n H → Qd H) :
    ∃ W : Nat → Nat → Hp → Prop, (∃ m, W 0 m (upd H1 D u0)) ∧ ∀ i m H2, W i m H2 → (J.stop i H2 ∧ Qd H2) ∨ (J.go i H2 ∧ ∃ Nx : Hp → Prop, (∀ H', Nx H' → ∃ m', m' < m ∧ W (i + 1) m' H') ∧ ∀ x H3, J.yld i H2 x H3 → g x (wipe σ vs) H3 fun σ2 H4 => wipe σ2 vs = wipe σ vs ∧ tt σ2 H4 fun b H5 =>
      if b = true then tk σ2 H5 fun y H6 => tv σ2 H6 fun z H7 => ∃ H8, DPut H7 D y z H8 ∧ Nx H8 else Nx H5) := by
  refine ⟨fun i m H => m = n - i ∧ i ≤ n ∧ Pv i H, ⟨n, by simp, Nat.zero_le _, h0⟩, ?_⟩
  rintro i m H ⟨rfl, hi, p⟩
  have q := hG i H hi p
  by_cases lt : i < n
  · exact .inr ⟨wk.goes i H lt q, Pv (i + 1), fun H' p' => ⟨n - (i + 1), by omega, rfl, lt, p'⟩, fun x H' y => hs i x H H' lt p (wk.yields i H x H' lt q y)⟩
  · have e : i = n := by omega
    subst e
    exact .inl ⟨wk.stops H q, hd H p⟩
end
end L2

set_option Elab.async false
set_option linter.all false
set_option maxRecDepth 100000
set_option maxHeartbeats 2000000
/-! t[::-1], t a tuple -/
namespace TV
open PySem PySem.Spec PyProof.Rows HT
section
variable {prog : Program} {w : World} {A : Around} {E : Value → Shared → Prop} {s : Shared}
theorem back_adjust (n : Nat) : Builtin.Slice.sliceAdjust none none (-1) (n : Int) = ((n : Int) - 1, -1) := by
  unfold Builtin.Slice.sliceAdjust
  have h1 : ((-1 : Int) < 0) := by omega
  simp only [h1, if_true]
theorem back_places (n : Nat) : Builtin.Slice.slicePlaces ((n : Int) - 1) (-1) (-1) = n := by
  unfold Builtin.Slice.slicePlaces
  have h1 : ¬ ((-1 : Int) > 0) := by omega
  have e : (- (-1) : Int) = 1 := by omega
  simp only [h1, if_false, e, Int.ediv_one]
  split <;> omega
theorem back_pick (xs : Array Value) : ((List.range xs.size).filterMap fun (k : Nat) => xs[(((xs.size : Int) - 1) + (k : Int) * (-1)).toNat]?).toArray = xs.toList.reverse.toArray := by
  rw [← PySem.W.krv_pick]
  unfold slicePick
  rw [PySem.W.krv_bounds]
  show _ = ((sliceRange ((xs.size : Int) - 1) (-1) (-1)).filterMap (xs[·]?)).toArray
  rw [PySem.W.krv_sliceRange, List.filterMap_map]
  have cg : ∀ (L : List Nat) (f g : Nat → Option Value), (∀ k ∈ L, f k = g k) → L.filterMap f = L.filterMap g := fun L f g h => by
    induction L with
    | nil => rfl
    | cons x L ih => rw [List.filterMap_cons, List.filterMap_cons, h x List.mem_cons_self, ih fun k hk => h k (List.mem_cons_of_mem _ hk)]
  refine congrArg List.toArray (cg _ _ _ fun k hk => ?_)
  have l := List.mem_range.mp hk
  have e : (((xs.size : Int) - 1) + (k : Int) * (-1)).toNat = xs.size - 1 - k := by omega
  show xs[(((xs.size : Int) - 1) + (k : Int) * (-1)).toNat]? = xs[xs.size - 1 - k]?
  rw [e]
theorem back_applied {sl : Addr} {vl vu vs : Value} {n : Nat} {Q : Int × Int × Nat → Shared → Prop} (hs : s.heap.IsSliceOf sl vl vu vs) (pl : IsPart vl none) (pu : IsPart vu none) (ps : IsPart vs (some (-1)))
    (h : Q ((n : Int) - 1, -1, n) s) : wpAny (model prog w) A (Builtin.Slice.sliceApplied (.ref sl) (pure (n : Int))) Q E s := by
  obtain ⟨os, hos, hcs, hds⟩ := id hs
  unfold Builtin.Slice.sliceApplied Builtin.Slice.sliceFields
  refine wpAny_bind (wpAny_bind (wpAny_field hos hds (x := vl) rfl (wpAny_bind (wpAny_field hos hds (x := vu) rfl (wpAny_bind (wpAny_field hos hds (x := vs) rfl (wpAny_pure ?_)))))))
  refine wpAny_bind (slicePart_ ps ?_)
  show wpAny _ _ (if ((-1 : Int) == 0) = true then _ else _) _ _ s
  rw [if_neg (by decide)]
  refine wpAny_bind (slicePart_ pl (wpAny_bind (slicePart_ pu (wpAny_bind (wpAny_pure ?_)))))
  show wpAny _ _ (match Builtin.Slice.sliceAdjust none none (-1) (n : Int) with | (lo, hi) => pure (lo, (-1 : Int), Builtin.Slice.slicePlaces lo hi (-1))) _ _ s
  rw [back_adjust n]
  show wpAny _ _ (pure ((n : Int) - 1, (-1 : Int), Builtin.Slice.slicePlaces ((n : Int) - 1) (-1) (-1))) _ _ s
  rw [back_places]
  exact wpAny_pure h
theorem back_item {t sl : Addr} {items : Array Value} {vl vu vs : Value} {Q : Value → Shared → Prop} (ht : IsTup s.heap t items) (hs : s.heap.IsSliceOf sl vl vu vs) (pl : IsPart vl none) (pu : IsPart vu none) (ps : IsPart vs (some (-1)))
    (h : Q (.ref s.heap.objs.size) { s with heap := s.heap.push { cls := .type "tuple", data := .seq items.toList.reverse.toArray } })
    (hsz : items.size ≤ sizeLine) : wpAny (model prog w) A (getItem (.ref t) (.ref sl)) Q E s := by
  have htake : sizeOk (.seq items.toList.reverse.toArray) := by
    show items.toList.reverse.toArray.size ≤ sizeLine
    rw [List.size_toArray, List.length_reverse, Array.length_toList]
    omega
  obtain ⟨os, hos, hcs, hds⟩ := id hs
  have hTs : s.TypeIs (.ref sl) "slice" := ⟨os, hos, hcs⟩
  unfold getItem
  try with_reducible refine wpAny_holding ?_
  first | refine wpAny_bind (wpAny_pure ?_) | skip
  refine wpAny_bind (wpAny_sequenceKey ht.typeIs (by decide) ?_)
  refine wpAny_bind (wpAny_callSpecial?_slot (name := Str.ofString "__getitem__") ht.typeIs PyProof.Rows.slot_tuple_getitem
    (wpAny_call_entry PyProof.Rows.slot_tuple_getitem ht.typeIs entry_tuple_getitem ?_ (args_tuple_getitem _ _)))
  show wpAny _ _ (Builtin.Tuple.tupleItemsOf (.ref t) >>= _) _ _ s
  refine wpAny_bind (tupleItemsOf_ ht ?_)
  refine wpAny_bind (wpAny_typeOf hTs ?_)
  rw [if_pos (by decide)]
  refine wpAny_bind (back_applied hs pl pu ps ?_)
  have hno : ¬ ((((items.size : Int) - 1) == 0 && (-1 : Int) == 1 && items.size == items.size) = true) := by
    intro q
    rw [Bool.and_eq_true, Bool.and_eq_true] at q
    exact absurd q.1.2 (by decide)
  show wpAny _ _ (if (((items.size : Int) - 1) == 0 && (-1 : Int) == 1 && items.size == items.size) = true then _ else _) _ _ s
  rw [if_neg hno, back_pick]
  first
    | exact wpAny_bind (m := Builtin.Tuple.tupleExact _) (wpAny_newObj_type (wpAny_pure ⟨_, rfl, wpAny_pure h⟩) htake)
    | exact wpAny_bind (m := Builtin.Tuple.tupleExact _) (wpAny_newObj_type (wpAny_bind (wpAny_pure (wpAny_pure ⟨_, rfl, wpAny_pure h⟩))) htake)
    | exact wpAny_bind (wpAny_bind (m := Builtin.Tuple.tupleExact _) (wpAny_newObj_type (wpAny_pure (wpAny_pure ⟨_, rfl, wpAny_pure h⟩)) htake))
    | exact wpAny_bind (wpAny_bind (m := Builtin.Tuple.tupleExact _) (wpAny_newObj_type (wpAny_pure ⟨_, rfl, wpAny_pure h⟩) htake))
end
end TV
namespace L2
open PySem PySem.Spec PyProof.Rows
section
variable {X : Cx}
def tRevT (K : PySem.W.Frag) (te : TE) : TE := fun σ H Q => te σ H fun x H1 => ∃ a xs, x = .ref a ∧ SqT K H1 a xs ∧ ∀ p, H1 p = none → Q (.ref p) (upd H1 p (.tup xs.reverse))
theorem pe_revT {e : Expr} {te : TE} {k : Nat} {p1 p2 p3 pos : Pos} (he : PE X e te) : PE X (.Subscript e (.Slice none none (some (.UnaryOp .USub (.Constant (.int 1) k p1) p2)) p3) pos) (tRevT X.K te) := by
  refine ⟨fun pins s σ H Q I h => ?_⟩
  refine Subscript_ (thn (he.run pins s σ H _ I h) fun v s1 ⟨x, H1, I1, r1, q1⟩ => ?_)
  obtain ⟨a, xs, ex, hx, q⟩ := q1
  subst ex
  cases r1
  have hst : PO X (some (.UnaryOp .USub (.Constant (.int 1) k p1) p2)) (tPart (tUn (rU fun i => .int (-i)) (tC (.int 1)))) := po_some (pe_un un_neg pe_int)
  refine wpAny_Slice (thn (po_none.run pins s1 σ H1 (fun o H2 => o = none ∧ H2 = H1) I1 ⟨rfl, rfl⟩) fun vl s2 ⟨l, H2, I2, pl, el, e2⟩ => ?_)
  subst el e2
  refine thn (po_none.run pins s2 σ H2 (fun o H3 => o = none ∧ H3 = H2) I2 ⟨rfl, rfl⟩) fun vu s3 ⟨u, H3, I3, pu, eu, e3⟩ => ?_
  subst eu e3
  refine thn (hst.run pins s3 σ H3 (fun o H4 => o = some (-1) ∧ H4 = H3) I3 ⟨1, rfl, -1, rfl, rfl, rfl⟩) fun vs s4 ⟨o, H4, I4, ps, eo, e4⟩ => ?_
  subst eo e4
  have I5 : Inv X pins σ H4 { s4 with heap := s4.heap.push { cls := .type "slice", data := .fields #[vl, vu, vs] } } := I4.kept (t' := s4.toks) fun b ob q => Heap.get?_push_of_some _ q
  obtain ⟨its, r, ht, hz⟩ := I5.tuple hx
  have hlen := r.length
  show wpAny (model X.prog X.w) X.A (subscriptTail e (.Slice none none (some (.UnaryOp .USub (.Constant (.int 1) k p1) p2)) p3) (.ref a) (.ref s4.heap.objs.size)) (EP X pins σ Q) X.xe { s4 with heap := s4.heap.push { cls := .type "slice", data := .fields #[vl, vu, vs] } }
  refine tail_any (ops := [.ref a, .ref s4.heap.objs.size]) ht.typeIs PyProof.Rows.slot_tuple_getitem.lookup ?_ (by with_unfolding_all rfl)
  refine TV.back_item ht (Heap.IsSliceOf.new _ vl vu vs) pl pu ps ?_ (by rw [List.size_toArray]; omega)
  refine ⟨.ref _, _, I5.laid (t' := s4.toks) (o := .tup xs.reverse) (fun b ob q => Heap.get?_push_of_some _ q) (Nat.le_refl _) ?_, rfl, q _ (I5.hok.fresh (Nat.le_refl _))⟩
  exact ⟨by rw [List.length_reverse]; exact hz, _, r.reverse, IsTup.new _ _⟩
end
end L2

set_option Elab.async false
set_option linter.all false
set_option maxRecDepth 100000
set_option maxHeartbeats 2000000
namespace K07
open PySem L2 Sx
def top (i : Nat) : Stmt := PySem.Challenge.pw_nextguess_k07_shown_answers.main.body.getD i (.Pass ⟨0, 0, 0, 0⟩)
abbrev s_is_an_integer : Stmt := top 2
abbrev s_is_number : Stmt := top 3
abbrev s_is_value : Stmt := top 4
abbrev s_is_point : Stmt := top 5
abbrev s_is_pair : Stmt := top 6
abbrev s_is_row : Stmt := top 13
abbrev s_is_lot : Stmt := top 14
abbrev s_are_rows : Stmt := top 16
abbrev s_is_answer : Stmt := top 17
abbrev s_fits : Stmt := top 18
abbrev s_Rules____init__ : Stmt := inClass (top 19) 0
abbrev s_Rules____eq__ : Stmt := inClass (top 19) 1
abbrev s_Rules____len__ : Stmt := inClass (top 19) 2
abbrev s_Rules__is_shown : Stmt := inClass (top 19) 14
abbrev s_Rules__fitting : Stmt := inClass (top 19) 15
abbrev s__law_flow : Stmt := top 21
abbrev s__law_take : Stmt := top 22
abbrev s__law_row : Stmt := top 23
abbrev s__law_listed : Stmt := top 24
abbrev s__law_same : Stmt := top 25
abbrev s__law_is : Stmt := top 26
abbrev s__law_is_integer : Stmt := top 27
abbrev s__law_is_shown : Stmt := top 28
abbrev s__law_pairs : Stmt := top 29
abbrev s__law_spoilt : Stmt := top 30
abbrev s__law_asked : Stmt := top 31
abbrev s__law_object_refused : Stmt := top 32
abbrev s__law_all : Stmt := top 33
abbrev s_law : Stmt := top 34
theorem sc_is_an_integer : FnScope ["value"] ["value"] (defScope s_is_an_integer) := ⟨rfl, rfl, rfl, by decide +kernel, rfl, by decide +kernel, by decide +kernel⟩
theorem sc_is_number : FnScope ["value"] ["value"] (defScope s_is_number) := ⟨rfl, rfl, rfl, by decide +kernel, rfl, by decide +kernel, by decide +kernel⟩
theorem sc_is_value : FnScope ["value"] ["value"] (defScope s_is_value) := ⟨rfl, rfl, rfl, by decide +kernel, rfl, by decide +kernel, by decide +kernel⟩
theorem sc_is_point : FnScope ["value", "size"] ["value", "size"] (defScope s_is_point) := ⟨rfl, rfl, rfl, by decide +kernel, rfl, by decide +kernel, by decide +kernel⟩
theorem sc_is_pair : FnScope ["value"] ["value"] (defScope s_is_pair) := ⟨rfl, rfl, rfl, by decide +kernel, rfl, by decide +kernel, by decide +kernel⟩
theorem sc_is_row : FnScope ["value", "size", "member"] ["value", "size"] (defScope s_is_row) := ⟨rfl, rfl, rfl, by decide +kernel, rfl, by decide +kernel, by decide +kernel⟩
theorem sc_is_lot : FnScope ["value", "size", "k", "member"] ["value", "size"] (defScope s_is_lot) := ⟨rfl, rfl, rfl, by decide +kernel, rfl, by decide +kernel, by decide +kernel⟩
theorem sc_are_rows : FnScope ["rows", "size", "row"] ["rows", "size"] (defScope s_are_rows) := ⟨rfl, rfl, rfl, by decide +kernel, rfl, by decide +kernel, by decide +kernel⟩
theorem sc_is_answer : FnScope ["value"] ["value"] (defScope s_is_answer) := ⟨rfl, rfl, rfl, by decide +kernel, rfl, by decide +kernel, by decide +kernel⟩
theorem sc_fits : FnScope ["row", "shown", "point", "value"] ["row", "shown"] (defScope s_fits) := ⟨rfl, rfl, rfl, by decide +kernel, rfl, by decide +kernel, by decide +kernel⟩
theorem sc_Rules____init__ : FnScope ["self", "size", "rows", "row"] ["self", "size", "rows"] (defScope s_Rules____init__) := ⟨rfl, rfl, rfl, by decide +kernel, rfl, by decide +kernel, by decide +kernel⟩
theorem sc_Rules____eq__ : FnScope ["self", "other"] ["self", "other"] (defScope s_Rules____eq__) := ⟨rfl, rfl, rfl, by decide +kernel, rfl, by decide +kernel, by decide +kernel⟩
theorem sc_Rules____len__ : FnScope ["self"] ["self"] (defScope s_Rules____len__) := ⟨rfl, rfl, rfl, by decide +kernel, rfl, by decide +kernel, by decide +kernel⟩
theorem sc_Rules__is_shown : FnScope ["self", "value", "pair"] ["self", "value"] (defScope s_Rules__is_shown) := ⟨rfl, rfl, rfl, by decide +kernel, rfl, by decide +kernel, by decide +kernel⟩
theorem sc_Rules__fitting : FnScope ["self", "shown", "rows", "row"] ["self", "shown"] (defScope s_Rules__fitting) := ⟨rfl, rfl, rfl, by decide +kernel, rfl, by decide +kernel, by decide +kernel⟩
theorem sc__law_flow : FnScope ["script", "place", "cell"] ["script", "place"] (defScope s__law_flow) := ⟨rfl, rfl, rfl, by decide +kernel, rfl, by decide +kernel, by decide +kernel⟩
theorem sc__law_take : FnScope ["flow", "limit", "digit", "mixed"] ["flow", "limit"] (defScope s__law_take) := ⟨rfl, rfl, rfl, by decide +kernel, rfl, by decide +kernel, by decide +kernel⟩
theorem sc__law_row : FnScope ["number", "size", "row", "k"] ["number", "size"] (defScope s__law_row) := ⟨rfl, rfl, rfl, by decide +kernel, rfl, by decide +kernel, by decide +kernel⟩
theorem sc__law_listed : FnScope ["flow", "size", "shape", "full", "k", "kept", "numbers", "number"] ["flow"] (defScope s__law_listed) := ⟨rfl, rfl, rfl, by decide +kernel, rfl, by decide +kernel, by decide +kernel⟩
theorem sc__law_same : FnScope ["actual", "due", "k"] ["actual", "due"] (defScope s__law_same) := ⟨rfl, rfl, rfl, by decide +kernel, rfl, by decide +kernel, by decide +kernel⟩
theorem sc__law_is : FnScope ["rules", "size", "listed"] ["rules", "size", "listed"] (defScope s__law_is) := ⟨rfl, rfl, rfl, by decide +kernel, rfl, by decide +kernel, by decide +kernel⟩
theorem sc__law_is_integer : FnScope ["value"] ["value"] (defScope s__law_is_integer) := ⟨rfl, rfl, rfl, by decide +kernel, rfl, by decide +kernel, by decide +kernel⟩
theorem sc__law_is_shown : FnScope ["value", "size", "least", "pair"] ["value", "size"] (defScope s__law_is_shown) := ⟨rfl, rfl, rfl, by decide +kernel, rfl, by decide +kernel, by decide +kernel⟩
theorem sc__law_pairs : FnScope ["flow", "size", "listed", "lot", "row", "pairs", "at", "point"] ["flow", "size", "listed"] (defScope s__law_pairs) := ⟨rfl, rfl, rfl, by decide +kernel, rfl, by decide +kernel, by decide +kernel⟩
theorem sc__law_spoilt : FnScope ["flow", "value", "size", "shape", "at", "point", "worth", "bad"] ["flow", "value", "size"] (defScope s__law_spoilt) := ⟨rfl, rfl, rfl, by decide +kernel, rfl, by decide +kernel, by decide +kernel⟩
theorem sc__law_asked : FnScope ["rules", "size", "listed", "value", "named", "right", "answer", "e", "due", "row", "pair"] ["rules", "size", "listed", "value", "named"] (defScope s__law_asked) := ⟨rfl, rfl, rfl, by decide +kernel, rfl, by decide +kernel, by decide +kernel⟩
theorem sc__law_object_refused : FnScope ["rules", "e"] ["rules"] (defScope s__law_object_refused) := ⟨rfl, rfl, rfl, by decide +kernel, rfl, by decide +kernel, by decide +kernel⟩
theorem sc__law_all : FnScope ["script", "one", "other", "first", "second", "asked", "k", "flow", "pairs", "turn"] ["script"] (defScope s__law_all) := ⟨rfl, rfl, rfl, by decide +kernel, rfl, by decide +kernel, by decide +kernel⟩
theorem sc_law : FnScope ["script"] ["script"] (defScope s_law) := ⟨rfl, rfl, rfl, by decide +kernel, rfl, by decide +kernel, by decide +kernel⟩
structure Ad where
  a_is_an_integer : Addr
  d_is_an_integer : FuncData
  a_is_number : Addr
  d_is_number : FuncData
  a_is_value : Addr
  d_is_value : FuncData
  a_is_point : Addr
  d_is_point : FuncData
  a_is_pair : Addr
  d_is_pair : FuncData
  a_is_row : Addr
  d_is_row : FuncData
  a_is_lot : Addr
  d_is_lot : FuncData
  a_are_rows : Addr
  d_are_rows : FuncData
  a_is_answer : Addr
  d_is_answer : FuncData
  a_fits : Addr
  d_fits : FuncData
  a_Rules____init__ : Addr
  d_Rules____init__ : FuncData
  a_Rules____eq__ : Addr
  d_Rules____eq__ : FuncData
  a_Rules____len__ : Addr
  d_Rules____len__ : FuncData
  a_Rules__is_shown : Addr
  d_Rules__is_shown : FuncData
  a_Rules__fitting : Addr
  d_Rules__fitting : FuncData
  a__law_flow : Addr
  d__law_flow : FuncData
  a__law_take : Addr
  d__law_take : FuncData
  a__law_row : Addr
  d__law_row : FuncData
  a__law_listed : Addr
  d__law_listed : FuncData
  a__law_same : Addr
  d__law_same : FuncData
  a__law_is : Addr
  d__law_is : FuncData
  a__law_is_integer : Addr
  d__law_is_integer : FuncData
  a__law_is_shown : Addr
  d__law_is_shown : FuncData
  a__law_pairs : Addr
  d__law_pairs : FuncData
  a__law_spoilt : Addr
  d__law_spoilt : FuncData
  a__law_asked : Addr
  d__law_asked : FuncData
  a__law_object_refused : Addr
  d__law_object_refused : FuncData
  a__law_all : Addr
  d__law_all : FuncData
  a_law : Addr
  d_law : FuncData
  c_InvalidShown : Addr
  i_InvalidShown : Addr
  c_Undefined : Addr
  i_Undefined : Addr
  c_Rules : Addr
structure Txt (P : Program) (K : PySem.W.Frag) (mg : Str → Option Value) (A : Ad) : Prop where
  g_is_an_integer : mg "is_an_integer" = some (.ref A.a_is_an_integer)
  F_is_an_integer : Fun K "is_an_integer" "is_an_integer" s_is_an_integer A.a_is_an_integer A.d_is_an_integer
  g_is_number : mg "is_number" = some (.ref A.a_is_number)
  F_is_number : Fun K "is_number" "is_number" s_is_number A.a_is_number A.d_is_number
  g_is_value : mg "is_value" = some (.ref A.a_is_value)
  F_is_value : Fun K "is_value" "is_value" s_is_value A.a_is_value A.d_is_value
  g_is_point : mg "is_point" = some (.ref A.a_is_point)
  F_is_point : Fun K "is_point" "is_point" s_is_point A.a_is_point A.d_is_point
  g_is_pair : mg "is_pair" = some (.ref A.a_is_pair)
  F_is_pair : Fun K "is_pair" "is_pair" s_is_pair A.a_is_pair A.d_is_pair
  g_is_row : mg "is_row" = some (.ref A.a_is_row)
  F_is_row : Fun K "is_row" "is_row" s_is_row A.a_is_row A.d_is_row
  g_is_lot : mg "is_lot" = some (.ref A.a_is_lot)
  F_is_lot : Fun K "is_lot" "is_lot" s_is_lot A.a_is_lot A.d_is_lot
  g_are_rows : mg "are_rows" = some (.ref A.a_are_rows)
  F_are_rows : Fun K "are_rows" "are_rows" s_are_rows A.a_are_rows A.d_are_rows
  g_is_answer : mg "is_answer" = some (.ref A.a_is_answer)
  F_is_answer : Fun K "is_answer" "is_answer" s_is_answer A.a_is_answer A.d_is_answer
  g_fits : mg "fits" = some (.ref A.a_fits)
  F_fits : Fun K "fits" "fits" s_fits A.a_fits A.d_fits
  F_Rules____init__ : Fun K "__init__" "Rules.__init__" s_Rules____init__ A.a_Rules____init__ A.d_Rules____init__
  F_Rules____eq__ : Fun K "__eq__" "Rules.__eq__" s_Rules____eq__ A.a_Rules____eq__ A.d_Rules____eq__
  F_Rules____len__ : Fun K "__len__" "Rules.__len__" s_Rules____len__ A.a_Rules____len__ A.d_Rules____len__
  F_Rules__is_shown : Fun K "is_shown" "Rules.is_shown" s_Rules__is_shown A.a_Rules__is_shown A.d_Rules__is_shown
  F_Rules__fitting : Fun K "fitting" "Rules.fitting" s_Rules__fitting A.a_Rules__fitting A.d_Rules__fitting
  g__law_flow : mg "_law_flow" = some (.ref A.a__law_flow)
  F__law_flow : Fun K "_law_flow" "_law_flow" s__law_flow A.a__law_flow A.d__law_flow
  g__law_take : mg "_law_take" = some (.ref A.a__law_take)
  F__law_take : Fun K "_law_take" "_law_take" s__law_take A.a__law_take A.d__law_take
  g__law_row : mg "_law_row" = some (.ref A.a__law_row)
  F__law_row : Fun K "_law_row" "_law_row" s__law_row A.a__law_row A.d__law_row
  g__law_listed : mg "_law_listed" = some (.ref A.a__law_listed)
  F__law_listed : Fun K "_law_listed" "_law_listed" s__law_listed A.a__law_listed A.d__law_listed
  g__law_same : mg "_law_same" = some (.ref A.a__law_same)
  F__law_same : Fun K "_law_same" "_law_same" s__law_same A.a__law_same A.d__law_same
  g__law_is : mg "_law_is" = some (.ref A.a__law_is)
  F__law_is : Fun K "_law_is" "_law_is" s__law_is A.a__law_is A.d__law_is
  g__law_is_integer : mg "_law_is_integer" = some (.ref A.a__law_is_integer)
  F__law_is_integer : Fun K "_law_is_integer" "_law_is_integer" s__law_is_integer A.a__law_is_integer A.d__law_is_integer
  g__law_is_shown : mg "_law_is_shown" = some (.ref A.a__law_is_shown)
  F__law_is_shown : Fun K "_law_is_shown" "_law_is_shown" s__law_is_shown A.a__law_is_shown A.d__law_is_shown
  g__law_pairs : mg "_law_pairs" = some (.ref A.a__law_pairs)
  F__law_pairs : Fun K "_law_pairs" "_law_pairs" s__law_pairs A.a__law_pairs A.d__law_pairs
  g__law_spoilt : mg "_law_spoilt" = some (.ref A.a__law_spoilt)
  F__law_spoilt : Fun K "_law_spoilt" "_law_spoilt" s__law_spoilt A.a__law_spoilt A.d__law_spoilt
  g__law_asked : mg "_law_asked" = some (.ref A.a__law_asked)
  F__law_asked : Fun K "_law_asked" "_law_asked" s__law_asked A.a__law_asked A.d__law_asked
  g__law_object_refused : mg "_law_object_refused" = some (.ref A.a__law_object_refused)
  F__law_object_refused : Fun K "_law_object_refused" "_law_object_refused" s__law_object_refused A.a__law_object_refused A.d__law_object_refused
  g__law_all : mg "_law_all" = some (.ref A.a__law_all)
  F__law_all : Fun K "_law_all" "_law_all" s__law_all A.a__law_all A.d__law_all
  g_law : mg "law" = some (.ref A.a_law)
  F_law : Fun K "law" "law" s_law A.a_law A.d_law
  X_InvalidShown : PySem.SupX_value.XTxt P K mg "InvalidShown" A.c_InvalidShown A.i_InvalidShown
  E_InvalidShown : Sx.ExK K A.c_InvalidShown
  X_Undefined : PySem.SupX_what.XTxt P K mg "Undefined" A.c_Undefined A.i_Undefined
  E_Undefined : Sx.ExK K A.c_Undefined
  g_Rules : mg "Rules" = some (.ref A.c_Rules)
  o_Rules : Sx.OwnK K A.c_Rules
  mk_Rules : Mk K A.c_Rules A.a_Rules____init__
  no_Rules_size : NoAttr K A.c_Rules "size"
  no_Rules_rows : NoAttr K A.c_Rules "rows"
  no_Rules__known : NoAttr K A.c_Rules "_known"
  me_Rules_is_shown : Meth K A.c_Rules "is_shown" A.a_Rules__is_shown
  me_Rules_fitting : Meth K A.c_Rules "fitting" A.a_Rules__fitting
  sp_Rules___len__ : PySem.W.findIn K (.ref A.c_Rules) "__len__" = some (some (.ref A.a_Rules____len__)) ∧ PySem.W.isFn K (.ref A.a_Rules____len__) = true
  sp_Rules___eq__ : PySem.W.findIn K (.ref A.c_Rules) "__eq__" = some (some (.ref A.a_Rules____eq__)) ∧ PySem.W.isFn K (.ref A.a_Rules____eq__) = true
  n_abs : mg "abs" = none
  n_all : mg "all" = none
  n_bool : mg "bool" = none
  n_int : mg "int" = none
  n_isinstance : mg "isinstance" = none
  n_len : mg "len" = none
  n_list : mg "list" = none
  n_range : mg "range" = none
  n_set : mg "set" = none
  n_sorted : mg "sorted" = none
  n_str : mg "str" = none
  n_tuple : mg "tuple" = none
section
variable {P : Program} {K : PySem.W.Frag} {mg : Str → Option Value} {A : Ad}
theorem Txt.cl_Rules (T : Txt P K mg A) : Cls K A.c_Rules := T.o_Rules.cl
theorem Txt.g_InvalidShown (T : Txt P K mg A) : mg "InvalidShown" = some (.ref A.c_InvalidShown) := T.X_InvalidShown.gC
theorem Txt.g_Undefined (T : Txt P K mg A) : mg "Undefined" = some (.ref A.c_Undefined) := T.X_Undefined.gC
theorem B_is_an_integer (T : Txt P K mg A) : Binds K A.d_is_an_integer ["value"] [] := T.F_is_an_integer.binds (ps := ["value"]) fun _ _ _ _ _ _ us hl => match us, hl with | [_], _ => rfl
theorem B_is_number (T : Txt P K mg A) : Binds K A.d_is_number ["value"] [] := T.F_is_number.binds (ps := ["value"]) fun _ _ _ _ _ _ us hl => match us, hl with | [_], _ => rfl
theorem B_is_value (T : Txt P K mg A) : Binds K A.d_is_value ["value"] [] := T.F_is_value.binds (ps := ["value"]) fun _ _ _ _ _ _ us hl => match us, hl with | [_], _ => rfl
theorem B_is_point (T : Txt P K mg A) : Binds K A.d_is_point ["value", "size"] [] := T.F_is_point.binds (ps := ["value", "size"]) fun _ _ _ _ _ _ us hl => match us, hl with | [_, _], _ => rfl
theorem B_is_pair (T : Txt P K mg A) : Binds K A.d_is_pair ["value"] [] := T.F_is_pair.binds (ps := ["value"]) fun _ _ _ _ _ _ us hl => match us, hl with | [_], _ => rfl
theorem B_is_row (T : Txt P K mg A) : Binds K A.d_is_row ["value", "size"] [] := T.F_is_row.binds (ps := ["value", "size"]) fun _ _ _ _ _ _ us hl => match us, hl with | [_, _], _ => rfl
theorem B_is_lot (T : Txt P K mg A) : Binds K A.d_is_lot ["value", "size"] [] := T.F_is_lot.binds (ps := ["value", "size"]) fun _ _ _ _ _ _ us hl => match us, hl with | [_, _], _ => rfl
theorem B_are_rows (T : Txt P K mg A) : Binds K A.d_are_rows ["rows", "size"] [] := T.F_are_rows.binds (ps := ["rows", "size"]) fun _ _ _ _ _ _ us hl => match us, hl with | [_, _], _ => rfl
theorem B_is_answer (T : Txt P K mg A) : Binds K A.d_is_answer ["value"] [] := T.F_is_answer.binds (ps := ["value"]) fun _ _ _ _ _ _ us hl => match us, hl with | [_], _ => rfl
theorem B_fits (T : Txt P K mg A) : Binds K A.d_fits ["row", "shown"] [] := T.F_fits.binds (ps := ["row", "shown"]) fun _ _ _ _ _ _ us hl => match us, hl with | [_, _], _ => rfl
theorem B_Rules____init__ (T : Txt P K mg A) : Binds K A.d_Rules____init__ ["self", "size", "rows"] [] := T.F_Rules____init__.binds (ps := ["self", "size", "rows"]) fun _ _ _ _ _ _ us hl => match us, hl with | [_, _, _], _ => rfl
theorem B_Rules____eq__ (T : Txt P K mg A) : Binds K A.d_Rules____eq__ ["self", "other"] [] := T.F_Rules____eq__.binds (ps := ["self", "other"]) fun _ _ _ _ _ _ us hl => match us, hl with | [_, _], _ => rfl
theorem B_Rules____len__ (T : Txt P K mg A) : Binds K A.d_Rules____len__ ["self"] [] := T.F_Rules____len__.binds (ps := ["self"]) fun _ _ _ _ _ _ us hl => match us, hl with | [_], _ => rfl
theorem B_Rules__is_shown (T : Txt P K mg A) : Binds K A.d_Rules__is_shown ["self", "value"] [] := T.F_Rules__is_shown.binds (ps := ["self", "value"]) fun _ _ _ _ _ _ us hl => match us, hl with | [_, _], _ => rfl
theorem B_Rules__fitting (T : Txt P K mg A) : Binds K A.d_Rules__fitting ["self", "shown"] [] := T.F_Rules__fitting.binds (ps := ["self", "shown"]) fun _ _ _ _ _ _ us hl => match us, hl with | [_, _], _ => rfl
theorem B__law_flow (T : Txt P K mg A) : Binds K A.d__law_flow ["script", "place"] [] := T.F__law_flow.binds (ps := ["script", "place"]) fun _ _ _ _ _ _ us hl => match us, hl with | [_, _], _ => rfl
theorem B__law_take (T : Txt P K mg A) : Binds K A.d__law_take ["flow", "limit"] [] := T.F__law_take.binds (ps := ["flow", "limit"]) fun _ _ _ _ _ _ us hl => match us, hl with | [_, _], _ => rfl
theorem B__law_row (T : Txt P K mg A) : Binds K A.d__law_row ["number", "size"] [] := T.F__law_row.binds (ps := ["number", "size"]) fun _ _ _ _ _ _ us hl => match us, hl with | [_, _], _ => rfl
theorem B__law_listed (T : Txt P K mg A) : Binds K A.d__law_listed ["flow"] [] := T.F__law_listed.binds (ps := ["flow"]) fun _ _ _ _ _ _ us hl => match us, hl with | [_], _ => rfl
theorem B__law_same (T : Txt P K mg A) : Binds K A.d__law_same ["actual", "due"] [] := T.F__law_same.binds (ps := ["actual", "due"]) fun _ _ _ _ _ _ us hl => match us, hl with | [_, _], _ => rfl
theorem B__law_is (T : Txt P K mg A) : Binds K A.d__law_is ["rules", "size", "listed"] [] := T.F__law_is.binds (ps := ["rules", "size", "listed"]) fun _ _ _ _ _ _ us hl => match us, hl with | [_, _, _], _ => rfl
theorem B__law_is_integer (T : Txt P K mg A) : Binds K A.d__law_is_integer ["value"] [] := T.F__law_is_integer.binds (ps := ["value"]) fun _ _ _ _ _ _ us hl => match us, hl with | [_], _ => rfl
theorem B__law_is_shown (T : Txt P K mg A) : Binds K A.d__law_is_shown ["value", "size"] [] := T.F__law_is_shown.binds (ps := ["value", "size"]) fun _ _ _ _ _ _ us hl => match us, hl with | [_, _], _ => rfl
theorem B__law_pairs (T : Txt P K mg A) : Binds K A.d__law_pairs ["flow", "size", "listed"] [] := T.F__law_pairs.binds (ps := ["flow", "size", "listed"]) fun _ _ _ _ _ _ us hl => match us, hl with | [_, _, _], _ => rfl
theorem B__law_spoilt (T : Txt P K mg A) : Binds K A.d__law_spoilt ["flow", "value", "size"] [] := T.F__law_spoilt.binds (ps := ["flow", "value", "size"]) fun _ _ _ _ _ _ us hl => match us, hl with | [_, _, _], _ => rfl
theorem B__law_asked (T : Txt P K mg A) : Binds K A.d__law_asked ["rules", "size", "listed", "value", "named"] [] := T.F__law_asked.binds (ps := ["rules", "size", "listed", "value", "named"]) fun _ _ _ _ _ _ us hl => match us, hl with | [_, _, _, _, _], _ => rfl
theorem B__law_object_refused (T : Txt P K mg A) : Binds K A.d__law_object_refused ["rules"] [] := T.F__law_object_refused.binds (ps := ["rules"]) fun _ _ _ _ _ _ us hl => match us, hl with | [_], _ => rfl
theorem B__law_all (T : Txt P K mg A) : Binds K A.d__law_all ["script"] [] := T.F__law_all.binds (ps := ["script"]) fun _ _ _ _ _ _ us hl => match us, hl with | [_], _ => rfl
theorem B_law (T : Txt P K mg A) : Binds K A.d_law ["script"] [] := T.F_law.binds (ps := ["script"]) fun _ _ _ _ _ _ us hl => match us, hl with | [_], _ => rfl
def kg_Rules__fitting_shown : List Value → List Value → List Value := fun us ws => match us, ws with | [y], [x0] => [y, x0] | _, _ => []
def kv_Rules__fitting_shown : List V → List V → List V := fun us ws => match us, ws with | [y], [x0] => [y, x0] | _, _ => []
theorem KB_Rules__fitting_shown (T : Txt P K mg A) : KBinds K A.d_Rules__fitting ["self", "shown"] ["shown"] kg_Rules__fitting_shown kv_Rules__fitting_shown := by
  obtain ⟨oc, od, kV, doc, pm, an, cdv, ct, osl, e, _, _⟩ := T.F_Rules__fitting.ex
  rw [e]
  refine ⟨fun s us ws _ hl => ?_, fun {vs us zs ws} r rz => ?_⟩
  · match us, ws, hl with
    | [_], [_], _ => exact .of_eq rfl
  · cases r with
    | nil => exact .nil
    | cons r9 r => cases r with
    | cons _ _ => exact .nil
    | nil =>
      cases rz with
      | nil => exact .nil
      | cons r0 rz =>
        cases rz with
        | cons _ _ => exact .nil
        | nil => exact (.cons r9 (.cons r0 .nil))
def kg_Rules__is_shown_value : List Value → List Value → List Value := fun us ws => match us, ws with | [y], [x0] => [y, x0] | _, _ => []
def kv_Rules__is_shown_value : List V → List V → List V := fun us ws => match us, ws with | [y], [x0] => [y, x0] | _, _ => []
theorem KB_Rules__is_shown_value (T : Txt P K mg A) : KBinds K A.d_Rules__is_shown ["self", "value"] ["value"] kg_Rules__is_shown_value kv_Rules__is_shown_value := by
  obtain ⟨oc, od, kV, doc, pm, an, cdv, ct, osl, e, _, _⟩ := T.F_Rules__is_shown.ex
  rw [e]
  refine ⟨fun s us ws _ hl => ?_, fun {vs us zs ws} r rz => ?_⟩
  · match us, ws, hl with
    | [_], [_], _ => exact .of_eq rfl
  · cases r with
    | nil => exact .nil
    | cons r9 r => cases r with
    | cons _ _ => exact .nil
    | nil =>
      cases rz with
      | nil => exact .nil
      | cons r0 rz =>
        cases rz with
        | cons _ _ => exact .nil
        | nil => exact (.cons r9 (.cons r0 .nil))
end
local macro_rules | `(tactic| walk_at "cond") => `(tactic| first
  | assumption
  | decide
  | exact c_mul_r (by first | decide | omega) (by first | decide | omega)
  | exact c_mul_l (by first | decide | omega) (by first | decide | omega)
  | exact c_div (by first | decide | omega) (by first | decide | omega)
  | exact c_pow (by first | decide | omega) (by first | decide | omega) (by first | decide | omega)
  | omega)
local macro_rules | `(tactic| walk_at "ne") => `(tactic| first
  | assumption
  | (refine Ne.symm ?_; assumption)
  | (refine' Flow.ne ?nh ?nn; (case nn => assumption); (case nh => walk_at "fl"))
  | (refine Ne.symm ?_; refine' Flow.ne ?nh ?nn; (case nn => assumption); (case nh => walk_at "fl"))
  | (refine' ne_of_none ?nh ?nn; (case nn => assumption); (case nh => walk_at "at"))
  | (refine Ne.symm ?_; refine' ne_of_none ?nh ?nn; (case nn => assumption); (case nh => walk_at "at")))
local macro_rules | `(tactic| walk_at "at") => `(tactic| first
  | assumption
  | (refine Same.up (by assumption) ?_; walk_at "at")
  | (refine Keep.up (by assumption) (by walk_at "ne") ?_; walk_at "at"))
local macro_rules | `(tactic| walk_at "fl") => `(tactic| first
  | assumption
  | (refine Flow.same (by assumption) ?_; walk_at "fl")
  | (refine Flow.keep (by assumption) (by walk_at "ne") ?_; walk_at "fl"))
local macro_rules | `(tactic| walk_at "fr") => `(tactic| first
  | assumption
  | (refine same_free (by assumption) ?_; walk_at "fr")
  | (refine Keep.free (by assumption) (by walk_at "ne") ?_; walk_at "fr"))
local macro_rules | `(tactic| walk_at "kp") => `(tactic| first
  | assumption
  | exact Keep.refl _ _
  | (refine Keep.trans ?_ (by assumption); walk_at "kp")
  | (refine Keep.trans ?_ (Keep.same (by assumption)); walk_at "kp"))
local macro_rules | `(tactic| walk_at "sm") => `(tactic| first
  | assumption
  | exact L2.Same.refl _
  | (refine L2.Same.trans ?_ (by assumption); walk_at "sm"))
local macro_rules | `(tactic| walk_at "sz") => `(tactic| first | exact Nat.le_of_ble_eq_true rfl | omega)
local macro_rules | `(tactic| walk_at "new") => `(tactic| (intro p np; generalize hE : upd _ p _ = H2; have s2 := new_same np hE; have h2 := new_at hE; clear hE))
local macro_rules | `(tactic| walk_at "newx") => `(tactic| (intro e d na nd hda; generalize hE : upd (upd _ d _) e _ = H2; have s2 := newx_same na nd hE; have h2 := newx_at hE; have h3 := newx_d hda hE; clear hE))
local macro_rules | `(tactic| walk_at "s1") => `(tactic| first
  | with_reducible refine s_seq ?_
  | with_reducible refine s_asg ?_
  | with_reducible refine s_name ?_
  | with_reducible refine s_ret ?_
  | with_reducible refine s_c ?_
  | ((with_reducible refine' s_var ?hv ?_); (case hv => rfl))
  | with_reducible refine s_op ?_
  | with_reducible refine s_un ?_
  | with_reducible refine s_ifS ?_
  | with_reducible refine s_cb ?_
  | with_reducible refine s_cons ?_
  | with_reducible refine s_nil ?_
  | with_reducible refine s_call ?_
  | with_reducible refine s_test ?_
  | with_reducible refine s_tB ?_
  | with_reducible refine s_bl ?_
  | with_reducible refine s_and ?_
  | with_reducible refine s_or ?_
  | with_reducible refine s_not ?_
  | with_reducible refine s_andV ?_
  | with_reducible refine s_orV ?_
  | with_reducible refine s_notV ?_
  | with_reducible refine s_blV ?_
  | with_reducible refine s_if ?_
  | with_reducible refine s_tup ?_
  | with_reducible refine s_lst ?_
  | with_reducible refine s_drop ?_
  | with_reducible refine s_next ?_
  | with_reducible refine s_sub ?_
  | with_reducible refine s_bm ?_
  | with_reducible refine s_callK ?_
  | with_reducible refine s_brk ?_
  | with_reducible refine s_cont ?_
  | with_reducible refine r_I0 ?_
  | with_reducible refine r_U ?_
  | with_reducible refine r_eqI ?_
  | with_reducible refine r_neI ?_
  | with_reducible refine r_isB ?_
  | with_reducible refine r_notB ?_
  | with_reducible refine i_t ?_
  | with_reducible refine i_f ?_
  | with_reducible refine i_nt ?_
  | with_reducible refine i_nf ?_
  | ((with_reducible refine' r_I ?hc ?_); (case hc => walk_at "cond"))
  | (with_reducible refine .inl ⟨_, rfl, ?_⟩)
  | (with_reducible refine ⟨_, rfl, ?_⟩)
  | ((with_reducible refine' r_ixL ?hx ?ha ?_); (case hx => walk_at "at"); (case ha => rfl))
  | ((with_reducible refine' r_ixT ?hx ?ha ?_); (case hx => walk_at "at"); (case ha => rfl))
  | ((with_reducible refine' r_setL ?hx ?ha ?_); (case hx => walk_at "at"); (case ha => rfl); intro H2 k2 h2; (try dsimp only [List.set, Int.toNat] at h2))
  | ((with_reducible refine' r_app ?hx ?hl ?_); (case hx => walk_at "at"); (case hl => first | exact Nat.lt_of_ble_eq_true rfl | omega); intro H2 k2 h2)
  | ((with_reducible refine' ty_list ?hx ?_); (case hx => walk_at "at"))
  | (refine And.intro (by (with_reducible show _ ≤ sizeLine); walk_at "sz") ?_; walk_at "new")
  | with_reducible refine s_exv ?_
  | walk_at "newx")
local macro_rules | `(tactic| walk_at "sx") => `(tactic| repeat (walk_at "s1"))
local macro_rules | `(tactic| walk_at "s2") => `(tactic| first
  | ((with_reducible refine' r_ixG ?hx ?hn ?_); (case hx => walk_at "at"); (case hn => omega))
  | ((with_reducible refine' r_ixGT ?hx ?hn ?_); (case hx => walk_at "at"); (case hn => omega))
  | (with_reducible refine ig_cons (fun hix => ?_) (fun hix => ?_))
  | ((with_reducible refine ig_nil ?_); omega)
  | ((with_reducible refine' i_T ?hc ?_); (case hc => omega))
  | ((with_reducible refine' i_F ?hc ?_); (case hc => omega))
  | (with_reducible refine i_2 (fun hc => ?_) (fun hc => ?_))
  | (with_reducible refine i_n2 (fun hc => ?_) (fun hc => ?_)))
local macro_rules | `(tactic| walk_at "go") => `(tactic| repeat' (first | walk_at "s1" | walk_at "s2"))

section
variable {P : Program} {w : World} {K : PySem.W.Frag} {mg : Str → Option Value} {base : Heap} {A : Ad}
def spTake : Sp := fun vs H Q _ => ∃ (a : Addr) (m : Int), vs = [.ref a, .int m] ∧ Flow H a ∧ 0 < m ∧ m < 1073741824 ∧ ∀ d H', 0 ≤ d → d < m → Flow H' a → Keep a H H' → Q (.int d) H'
theorem c_take {H : Hp} {Q : VK} {E : XK} {a : Addr} {m : Int} (f : Flow H a) (m0 : 0 < m) (m1 : m < 1073741824) (q : ∀ d H', 0 ≤ d → d < m → Flow H' a → Keep a H H' → Q (.int d) H') : spTake ([.ref a, .int m] ++ []) H Q E := ⟨a, m, rfl, f, m0, m1, q⟩
theorem ok_take (T : Txt P K mg A) : FnOk P w K mg base CX0 1 A.a__law_take A.d__law_take ["flow", "limit"] spTake := by
  refine T.F__law_take.ok sc__law_take (fun vs H Q E h => ?_) (fun cdv A' outer s H vs Q E hr h => ?_)
  · obtain ⟨a, m, rfl, _⟩ := h
    rfl
  · obtain ⟨a, m, rfl, ⟨c, n, b, p, hL⟩, m0, m1, k⟩ := h
    refine ⟨_, (pss_cons (ps_asg (pe_op op_add (pe_ix ix_seq (pv 0) pe_int (fun _ _ => rfl)) pe_int) (pg_sub (pv 0) pe_int set_list))
  (pss_cons (ps_if (pt_val (pe_ix ix_seq (pv 0) pe_int (fun _ _ => rfl))) (pss_cons (ps_set (i := 2) sc__law_take.nd rfl (Or.inl rfl) (pe_op op_mod (pe_callTy call_int1 (by rfl) T.n_int (by decide +kernel) (pa_cons (pe_ix ix_seq (pv 0) pe_int (fun _ _ => rfl)) pa_nil)) (pv 1)))
  (pss_cons (ps_asg (pe_op op_fdiv (pe_ix ix_seq (pv 0) pe_int (fun _ _ => rfl)) (pv 1)) (pg_sub (pv 0) pe_int set_list))
  (pss_one (ps_ret (pv 2))))) pss_nil)
  (pss_cons (ps_set (i := 3) sc__law_take.nd rfl (Or.inl rfl) (pe_op op_mod (pe_callTy call_int1 (by rfl) T.n_int (by decide +kernel) (pa_cons (pe_op op_add (pe_op op_add (pe_op op_mul (pe_ix ix_seq (pv 0) pe_int (fun _ _ => rfl)) pe_int) (pe_op op_mul (pe_ix ix_seq (pv 0) pe_int (fun _ _ => rfl)) pe_int)) (pe_op op_mul (pe_ix ix_seq (pv 0) pe_int (fun _ _ => rfl)) pe_int)) pa_nil)) pe_int))
  (pss_cons (ps_set (i := 3) sc__law_take.nd rfl (Or.inl rfl) (pe_op op_mod (pe_callTy call_int1 (by rfl) T.n_int (by decide +kernel) (pa_cons (pe_op op_add (pe_op op_add (pe_op op_mul (pv 3) pe_int) (pe_op op_mul (pe_ix ix_seq (pv 0) pe_int (fun _ _ => rfl)) pe_int)) pe_int) pa_nil)) pe_int))
  (pss_one (ps_ret (pe_op op_mod (pe_callTy call_int1 (by rfl) T.n_int (by decide +kernel) (pa_cons (pe_op op_fdiv (pv 3) pe_int) pa_nil)) (pv 1)))))))), ?_⟩
    walk_at "sx"
    refine i_b2 (fun hb => ?_) (fun hb => ?_)
    · walk_at "sx"
      exact k _ _ (Int.emod_nonneg _ (by omega)) (Int.emod_lt_of_pos _ m0) ⟨_, _, _, _, by assumption⟩ (by walk_at "kp")
    · walk_at "sx"
      exact k _ _ (Int.emod_nonneg _ (by omega)) (Int.emod_lt_of_pos _ m0) ⟨_, _, _, _, by assumption⟩ (by walk_at "kp")
def spFlow (K : PySem.W.Frag) : Sp := fun vs H Q _ => ∃ (l : Addr) (ns : List Int) (j : Nat), vs = [.ref l, .int (j : Int)] ∧ SqL K H l (ns.map V.int) ∧ ∀ p H', H p = none → Same H H' → Flow H' p → Q (.ref p) H'
theorem c_flow {H : Hp} {Q : VK} {E : XK} {l : Addr} {ns : List Int} {i : Int} (hi : 0 ≤ i) (h : SqL K H l (ns.map V.int)) (q : ∀ p H', H p = none → Same H H' → Flow H' p → Q (.ref p) H') : spFlow K ([.ref l, .int i] ++ []) H Q E :=
  ⟨l, ns, i.toNat, by rw [Int.toNat_of_nonneg hi]; rfl, h, q⟩
theorem ok_flow (T : Txt P K mg A) : FnOk P w K mg base CX0 1 A.a__law_flow A.d__law_flow ["script", "place"] (spFlow K) := by
  refine T.F__law_flow.ok sc__law_flow (fun vs H Q E h => ?_) (fun cdv A' outer s H vs Q E hr h => ?_)
  · obtain ⟨l, ns, j, rfl, _⟩ := h
    rfl
  · obtain ⟨l, ns, j, rfl, hs, k⟩ := h
    refine ⟨_, (pss_cons (ps_set (i := 2) sc__law_flow.nd rfl (Or.inl rfl) pe_int)
  (pss_cons (ps_if (pt_cmpR op_lt (pv 1) (pe_callB call_len (by rfl) T.n_len (by decide +kernel) (pa_cons (pv 0) pa_nil)) (nomark _)) (pss_one (ps_set (i := 2) sc__law_flow.nd rfl (Or.inl rfl) (pe_callB call_abs (by rfl) T.n_abs (by decide +kernel) (pa_cons (pe_callTy call_int1 (by rfl) T.n_int (by decide +kernel) (pa_cons (pe_ix ix_seq (pv 0) (pv 1) (fun _ _ => rfl)) pa_nil)) pa_nil)))) pss_nil)
  (pss_one (ps_ret (pe_lst (pa_cons (pv 2) (pa_cons pe_int (pa_cons (pe_cmpR op_ge (pv 2) (pe_op op_pow pe_int pe_int) (nomark _)) (pa_cons (pv 1) pa_nil))))))))), ?_⟩
    walk_at "sx"
    refine ⟨_, _, rfl, .inl ⟨_, hs, rfl⟩, ?_⟩
    walk_at "sx"
    refine i_2 (fun hb => ?_) (fun hb => ?_)
    · walk_at "sx"
      have hj : j < ns.length := by
        rw [List.length_map] at hb
        omega
      refine r_ixS hs (v := .int (ns[j])) (atI_nat (by rw [List.getElem?_map, List.getElem?_eq_getElem hj]; rfl)) ?_
      walk_at "sx"
      exact k _ _ (by walk_at "fr") (by walk_at "sm") ⟨_, _, _, _, by assumption⟩
    · walk_at "sx"
      exact k _ _ (by walk_at "fr") (by walk_at "sm") ⟨_, _, _, _, by assumption⟩

end
end K07

set_option Elab.async false
set_option linter.all false
set_option maxRecDepth 100000
set_option maxHeartbeats 2000000
namespace K07
open PySem L2 Sx
local macro_rules | `(tactic| walk_at "cond") => `(tactic| first
  | assumption
  | decide
  | exact c_mul_r (by first | decide | omega) (by first | decide | omega)
  | exact c_mul_l (by first | decide | omega) (by first | decide | omega)
  | exact c_div (by first | decide | omega) (by first | decide | omega)
  | exact c_pow (by first | decide | omega) (by first | decide | omega) (by first | decide | omega)
  | omega)
local macro_rules | `(tactic| walk_at "ne") => `(tactic| first
  | assumption
  | (refine Ne.symm ?_; assumption)
  | (refine' Flow.ne ?nh ?nn; (case nn => assumption); (case nh => walk_at "fl"))
  | (refine Ne.symm ?_; refine' Flow.ne ?nh ?nn; (case nn => assumption); (case nh => walk_at "fl"))
  | (refine' ne_of_none ?nh ?nn; (case nn => assumption); (case nh => walk_at "at"))
  | (refine Ne.symm ?_; refine' ne_of_none ?nh ?nn; (case nn => assumption); (case nh => walk_at "at")))
local macro_rules | `(tactic| walk_at "at") => `(tactic| first
  | assumption
  | (refine Same.up (by assumption) ?_; walk_at "at")
  | (refine Keep.up (by assumption) (by walk_at "ne") ?_; walk_at "at"))
local macro_rules | `(tactic| walk_at "fl") => `(tactic| first
  | assumption
  | (refine Flow.same (by assumption) ?_; walk_at "fl")
  | (refine Flow.keep (by assumption) (by walk_at "ne") ?_; walk_at "fl"))
local macro_rules | `(tactic| walk_at "fr") => `(tactic| first
  | assumption
  | (refine same_free (by assumption) ?_; walk_at "fr")
  | (refine Keep.free (by assumption) (by walk_at "ne") ?_; walk_at "fr"))
local macro_rules | `(tactic| walk_at "kp") => `(tactic| first
  | assumption
  | exact Keep.refl _ _
  | (refine Keep.trans ?_ (by assumption); walk_at "kp")
  | (refine Keep.trans ?_ (Keep.same (by assumption)); walk_at "kp"))
local macro_rules | `(tactic| walk_at "sm") => `(tactic| first
  | assumption
  | exact L2.Same.refl _
  | (refine L2.Same.trans ?_ (by assumption); walk_at "sm"))
local macro_rules | `(tactic| walk_at "sz") => `(tactic| first | exact Nat.le_of_ble_eq_true rfl | omega)
local macro_rules | `(tactic| walk_at "new") => `(tactic| (intro p np; generalize hE : upd _ p _ = H2; have s2 := new_same np hE; have h2 := new_at hE; clear hE))
local macro_rules | `(tactic| walk_at "newx") => `(tactic| (intro e d na nd hda; generalize hE : upd (upd _ d _) e _ = H2; have s2 := newx_same na nd hE; have h2 := newx_at hE; have h3 := newx_d hda hE; clear hE))
local macro_rules | `(tactic| walk_at "s1") => `(tactic| first
  | with_reducible refine s_seq ?_
  | with_reducible refine s_asg ?_
  | with_reducible refine s_name ?_
  | with_reducible refine s_ret ?_
  | with_reducible refine s_c ?_
  | ((with_reducible refine' s_var ?hv ?_); (case hv => rfl))
  | with_reducible refine s_op ?_
  | with_reducible refine s_un ?_
  | with_reducible refine s_ifS ?_
  | with_reducible refine s_cb ?_
  | with_reducible refine s_cons ?_
  | with_reducible refine s_nil ?_
  | with_reducible refine s_call ?_
  | with_reducible refine s_test ?_
  | with_reducible refine s_tB ?_
  | with_reducible refine s_bl ?_
  | with_reducible refine s_and ?_
  | with_reducible refine s_or ?_
  | with_reducible refine s_not ?_
  | with_reducible refine s_andV ?_
  | with_reducible refine s_orV ?_
  | with_reducible refine s_notV ?_
  | with_reducible refine s_blV ?_
  | with_reducible refine s_if ?_
  | with_reducible refine s_tup ?_
  | with_reducible refine s_lst ?_
  | with_reducible refine s_drop ?_
  | with_reducible refine s_next ?_
  | with_reducible refine s_sub ?_
  | with_reducible refine s_bm ?_
  | with_reducible refine s_callK ?_
  | with_reducible refine s_brk ?_
  | with_reducible refine s_cont ?_
  | with_reducible refine r_I0 ?_
  | with_reducible refine r_U ?_
  | with_reducible refine r_eqI ?_
  | with_reducible refine r_neI ?_
  | with_reducible refine r_isB ?_
  | with_reducible refine r_notB ?_
  | with_reducible refine i_t ?_
  | with_reducible refine i_f ?_
  | with_reducible refine i_nt ?_
  | with_reducible refine i_nf ?_
  | ((with_reducible refine' r_I ?hc ?_); (case hc => walk_at "cond"))
  | (with_reducible refine .inl ⟨_, rfl, ?_⟩)
  | (with_reducible refine ⟨_, rfl, ?_⟩)
  | ((with_reducible refine' r_ixL ?hx ?ha ?_); (case hx => walk_at "at"); (case ha => rfl))
  | ((with_reducible refine' r_ixT ?hx ?ha ?_); (case hx => walk_at "at"); (case ha => rfl))
  | ((with_reducible refine' r_setL ?hx ?ha ?_); (case hx => walk_at "at"); (case ha => rfl); intro H2 k2 h2; (try dsimp only [List.set, Int.toNat] at h2))
  | ((with_reducible refine' r_app ?hx ?hl ?_); (case hx => walk_at "at"); (case hl => first | exact Nat.lt_of_ble_eq_true rfl | omega); intro H2 k2 h2)
  | ((with_reducible refine' ty_list ?hx ?_); (case hx => walk_at "at"))
  | (refine And.intro (by (with_reducible show _ ≤ sizeLine); walk_at "sz") ?_; walk_at "new")
  | with_reducible refine s_exv ?_
  | walk_at "newx")
local macro_rules | `(tactic| walk_at "sx") => `(tactic| repeat (walk_at "s1"))
local macro_rules | `(tactic| walk_at "s2") => `(tactic| first
  | ((with_reducible refine' r_ixG ?hx ?hn ?_); (case hx => walk_at "at"); (case hn => omega))
  | ((with_reducible refine' r_ixGT ?hx ?hn ?_); (case hx => walk_at "at"); (case hn => omega))
  | (with_reducible refine ig_cons (fun hix => ?_) (fun hix => ?_))
  | ((with_reducible refine ig_nil ?_); omega)
  | ((with_reducible refine' i_T ?hc ?_); (case hc => omega))
  | ((with_reducible refine' i_F ?hc ?_); (case hc => omega))
  | (with_reducible refine i_2 (fun hc => ?_) (fun hc => ?_))
  | (with_reducible refine i_n2 (fun hc => ?_) (fun hc => ?_)))
local macro_rules | `(tactic| walk_at "go") => `(tactic| repeat' (first | walk_at "s1" | walk_at "s2"))

local macro_rules | `(tactic| walk_at "s1") => `(tactic| first
  | with_reducible refine s_chain ?_
  | with_reducible refine s_fldS ?_
  | with_reducible refine s_fld ?_
  | with_reducible refine s_dIn ?_
  | with_reducible refine s_dNotIn ?_
  | with_reducible refine s_sl ?_
  | with_reducible refine s_noPart ?_
  | with_reducible refine s_part ?_
  | with_reducible refine s_meth ?_
  | with_reducible refine s_make ?_)

section
variable {P : Program} {w : World} {K : PySem.W.Frag} {mg : Str → Option Value} {base : Heap} {A : Ad}
/-- a test of one value -/
def spT1 (K : PySem.W.Frag) (f : V → Bool) : Sp := fun vs H Q _ => ∃ v, vs = [v] ∧ NI K H v ∧ Q (.bl (f v)) H
theorem c_t1 {H : Hp} {Q : VK} {E : XK} {f : V → Bool} {v : V} (n : NI K H v) (q : Q (.bl (f v)) H) : spT1 K f ([v] ++ []) H Q E := ⟨v, rfl, n, q⟩
theorem i_cases (v : V) : (∃ i, v = .int i) ∨ isI v = false := by cases v <;> simp [isI]
theorem num_no {f : Int → Bool} {v : V} (h : isI v = false) : num? f v = false := by cases v <;> first | rfl | cases h
theorem ok_isi (T : Txt P K mg A) : FnOk P w K mg base CX0 1 A.a_is_an_integer A.d_is_an_integer ["value"] (spT1 K isI) := by
  refine T.F_is_an_integer.ok sc_is_an_integer (fun vs H Q E h => ?_) (fun cdv A' outer s H vs Q E hr h => ?_)
  · obtain ⟨v, rfl, _⟩ := h
    rfl
  · obtain ⟨v, rfl, ⟨b, c, hb, hc, e⟩, k⟩ := h
    refine ⟨_, (pss_one (ps_ret (pe_and (pe_callB (id := "isinstance") (r := rIsiV K) call_isiV (by rfl) T.n_isinstance (by decide +kernel) (pa_cons (pv 0) (pa_cons (pe_bltn (v := .ty "int") (u := .type "int") (by rfl) T.n_int (by decide +kernel) rfl) pa_nil))) (pe_one (pe_not (pe_callB (id := "isinstance") (r := rIsiV K) call_isiV (by rfl) T.n_isinstance (by decide +kernel) (pa_cons (pv 0) (pa_cons (pe_bltn (v := .ty "bool") (u := .type "bool") (by rfl) T.n_bool (by decide +kernel) rfl) pa_nil)))))))), ?_⟩
    rw [← e] at k
    walk_at "sx"
    refine isi_in hb ?_
    cases b
    · walk_at "sx"
      exact k
    · walk_at "sx"
      refine isi_in hc ?_
      walk_at "sx"
      exact k
abbrev isN : V → Bool := num? fun i => decide (0 ≤ i)
theorem ok_isn (T : Txt P K mg A) : FnOk P w K mg base CX0 2 A.a_is_number A.d_is_number ["value"] (spT1 K isN) := by
  refine T.F_is_number.ok sc_is_number (fun vs H Q E h => ?_) (fun cdv A' outer s H vs Q E hr h => ?_)
  · obtain ⟨v, rfl, _⟩ := h
    rfl
  · obtain ⟨v, rfl, n, k⟩ := h
    have G_is_an_integer := ok_isi (w := w) (base := base) T
    refine ⟨_, (pss_one (ps_ret (pe_and (pe_call G_is_an_integer (hr.mono (by decide)) rfl T.g_is_an_integer T.F_is_an_integer.kp (B_is_an_integer T) .nil pass0 (pa_cons (pv 0) pa_nil)) (pe_one (pe_cmpR op_ge (pv 0) pe_int (nomark _)))))), ?_⟩
    walk_at "sx"
    refine c_t1 n ?_
    rcases i_cases v with ⟨i, rfl⟩ | h
    · walk_at "sx"
      refine iteT ?_
      walk_at "sx"
      exact k
    · have e : isN v = false := num_no h
      rw [e] at k
      rw [h]
      walk_at "sx"
      exact k
theorem ok_isv (T : Txt P K mg A) : FnOk P w K mg base CX0 2 A.a_is_value A.d_is_value ["value"] (spT1 K isBit) := by
  refine T.F_is_value.ok sc_is_value (fun vs H Q E h => ?_) (fun cdv A' outer s H vs Q E hr h => ?_)
  · obtain ⟨v, rfl, _⟩ := h
    rfl
  · obtain ⟨v, rfl, n, k⟩ := h
    have G_is_an_integer := ok_isi (w := w) (base := base) T
    refine ⟨_, (pss_one (ps_ret (pe_and (pe_call G_is_an_integer (hr.mono (by decide)) rfl T.g_is_an_integer T.F_is_an_integer.kp (B_is_an_integer T) .nil pass0 (pa_cons (pv 0) pa_nil)) (pe_one (pe_chain op_le op_le pe_int (pv 0) pe_int))))), ?_⟩
    walk_at "sx"
    refine c_t1 n ?_
    rcases i_cases v with ⟨i, rfl⟩ | h
    · walk_at "sx"
      refine iteT ?_
      have e : isBit (.int i) = (decide (0 ≤ i) && decide (i ≤ 1)) := rfl
      rw [e] at k
      walk_at "sx"
      refine i_2 (fun hc => ?_) (fun hc => ?_)
      · rw [decide_eq_true hc] at k
        walk_at "sx"
        exact k
      · rw [decide_eq_false hc] at k
        exact k
    · have e : isBit v = false := num_no h
      rw [e] at k
      rw [h]
      walk_at "sx"
      exact k
/-- is_row -/
def spRow (K : PySem.W.Frag) : Sp := fun vs H Q _ => ∃ v n, vs = [v, .int n] ∧ ((IsIn K H v "tuple" false ∧ Q (.bl false) H) ∨
  ∃ p xs, v = .ref p ∧ H p = some (.tup xs) ∧ (∀ x ∈ xs, NI K H x) ∧ xs.length < 1000 ∧ ∀ H', Same H H' → Q (.bl (decide ((xs.length : Int) = n) && xs.all isBit)) H')
theorem ok_row (T : Txt P K mg A) : FnOk P w K mg base CX0 3 A.a_is_row A.d_is_row ["value", "size"] (spRow K) := by
  refine T.F_is_row.ok sc_is_row (fun vs H Q E h => ?_) (fun cdv A' outer s H vs Q E hr h => ?_)
  · obtain ⟨v, m, rfl, _⟩ := h
    rfl
  · obtain ⟨v, m, rfl, h⟩ := h
    have G_is_value := ok_isv (w := w) (base := base) T
    refine ⟨_, (pss_one (ps_ret (pe_and (pe_callB (id := "isinstance") (r := rIsiV K) call_isiV (by rfl) T.n_isinstance (by decide +kernel) (pa_cons (pv 0) (pa_cons (pe_bltn (v := .ty "tuple") (u := .type "tuple") (by rfl) T.n_tuple (by decide +kernel) rfl) pa_nil))) (pe_and (pe_cmpR op_eq (pe_callB call_len (by rfl) T.n_len (by decide +kernel) (pa_cons (pv 0) pa_nil)) (pv 1) (nomark _)) (pe_one (pe_callB (cr_all rfl) (by rfl) T.n_all (by decide +kernel) (pa_cons (pe_lc (own := [("member", 2)]) (g := (gName 2)) (by rfl) sc_is_row.nd (pi_tup (pv 0)) (blkOk_by (own := [("member", 2)]) (N := ["value", "size", "member"]) (sc := defScope s_is_row) (by decide +kernel)) (fun _ _ _ _ _ => (pg_name (i := 2) sc_is_row.nd rfl (Or.inl rfl))) (fun _ _ _ _ _ => pts_nil) (fun _ _ _ _ _ => (pe_call G_is_value (hr.mono (by decide)) rfl T.g_is_value T.F_is_value.kp (B_is_value T) .nil pass0 (pa_cons (pv 2) pa_nil)))) pa_nil))))))), ?_⟩
    walk_at "sx"
    rcases h with ⟨no, k⟩ | ⟨p, xs, rfl, hp, mem, sz, k⟩
    · refine isi_in no ?_
      walk_at "sx"
      exact k
    · refine isi_in (in_tup hp) ?_
      walk_at "sx"
      refine ⟨_, _, rfl, .inr ⟨xs, SqT.of hp, rfl⟩, ?_⟩
      walk_at "sx"
      refine i_2 (fun hc => ?_) (fun hc => ?_)
      · rw [decide_eq_true hc] at k
        walk_at "sx"
        refine ⟨_, rfl, p, rfl, ⟨_, SqT.of hp⟩, fun D hD => lc_tup (K := K) (a := p) (xs := xs) (fun i H' => Same H H' ∧ H' D = some (.lst ((xs.take i).map fun x => V.bl (isBit x)))) ⟨Same.new hD, upd_same⟩ (fun i H' _ ⟨s, _⟩ => SqT.of (s _ _ hp)) ?_ ?_⟩
        · rintro i x H' hx ⟨s', hD'⟩
          refine s_name ⟨rfl, ?_⟩
          refine s_yes (i_t ?_)
          walk_at "sx"
          refine c_t1 (ni_same s' (mem x (List.mem_of_getElem? hx))) ?_
          refine ⟨_, hD', ?_, Sx.Same.put s' hD, ?_⟩
          · rw [List.length_map, List.length_take]
            exact Nat.lt_of_le_of_lt (Nat.min_le_right _ _) (by show xs.length < 16777216; omega)
          · rw [upd_same, List.take_succ, hx]
            simp
        · rintro H' ⟨s', hD'⟩
          rw [List.take_length] at hD'
          have e : (xs.map fun x => V.bl (isBit x)) = (xs.map isBit).map V.bl := by
            rw [List.map_map]
            rfl
          rw [e] at hD'
          have k' := k H' s'
          rw [Bool.true_and, show xs.all isBit = (xs.map isBit).all id by rw [List.all_map]; rfl] at k'
          walk_at "sx"
          exact r_all hD' k'
      · rw [decide_eq_false hc] at k
        exact k H (L2.Same.refl _)
end
end K07

set_option Elab.async false
set_option linter.all false
set_option maxRecDepth 100000
set_option maxHeartbeats 2000000
namespace K07
open PySem L2 Sx
local macro_rules | `(tactic| walk_at "cond") => `(tactic| first
  | assumption
  | decide
  | exact c_mul_r (by first | decide | omega) (by first | decide | omega)
  | exact c_mul_l (by first | decide | omega) (by first | decide | omega)
  | exact c_div (by first | decide | omega) (by first | decide | omega)
  | exact c_pow (by first | decide | omega) (by first | decide | omega) (by first | decide | omega)
  | omega)
local macro_rules | `(tactic| walk_at "ne") => `(tactic| first
  | assumption
  | (refine Ne.symm ?_; assumption)
  | (refine' Flow.ne ?nh ?nn; (case nn => assumption); (case nh => walk_at "fl"))
  | (refine Ne.symm ?_; refine' Flow.ne ?nh ?nn; (case nn => assumption); (case nh => walk_at "fl"))
  | (refine' ne_of_none ?nh ?nn; (case nn => assumption); (case nh => walk_at "at"))
  | (refine Ne.symm ?_; refine' ne_of_none ?nh ?nn; (case nn => assumption); (case nh => walk_at "at")))
local macro_rules | `(tactic| walk_at "at") => `(tactic| first
  | assumption
  | (refine Same.up (by assumption) ?_; walk_at "at")
  | (refine Keep.up (by assumption) (by walk_at "ne") ?_; walk_at "at"))
local macro_rules | `(tactic| walk_at "fl") => `(tactic| first
  | assumption
  | (refine Flow.same (by assumption) ?_; walk_at "fl")
  | (refine Flow.keep (by assumption) (by walk_at "ne") ?_; walk_at "fl"))
local macro_rules | `(tactic| walk_at "fr") => `(tactic| first
  | assumption
  | (refine same_free (by assumption) ?_; walk_at "fr")
  | (refine Keep.free (by assumption) (by walk_at "ne") ?_; walk_at "fr"))
local macro_rules | `(tactic| walk_at "kp") => `(tactic| first
  | assumption
  | exact Keep.refl _ _
  | (refine Keep.trans ?_ (by assumption); walk_at "kp")
  | (refine Keep.trans ?_ (Keep.same (by assumption)); walk_at "kp"))
local macro_rules | `(tactic| walk_at "sm") => `(tactic| first
  | assumption
  | exact L2.Same.refl _
  | (refine L2.Same.trans ?_ (by assumption); walk_at "sm"))
local macro_rules | `(tactic| walk_at "sz") => `(tactic| first | exact Nat.le_of_ble_eq_true rfl | omega)
local macro_rules | `(tactic| walk_at "new") => `(tactic| (intro p np; generalize hE : upd _ p _ = H2; have s2 := new_same np hE; have h2 := new_at hE; clear hE))
local macro_rules | `(tactic| walk_at "newx") => `(tactic| (intro e d na nd hda; generalize hE : upd (upd _ d _) e _ = H2; have s2 := newx_same na nd hE; have h2 := newx_at hE; have h3 := newx_d hda hE; clear hE))
local macro_rules | `(tactic| walk_at "s1") => `(tactic| first
  | with_reducible refine s_seq ?_
  | with_reducible refine s_asg ?_
  | with_reducible refine s_name ?_
  | with_reducible refine s_ret ?_
  | with_reducible refine s_c ?_
  | ((with_reducible refine' s_var ?hv ?_); (case hv => rfl))
  | with_reducible refine s_op ?_
  | with_reducible refine s_un ?_
  | with_reducible refine s_ifS ?_
  | with_reducible refine s_cb ?_
  | with_reducible refine s_cons ?_
  | with_reducible refine s_nil ?_
  | with_reducible refine s_call ?_
  | with_reducible refine s_test ?_
  | with_reducible refine s_tB ?_
  | with_reducible refine s_bl ?_
  | with_reducible refine s_and ?_
  | with_reducible refine s_or ?_
  | with_reducible refine s_not ?_
  | with_reducible refine s_andV ?_
  | with_reducible refine s_orV ?_
  | with_reducible refine s_notV ?_
  | with_reducible refine s_blV ?_
  | with_reducible refine s_if ?_
  | with_reducible refine s_tup ?_
  | with_reducible refine s_lst ?_
  | with_reducible refine s_drop ?_
  | with_reducible refine s_next ?_
  | with_reducible refine s_sub ?_
  | with_reducible refine s_bm ?_
  | with_reducible refine s_callK ?_
  | with_reducible refine s_brk ?_
  | with_reducible refine s_cont ?_
  | with_reducible refine r_I0 ?_
  | with_reducible refine r_U ?_
  | with_reducible refine r_eqI ?_
  | with_reducible refine r_neI ?_
  | with_reducible refine r_isB ?_
  | with_reducible refine r_notB ?_
  | with_reducible refine i_t ?_
  | with_reducible refine i_f ?_
  | with_reducible refine i_nt ?_
  | with_reducible refine i_nf ?_
  | ((with_reducible refine' r_I ?hc ?_); (case hc => walk_at "cond"))
  | (with_reducible refine .inl ⟨_, rfl, ?_⟩)
  | (with_reducible refine ⟨_, rfl, ?_⟩)
  | ((with_reducible refine' r_ixL ?hx ?ha ?_); (case hx => walk_at "at"); (case ha => rfl))
  | ((with_reducible refine' r_ixT ?hx ?ha ?_); (case hx => walk_at "at"); (case ha => rfl))
  | ((with_reducible refine' r_setL ?hx ?ha ?_); (case hx => walk_at "at"); (case ha => rfl); intro H2 k2 h2; (try dsimp only [List.set, Int.toNat] at h2))
  | ((with_reducible refine' r_app ?hx ?hl ?_); (case hx => walk_at "at"); (case hl => first | exact Nat.lt_of_ble_eq_true rfl | omega); intro H2 k2 h2)
  | ((with_reducible refine' ty_list ?hx ?_); (case hx => walk_at "at"))
  | (refine And.intro (by (with_reducible show _ ≤ sizeLine); walk_at "sz") ?_; walk_at "new")
  | with_reducible refine s_exv ?_
  | walk_at "newx")
local macro_rules | `(tactic| walk_at "sx") => `(tactic| repeat (walk_at "s1"))
local macro_rules | `(tactic| walk_at "s2") => `(tactic| first
  | ((with_reducible refine' r_ixG ?hx ?hn ?_); (case hx => walk_at "at"); (case hn => omega))
  | ((with_reducible refine' r_ixGT ?hx ?hn ?_); (case hx => walk_at "at"); (case hn => omega))
  | (with_reducible refine ig_cons (fun hix => ?_) (fun hix => ?_))
  | ((with_reducible refine ig_nil ?_); omega)
  | ((with_reducible refine' i_T ?hc ?_); (case hc => omega))
  | ((with_reducible refine' i_F ?hc ?_); (case hc => omega))
  | (with_reducible refine i_2 (fun hc => ?_) (fun hc => ?_))
  | (with_reducible refine i_n2 (fun hc => ?_) (fun hc => ?_)))
local macro_rules | `(tactic| walk_at "go") => `(tactic| repeat' (first | walk_at "s1" | walk_at "s2"))

local macro_rules | `(tactic| walk_at "s1") => `(tactic| first
  | with_reducible refine s_chain ?_
  | with_reducible refine s_fldS ?_
  | with_reducible refine s_fld ?_
  | with_reducible refine s_dIn ?_
  | with_reducible refine s_dNotIn ?_
  | with_reducible refine s_sl ?_
  | with_reducible refine s_noPart ?_
  | with_reducible refine s_part ?_
  | with_reducible refine s_meth ?_
  | with_reducible refine s_make ?_)

section
variable {P : Program} {w : World} {K : PySem.W.Frag} {mg : Str → Option Value} {base : Heap} {A : Ad}
/-- bits -/
def Bits (n : Nat) (r : List Int) : Prop := r.length = n ∧ ∀ x ∈ r, x = 0 ∨ x = 1
abbrev rf (p : Addr × List Int) : V := .ref p.1
/-- rows of n bits that stand each at its place -/
def RowsAt (H : Hp) (n : Nat) (ks : List (Addr × List Int)) : Prop := ∀ p ∈ ks, H p.1 = some (.tup (p.2.map V.int)) ∧ Bits n p.2
theorem RowsAt.same {H H' : Hp} {n : Nat} {ks : List (Addr × List Int)} (e : Same H H') (h : RowsAt H n ks) : RowsAt H' n ks := fun p hp => ⟨e _ _ (h p hp).1, (h p hp).2⟩
theorem bit_all {n : Nat} {r : List Int} (h : Bits n r) : ((r.map V.int).all isBit) = true := by
  rw [List.all_eq_true]
  intro x hx
  obtain ⟨i, hi, rfl⟩ := List.mem_map.mp hx
  rcases h.2 i hi with rfl | rfl <;> rfl
theorem ints_ni {H : Hp} {r : List Int} : ∀ x ∈ r.map V.int, NI K H x := fun x hx => by
  obtain ⟨i, hi, rfl⟩ := List.mem_map.mp hx
  exact ni_int i
theorem c_row {H : Hp} {Q : VK} {E : XK} {p : Addr} {r : List Int} {n m : Nat} (hp : H p = some (.tup (r.map V.int))) (b : Bits m r) (sm : m < 1000) (q : ∀ H', Same H H' → Q (.bl (decide ((m : Int) = n))) H') : spRow K ([.ref p, .int n] ++ []) H Q E :=
  ⟨_, _, rfl, .inr ⟨p, _, rfl, hp, ints_ni, by rw [List.length_map, b.1]; exact sm, fun H' s => by
    rw [bit_all b, Bool.and_true, List.length_map, b.1]
    exact q H' s⟩⟩
theorem kit_any_l : PySem.W.kitAny K (.type "list") [.type "list", .type "tuple"] = some true := kitAny_cons (b := true) (kit_ty (by decide +kernel)) (fun z => nomatch z) (fun _ => rfl)
/-- are_rows of what are rows -/
def spAre : Sp := fun vs H Q _ => ∃ (l : Addr) (n : Nat) (ks : List (Addr × List Int)), vs = [.ref l, .int n] ∧ H l = some (.lst (ks.map rf)) ∧ ks ≠ [] ∧ ks.length < 1000 ∧ n < 1000 ∧ RowsAt H n ks ∧ ∀ H', Same H H' → Q (.bl true) H'
theorem ok_are (T : Txt P K mg A) : FnOk P w K mg base CX0 4 A.a_are_rows A.d_are_rows ["rows", "size"] spAre := by
  refine T.F_are_rows.ok sc_are_rows (fun vs H Q E h => ?_) (fun cdv A' outer s H vs Q E hr h => ?_)
  · obtain ⟨l, n, ks, rfl, _⟩ := h
    rfl
  · obtain ⟨l, n, ks, rfl, hl, ne, sz, sn, rows, k⟩ := h
    have G_is_row := ok_row (w := w) (base := base) T
    refine ⟨_, (pss_cons (ps_if (PW.pt (pw_or (pt_not (pt_val (pe_callB (id := "isinstance") (r := rIsiT K) call_isiT (by rfl) T.n_isinstance (by decide +kernel) (pa_cons (pv 0) (pa_cons (pe_tup (pa_cons (pe_bltn (v := .ty "list") (u := .type "list") (by rfl) T.n_list (by decide +kernel) rfl) (pa_cons (pe_bltn (v := .ty "tuple") (u := .type "tuple") (by rfl) T.n_tuple (by decide +kernel) rfl) pa_nil))) pa_nil))))) (pw_or1 (pt_cmpR op_eq (pe_callB call_len (by rfl) T.n_len (by decide +kernel) (pa_cons (pv 0) pa_nil)) pe_int (nomark _))))) (pss_one (ps_ret pe_bl)) pss_nil)
  (pss_one (ps_ret (pe_callB (cr_all rfl) (by rfl) T.n_all (by decide +kernel) (pa_cons (pe_lc (own := [("row", 2)]) (g := (gName 2)) (by rfl) sc_are_rows.nd (pi_list (pv 0)) (blkOk_by (own := [("row", 2)]) (N := ["rows", "size", "row"]) (sc := defScope s_are_rows) (by decide +kernel)) (fun _ _ _ _ _ => (pg_name (i := 2) sc_are_rows.nd rfl (Or.inl rfl))) (fun _ _ _ _ _ => pts_nil) (fun _ _ _ _ _ => (pe_call G_is_row (hr.mono (by decide)) rfl T.g_is_row T.F_is_row.kp (B_is_row T) .nil pass0 (pa_cons (pv 2) (pa_cons (pv 1) pa_nil))))) pa_nil))))), ?_⟩
    walk_at "sx"
    rename_i pt nt H1 s1 ht
    refine ⟨.ref l, pt, _, _, [.type "list", .type "tuple"], true, rfl, ht, .cons (.ty _) (.cons (.ty _) .nil), .base (.lst (s1 _ _ hl)), kit_any_l, ?_⟩
    walk_at "sx"
    refine ⟨_, _, rfl, .inl ⟨_, SqL.of (s1 _ _ hl), rfl⟩, ?_⟩
    walk_at "sx"
    have hn : ¬ (((ks.map rf).length : Int) = 0) := by
      rw [List.length_map]
      cases ks with
      | nil => exact absurd rfl ne
      | cons a b => simp; omega
    refine i_F hn ?_
    walk_at "sx"
    refine ⟨_, rfl, l, rfl, ⟨_, SqL.of (s1 _ _ hl)⟩, fun D hD => lc_list (K := K) (a := l) (xs := ks.map rf) (fun i H' => Same H1 H' ∧ H' D = some (.lst ((ks.take i).map fun _ => V.bl true))) ⟨Same.new hD, upd_same⟩ (fun i H' _ ⟨s, _⟩ => SqL.of (s _ _ (s1 _ _ hl))) ?_ ?_⟩
    · rintro i x H' hx ⟨s', hD'⟩
      obtain ⟨p, hp, rfl⟩ : ∃ p, ks[i]? = some p ∧ rf p = x := by
        rw [List.getElem?_map] at hx
        exact Option.map_eq_some_iff.mp hx
      obtain ⟨at', b⟩ := rows.same s1 p (List.mem_of_getElem? hp)
      refine s_name ⟨rfl, ?_⟩
      refine s_yes (i_t ?_)
      walk_at "sx"
      refine c_row (s' _ _ at') b sn fun H3 s3 => ?_
      rw [decide_eq_true rfl]
      refine ⟨_, s3 _ _ hD', ?_, Sx.Same.put (s'.trans s3) hD, ?_⟩
      · rw [List.length_map, List.length_take]
        exact Nat.lt_of_le_of_lt (Nat.min_le_right _ _) (by show ks.length < 16777216; omega)
      · rw [upd_same, List.take_succ, hp]
        simp
    · rintro H' ⟨s', hD'⟩
      rw [List.length_map, List.take_length] at hD'
      have e : (ks.map fun _ => V.bl true) = (ks.map fun _ => true).map V.bl := by
        rw [List.map_map]
        rfl
      rw [e] at hD'
      walk_at "sx"
      refine r_all hD' ?_
      have z : ((ks.map fun _ => true).all id) = true := by
        rw [List.all_eq_true]
        intro x hx
        obtain ⟨_, _, rfl⟩ := List.mem_map.mp hx
        rfl
      rw [z]
      exact k _ (s1.trans s')
end
end K07

set_option Elab.async false
set_option linter.all false
set_option maxRecDepth 100000
set_option maxHeartbeats 4000000
namespace K07
open PySem L2 Sx
local macro_rules | `(tactic| walk_at "cond") => `(tactic| first
  | assumption
  | decide
  | exact c_mul_r (by first | decide | omega) (by first | decide | omega)
  | exact c_mul_l (by first | decide | omega) (by first | decide | omega)
  | exact c_div (by first | decide | omega) (by first | decide | omega)
  | exact c_pow (by first | decide | omega) (by first | decide | omega) (by first | decide | omega)
  | omega)
local macro_rules | `(tactic| walk_at "ne") => `(tactic| first
  | assumption
  | (refine Ne.symm ?_; assumption)
  | (refine' Flow.ne ?nh ?nn; (case nn => assumption); (case nh => walk_at "fl"))
  | (refine Ne.symm ?_; refine' Flow.ne ?nh ?nn; (case nn => assumption); (case nh => walk_at "fl"))
  | (refine' ne_of_none ?nh ?nn; (case nn => assumption); (case nh => walk_at "at"))
  | (refine Ne.symm ?_; refine' ne_of_none ?nh ?nn; (case nn => assumption); (case nh => walk_at "at")))
local macro_rules | `(tactic| walk_at "at") => `(tactic| first
  | assumption
  | (refine Same.up (by assumption) ?_; walk_at "at")
  | (refine Keep.up (by assumption) (by walk_at "ne") ?_; walk_at "at"))
local macro_rules | `(tactic| walk_at "fl") => `(tactic| first
  | assumption
  | (refine Flow.same (by assumption) ?_; walk_at "fl")
  | (refine Flow.keep (by assumption) (by walk_at "ne") ?_; walk_at "fl"))
local macro_rules | `(tactic| walk_at "fr") => `(tactic| first
  | assumption
  | (refine same_free (by assumption) ?_; walk_at "fr")
  | (refine Keep.free (by assumption) (by walk_at "ne") ?_; walk_at "fr"))
local macro_rules | `(tactic| walk_at "kp") => `(tactic| first
  | assumption
  | exact Keep.refl _ _
  | (refine Keep.trans ?_ (by assumption); walk_at "kp")
  | (refine Keep.trans ?_ (Keep.same (by assumption)); walk_at "kp"))
local macro_rules | `(tactic| walk_at "sm") => `(tactic| first
  | assumption
  | exact L2.Same.refl _
  | (refine L2.Same.trans ?_ (by assumption); walk_at "sm"))
local macro_rules | `(tactic| walk_at "sz") => `(tactic| first | exact Nat.le_of_ble_eq_true rfl | omega)
local macro_rules | `(tactic| walk_at "new") => `(tactic| (intro p np; generalize hE : upd _ p _ = H2; have s2 := new_same np hE; have h2 := new_at hE; clear hE))
local macro_rules | `(tactic| walk_at "newx") => `(tactic| (intro e d na nd hda; generalize hE : upd (upd _ d _) e _ = H2; have s2 := newx_same na nd hE; have h2 := newx_at hE; have h3 := newx_d hda hE; clear hE))
local macro_rules | `(tactic| walk_at "s1") => `(tactic| first
  | with_reducible refine s_seq ?_
  | with_reducible refine s_asg ?_
  | with_reducible refine s_name ?_
  | with_reducible refine s_ret ?_
  | with_reducible refine s_c ?_
  | ((with_reducible refine' s_var ?hv ?_); (case hv => rfl))
  | with_reducible refine s_op ?_
  | with_reducible refine s_un ?_
  | with_reducible refine s_ifS ?_
  | with_reducible refine s_cb ?_
  | with_reducible refine s_cons ?_
  | with_reducible refine s_nil ?_
  | with_reducible refine s_call ?_
  | with_reducible refine s_test ?_
  | with_reducible refine s_tB ?_
  | with_reducible refine s_bl ?_
  | with_reducible refine s_and ?_
  | with_reducible refine s_or ?_
  | with_reducible refine s_not ?_
  | with_reducible refine s_andV ?_
  | with_reducible refine s_orV ?_
  | with_reducible refine s_notV ?_
  | with_reducible refine s_blV ?_
  | with_reducible refine s_if ?_
  | with_reducible refine s_tup ?_
  | with_reducible refine s_lst ?_
  | with_reducible refine s_drop ?_
  | with_reducible refine s_next ?_
  | with_reducible refine s_sub ?_
  | with_reducible refine s_bm ?_
  | with_reducible refine s_callK ?_
  | with_reducible refine s_brk ?_
  | with_reducible refine s_cont ?_
  | with_reducible refine r_I0 ?_
  | with_reducible refine r_U ?_
  | with_reducible refine r_eqI ?_
  | with_reducible refine r_neI ?_
  | with_reducible refine r_isB ?_
  | with_reducible refine r_notB ?_
  | with_reducible refine i_t ?_
  | with_reducible refine i_f ?_
  | with_reducible refine i_nt ?_
  | with_reducible refine i_nf ?_
  | ((with_reducible refine' r_I ?hc ?_); (case hc => walk_at "cond"))
  | (with_reducible refine .inl ⟨_, rfl, ?_⟩)
  | (with_reducible refine ⟨_, rfl, ?_⟩)
  | ((with_reducible refine' r_ixL ?hx ?ha ?_); (case hx => walk_at "at"); (case ha => rfl))
  | ((with_reducible refine' r_ixT ?hx ?ha ?_); (case hx => walk_at "at"); (case ha => rfl))
  | ((with_reducible refine' r_setL ?hx ?ha ?_); (case hx => walk_at "at"); (case ha => rfl); intro H2 k2 h2; (try dsimp only [List.set, Int.toNat] at h2))
  | ((with_reducible refine' r_app ?hx ?hl ?_); (case hx => walk_at "at"); (case hl => first | exact Nat.lt_of_ble_eq_true rfl | omega); intro H2 k2 h2)
  | ((with_reducible refine' ty_list ?hx ?_); (case hx => walk_at "at"))
  | (refine And.intro (by (with_reducible show _ ≤ sizeLine); walk_at "sz") ?_; walk_at "new")
  | with_reducible refine s_exv ?_
  | walk_at "newx")
local macro_rules | `(tactic| walk_at "sx") => `(tactic| repeat (walk_at "s1"))
local macro_rules | `(tactic| walk_at "s2") => `(tactic| first
  | ((with_reducible refine' r_ixG ?hx ?hn ?_); (case hx => walk_at "at"); (case hn => omega))
  | ((with_reducible refine' r_ixGT ?hx ?hn ?_); (case hx => walk_at "at"); (case hn => omega))
  | (with_reducible refine ig_cons (fun hix => ?_) (fun hix => ?_))
  | ((with_reducible refine ig_nil ?_); omega)
  | ((with_reducible refine' i_T ?hc ?_); (case hc => omega))
  | ((with_reducible refine' i_F ?hc ?_); (case hc => omega))
  | (with_reducible refine i_2 (fun hc => ?_) (fun hc => ?_))
  | (with_reducible refine i_n2 (fun hc => ?_) (fun hc => ?_)))
local macro_rules | `(tactic| walk_at "go") => `(tactic| repeat' (first | walk_at "s1" | walk_at "s2"))

local macro_rules | `(tactic| walk_at "s1") => `(tactic| first
  | with_reducible refine s_chain ?_
  | with_reducible refine s_fldS ?_
  | with_reducible refine s_fld ?_
  | with_reducible refine s_dIn ?_
  | with_reducible refine s_dNotIn ?_
  | with_reducible refine s_sl ?_
  | with_reducible refine s_noPart ?_
  | with_reducible refine s_part ?_
  | with_reducible refine s_meth ?_
  | with_reducible refine s_make ?_)

section
variable {P : Program} {w : World} {K : PySem.W.Frag} {mg : Str → Option Value} {base : Heap} {A : Ad}
abbrev rkey (p : Addr × List Int) : List L2.Key × V := (p.2.map Sum.inl, .bl true)
/-- the rows ascending, each once -/
def Asc (ks : List (Addr × List Int)) : Prop := (ks.map (·.2)).Nodup ∧ ks.Pairwise (fun q r => TS.code 2 q.2 ≤ TS.code 2 r.2)
/-- a list of rules stands at x: its rows ks, each at its place -/
def RuAt (C : Addr) (H : Hp) (x : Addr) (n : Nat) (ks : List (Addr × List Int)) : Prop := ∃ dx t kn, H x = some (.ins C dx [("size", .int n), ("rows", .ref t), ("_known", .ref kn)]) ∧ H t = some (.tup (ks.map rf)) ∧ H kn = some (.dT (ks.map rkey)) ∧
  RowsAt H n ks ∧ Asc ks ∧ ks ≠ [] ∧ ks.length < 64
theorem RuAt.same {C : Addr} {H H' : Hp} {x : Addr} {n : Nat} {ks : List (Addr × List Int)} (e : Same H H') (h : RuAt C H x n ks) : RuAt C H' x n ks := by
  obtain ⟨dx, t, kn, h1, h2, h3, h4, h5⟩ := h
  exact ⟨dx, t, kn, e _ _ h1, e _ _ h2, e _ _ h3, h4.same e, h5⟩
theorem bits_bd {n : Nat} {r : List Int} (h : Bits n r) : TS.Bd 2 r := fun m hm => by
  rcases h.2 m hm with rfl | rfl <;> decide
theorem rf_sq {H : Hp} {n : Nat} {ks : List (Addr × List Int)} (h : RowsAt H n ks) : ∀ p ∈ ks, SqT K H p.1 (p.2.map V.int) := fun p hp => SqT.of (h p hp).1
/-- what is made of the rows of a sequence: the same rows, ascending, each once -/
def Of (ks ks' : List (Addr × List Int)) : Prop := (∀ p ∈ ks', p ∈ ks) ∧ (∀ p ∈ ks, p.2 ∈ ks'.map (·.2)) ∧ Asc ks' ∧ ks' ≠ [] ∧ ks'.length < 64
theorem one_pw {α : Type} {R : α → α → Prop} : ∀ {L : List α}, L.length ≤ 1 → L.Pairwise R
  | [], _ => .nil
  | [_], _ => List.pairwise_singleton _ _
theorem of_ne {ks L : List (Addr × List Int)} (ne : ks ≠ []) (all : ∀ p ∈ ks, p.2 ∈ L.map (·.2)) : L ≠ [] := fun e => by
  subst e
  cases ks with
  | nil => exact ne rfl
  | cons q r => exact nomatch all q List.mem_cons_self
theorem inl_inj : ∀ {r r' : List Int}, (r.map Sum.inl : List L2.Key) = r'.map Sum.inl → r = r'
  | [], [], _ => rfl
  | a :: r, b :: r', e => by
    rw [List.map_cons, List.map_cons] at e
    obtain ⟨h1, h2⟩ := List.cons.inj e
    rw [Sum.inl.inj h1, inl_inj h2]
theorem valV_none {κ : Type} [DecidableEq κ] {k : κ} : ∀ {kvs : List (κ × V)}, (∀ p ∈ kvs, p.1 ≠ k) → valV kvs k = none
  | [], _ => rfl
  | p :: r, h => by
    rw [valV_neg (h p List.mem_cons_self)]
    exact valV_none fun q hq => h q (List.mem_cons_of_mem _ hq)
theorem rkeys_next {L : List (Addr × List Int)} (nd : (L.map (·.2)).Nodup) {i : Nat} {q : Addr × List Int} (hq : L[i]? = some q) : putK ((L.take i).map rkey) (q.2.map Sum.inl) (.bl true) = (L.take (i + 1)).map rkey := by
  rw [List.take_succ, hq, putK_new]
  · simp
  · refine valV_none fun p hp e => ?_
    obtain ⟨z, hz, rfl⟩ := List.mem_map.mp hp
    have e2 : z.2 = q.2 := inl_inj e
    obtain ⟨j, hj, hjz⟩ := List.getElem_of_mem hz
    rw [List.length_take] at hj
    have hji : j < i := by omega
    have hjl : j < L.length := by omega
    rw [List.getElem_take] at hjz
    have hil : i < L.length := (List.getElem?_eq_some_iff.mp hq).1
    have hqi : L[i] = q := (List.getElem?_eq_some_iff.mp hq).2
    have z1 := List.pairwise_iff_getElem.mp nd j i (by rw [List.length_map]; exact hjl) (by rw [List.length_map]; exact hil) hji
    apply z1
    rw [List.getElem_map, List.getElem_map, hjz, hqi]
    exact e2
def spMake (C : Addr) : Sp := fun vs H Q _ => ∃ (x dx l : Addr) (n : Nat) (ks : List (Addr × List Int)), vs = [.ref x, .int n, .ref l] ∧ H x = some (.ins C dx []) ∧ H l = some (.lst (ks.map rf)) ∧ ks ≠ [] ∧ ks.length < 64 ∧ n < 1000 ∧ RowsAt H n ks ∧
  (∀ p ∈ ks, p.1 ≠ x) ∧ ∀ H' ks', Keep x H H' → Of ks ks' → RuAt C H' x n ks' → Q .non H'
theorem ok_make (T : Txt P K mg A) : FnOk P w K mg base CX0 5 A.a_Rules____init__ A.d_Rules____init__ ["self", "size", "rows"] (spMake A.c_Rules) := by
  refine T.F_Rules____init__.ok sc_Rules____init__ (fun vs H Q E h => ?_) (fun cdv A' outer s H vs Q E hr h => ?_)
  · obtain ⟨x, dx, l, n, ks, rfl, _⟩ := h
    rfl
  · obtain ⟨x, dx, l, n, ks, rfl, hx, hl, ne, sz, sn, rows, nx, k⟩ := h
    have G_is_number := ok_isn (w := w) (base := base) T
    have G_are_rows := ok_are (w := w) (base := base) T
    have en : isN (.int (n : Int)) = true := decide_eq_true (Int.natCast_nonneg n)
    have lx : l ≠ x := ne_of hl hx fun z => nomatch z
    rcases Nat.eq_zero_or_pos n with n0 | n0
    · refine ⟨_, (pss_cons (ps_if (PW.pt (pw_or (pt_not (pt_val (pe_call G_is_number (hr.mono (by decide)) rfl T.g_is_number T.F_is_number.kp (B_is_number T) .nil pass0 (pa_cons (pv 1) pa_nil)))) (pw_or1 (pt_not (pt_val (pe_call G_are_rows (hr.mono (by decide)) rfl T.g_are_rows T.F_are_rows.kp (B_are_rows T) .nil pass0 (pa_cons (pv 2) (pa_cons (pv 1) pa_nil)))))))) (pss_one ps_never) pss_nil)
  (pss_cons (ps_fld (pv 0) (pv 1) (by rfl))
  (pss_cons (ps_fld (pv 0) (pe_callTy call_tuple_of (by rfl) T.n_tuple (by decide +kernel) (pa_cons (pe_callB (cr_sortedOne rfl) (by rfl) T.n_sorted (by decide +kernel) (pa_cons (pe_callTy (cr_setOfT rfl hr.units) (by rfl) T.n_set (by decide +kernel) (pa_cons (pv 2) pa_nil)) pa_nil)) pa_nil)) (by rfl))
  (pss_one (ps_fld (pv 0) (pe_dcP (u0 := .dT []) (own := [("row", 3)]) (g := (gName 3)) (.inr rfl) hr.units0 rfl sc_Rules____init__.nd (pi_tup (pe_fld (pv 0) rfl)) (blkOk_by (own := [("row", 3)]) (N := ["self", "size", "rows", "row"]) (sc := defScope s_Rules____init__) (by decide +kernel)) ⟨fun _ _ _ _ _ => (pg_name (i := 3) sc_Rules____init__.nd rfl (Or.inl rfl)), fun _ _ _ _ _ => pts_nil, fun _ _ _ _ _ => (pv 3), fun _ _ _ _ _ => pe_bl⟩) (by rfl)))))), ?_⟩
      walk_at "sx"
      refine c_t1 (ni_int _) ?_
      rw [en]
      walk_at "sx"
      refine ⟨l, n, ks, rfl, hl, ne, by omega, sn, rows, fun H1 s1 => ?_⟩
      walk_at "sx"
      refine r_put rfl (s1 _ _ hx) T.cl_Rules T.no_Rules_size (by decide) (fun H2 k2 h2 => ?_)
      walk_at "sx"
      refine ⟨l, ks, rfl, SqL.of (k2 _ _ lx (s1 _ _ hl)), fun p hp => SqT.of (k2 _ _ (nx p hp) (s1 _ _ (rows p hp).1)), sz, fun a L na sub all => ?_⟩
      generalize hE3 : upd H2 a _ = H3
      have s3 := new_same na hE3
      have h3 := new_at hE3
      walk_at "sx"
      refine ⟨a, L, rfl, h3, fun p hp => SqT.of (s3 _ _ (k2 _ _ (nx p (sub p hp)) (s1 _ _ (rows p (sub p hp)).1))), fun p hp => ?_, fun nd one p np => ?_⟩
      · have := (rows p (sub p hp)).2.1
        exact List.eq_nil_of_length_eq_zero (by omega)
      have of' : Of ks L := ⟨sub, all, ⟨nd, one_pw one⟩, of_ne ne all, by omega⟩
      generalize hE4 : upd H3 p _ = H4
      have s4 := new_same np hE4
      have h4 := new_at hE4
      walk_at "sx"
      refine ⟨p, _, rfl, .inl ⟨SqL.of h4, fun t nt => ?_⟩⟩
      generalize hE5 : upd H4 t _ = H5
      have s5 := new_same nt hE5
      have h5 := new_at hE5
      have hx4 := s4 _ _ (s3 _ _ h2)
      have tx : t ≠ x := fun e => by rw [e, hx4] at nt; cases nt
      walk_at "sx"
      refine r_put rfl (s5 _ _ hx4) T.cl_Rules T.no_Rules_rows (Nat.le_of_ble_eq_true rfl) (fun H6 k6 h6 => ?_)
      have rows6 : RowsAt H6 n L := fun q hq => ⟨k6 _ _ (nx q (of'.1 q hq)) (s5 _ _ (s4 _ _ (s3 _ _ (k2 _ _ (nx q (of'.1 q hq)) (s1 _ _ (rows q (of'.1 q hq)).1))))), (rows q (of'.1 q hq)).2⟩
      walk_at "sx"
      refine ⟨_, rfl, _, _, _, _, _, rfl, h6, T.cl_Rules, T.no_Rules_rows, rfl, t, rfl, ⟨_, SqT.of (k6 _ _ tx h5)⟩, fun D hD => dcp_tup (K := K) (a := t) (xs := L.map rf) (fun i H' => Same H6 H' ∧ H' D = some (.dT ((L.take i).map rkey))) ⟨Same.new hD, upd_same⟩ (fun i H' _ ⟨s, _⟩ => SqT.of (s _ _ (k6 _ _ tx h5))) ?_ ?_⟩
      · rintro i y H' hy ⟨s', hD'⟩
        obtain ⟨q, hq, rfl⟩ : ∃ q, L[i]? = some q ∧ rf q = y := by
          rw [List.getElem?_map] at hy
          exact Option.map_eq_some_iff.mp hy
        have hm := List.mem_of_getElem? hq
        refine s_name ⟨rfl, ?_⟩
        refine s_yes (i_t ?_)
        walk_at "sx"
        refine ⟨_, DPut.t (k := q.2.map Sum.inl) hD' ?_ ?_, Sx.Same.put s' hD, ?_⟩
        · rw [List.map_map]
          exact s' _ _ (rows6 q hm).1
        · rw [List.length_map, List.length_take]
          exact Nat.lt_of_le_of_lt (Nat.min_le_right _ _) (by show L.length < 16777216; have := of'.2.2.2.2; omega)
        · rw [upd_same, rkeys_next of'.2.2.1.1 hq]
      · rintro H' ⟨s', hD'⟩
        rw [List.length_map, List.take_length] at hD'
        have dx' : D ≠ x := fun e => by rw [e, h6] at hD; cases hD
        walk_at "sx"
        refine r_put rfl (s' _ _ h6) T.cl_Rules T.no_Rules__known (Nat.le_of_ble_eq_true rfl) (fun H7 k7 h7 => ?_)
        walk_at "sx"
        refine k H7 L ?_ of' ⟨dx, t, D, h7, k7 _ _ tx (s' _ _ (k6 _ _ tx h5)), k7 _ _ dx' hD', fun q hq => ⟨k7 _ _ (nx q (of'.1 q hq)) (s' _ _ (rows6 q hq).1), (rows6 q hq).2⟩, of'.2.2.1, of'.2.2.2.1, of'.2.2.2.2⟩
        exact (Keep.same s1).trans (k2.trans ((Keep.same s3).trans ((Keep.same s4).trans ((Keep.same s5).trans (k6.trans ((Keep.same s').trans k7))))))
    · refine ⟨_, (pss_cons (ps_if (PW.pt (pw_or (pt_not (pt_val (pe_call G_is_number (hr.mono (by decide)) rfl T.g_is_number T.F_is_number.kp (B_is_number T) .nil pass0 (pa_cons (pv 1) pa_nil)))) (pw_or1 (pt_not (pt_val (pe_call G_are_rows (hr.mono (by decide)) rfl T.g_are_rows T.F_are_rows.kp (B_are_rows T) .nil pass0 (pa_cons (pv 2) (pa_cons (pv 1) pa_nil)))))))) (pss_one ps_never) pss_nil)
  (pss_cons (ps_fld (pv 0) (pv 1) (by rfl))
  (pss_cons (ps_fld (pv 0) (pe_callTy call_tuple_of (by rfl) T.n_tuple (by decide +kernel) (pa_cons (pe_callB (cr_sortedT rfl) (by rfl) T.n_sorted (by decide +kernel) (pa_cons (pe_callTy (cr_setOfT rfl hr.units) (by rfl) T.n_set (by decide +kernel) (pa_cons (pv 2) pa_nil)) pa_nil)) pa_nil)) (by rfl))
  (pss_one (ps_fld (pv 0) (pe_dcP (u0 := .dT []) (own := [("row", 3)]) (g := (gName 3)) (.inr rfl) hr.units0 rfl sc_Rules____init__.nd (pi_tup (pe_fld (pv 0) rfl)) (blkOk_by (own := [("row", 3)]) (N := ["self", "size", "rows", "row"]) (sc := defScope s_Rules____init__) (by decide +kernel)) ⟨fun _ _ _ _ _ => (pg_name (i := 3) sc_Rules____init__.nd rfl (Or.inl rfl)), fun _ _ _ _ _ => pts_nil, fun _ _ _ _ _ => (pv 3), fun _ _ _ _ _ => pe_bl⟩) (by rfl)))))), ?_⟩
      walk_at "sx"
      refine c_t1 (ni_int _) ?_
      rw [en]
      walk_at "sx"
      refine ⟨l, n, ks, rfl, hl, ne, by omega, sn, rows, fun H1 s1 => ?_⟩
      walk_at "sx"
      refine r_put rfl (s1 _ _ hx) T.cl_Rules T.no_Rules_size (by decide) (fun H2 k2 h2 => ?_)
      walk_at "sx"
      refine ⟨l, ks, rfl, SqL.of (k2 _ _ lx (s1 _ _ hl)), fun p hp => SqT.of (k2 _ _ (nx p hp) (s1 _ _ (rows p hp).1)), sz, fun a L na sub all => ?_⟩
      generalize hE3 : upd H2 a _ = H3
      have s3 := new_same na hE3
      have h3 := new_at hE3
      walk_at "sx"
      refine ⟨a, L, n, 2, rfl, h3, fun p hp => SqT.of (s3 _ _ (k2 _ _ (nx p (sub p hp)) (s1 _ _ (rows p (sub p hp)).1))), n0, fun p hp => ⟨(rows p (sub p hp)).2.1, bits_bd (rows p (sub p hp)).2⟩, fun L' p pm nd len pw np => ?_⟩
      have of' : Of ks L' := ⟨fun q hq => sub q (pm.mem_iff.mp hq), fun q hq => (pm.map (·.2)).mem_iff.mpr (all q hq), ⟨nd, pw⟩, fun e => of_ne ne all (by rw [e] at pm; exact pm.symm.eq_nil), len⟩
      generalize hE4 : upd H3 p _ = H4
      have s4 := new_same np hE4
      have h4 := new_at hE4
      walk_at "sx"
      refine ⟨p, _, rfl, .inl ⟨SqL.of h4, fun t nt => ?_⟩⟩
      generalize hE5 : upd H4 t _ = H5
      have s5 := new_same nt hE5
      have h5 := new_at hE5
      have hx4 := s4 _ _ (s3 _ _ h2)
      have tx : t ≠ x := fun e => by rw [e, hx4] at nt; cases nt
      walk_at "sx"
      refine r_put rfl (s5 _ _ hx4) T.cl_Rules T.no_Rules_rows (Nat.le_of_ble_eq_true rfl) (fun H6 k6 h6 => ?_)
      have rows6 : RowsAt H6 n L' := fun q hq => ⟨k6 _ _ (nx q (of'.1 q hq)) (s5 _ _ (s4 _ _ (s3 _ _ (k2 _ _ (nx q (of'.1 q hq)) (s1 _ _ (rows q (of'.1 q hq)).1))))), (rows q (of'.1 q hq)).2⟩
      walk_at "sx"
      refine ⟨_, rfl, _, _, _, _, _, rfl, h6, T.cl_Rules, T.no_Rules_rows, rfl, t, rfl, ⟨_, SqT.of (k6 _ _ tx h5)⟩, fun D hD => dcp_tup (K := K) (a := t) (xs := L'.map rf) (fun i H' => Same H6 H' ∧ H' D = some (.dT ((L'.take i).map rkey))) ⟨Same.new hD, upd_same⟩ (fun i H' _ ⟨s, _⟩ => SqT.of (s _ _ (k6 _ _ tx h5))) ?_ ?_⟩
      · rintro i y H' hy ⟨s', hD'⟩
        obtain ⟨q, hq, rfl⟩ : ∃ q, L'[i]? = some q ∧ rf q = y := by
          rw [List.getElem?_map] at hy
          exact Option.map_eq_some_iff.mp hy
        have hm := List.mem_of_getElem? hq
        refine s_name ⟨rfl, ?_⟩
        refine s_yes (i_t ?_)
        walk_at "sx"
        refine ⟨_, DPut.t (k := q.2.map Sum.inl) hD' ?_ ?_, Sx.Same.put s' hD, ?_⟩
        · rw [List.map_map]
          exact s' _ _ (rows6 q hm).1
        · rw [List.length_map, List.length_take]
          exact Nat.lt_of_le_of_lt (Nat.min_le_right _ _) (by show L'.length < 16777216; have := of'.2.2.2.2; omega)
        · rw [upd_same, rkeys_next of'.2.2.1.1 hq]
      · rintro H' ⟨s', hD'⟩
        rw [List.length_map, List.take_length] at hD'
        have dx' : D ≠ x := fun e => by rw [e, h6] at hD; cases hD
        walk_at "sx"
        refine r_put rfl (s' _ _ h6) T.cl_Rules T.no_Rules__known (Nat.le_of_ble_eq_true rfl) (fun H7 k7 h7 => ?_)
        walk_at "sx"
        refine k H7 L' ?_ of' ⟨dx, t, D, h7, k7 _ _ tx (s' _ _ (k6 _ _ tx h5)), k7 _ _ dx' hD', fun q hq => ⟨k7 _ _ (nx q (of'.1 q hq)) (s' _ _ (rows6 q hq).1), (rows6 q hq).2⟩, of'.2.2.1, of'.2.2.2.1, of'.2.2.2.2⟩
        exact (Keep.same s1).trans (k2.trans ((Keep.same s3).trans ((Keep.same s4).trans ((Keep.same s5).trans (k6.trans ((Keep.same s').trans k7))))))
end
end K07

set_option Elab.async false
set_option linter.all false
set_option maxRecDepth 100000
set_option maxHeartbeats 4000000
namespace K07
open PySem L2 Sx
local macro_rules | `(tactic| walk_at "cond") => `(tactic| first
  | assumption
  | decide
  | exact c_mul_r (by first | decide | omega) (by first | decide | omega)
  | exact c_mul_l (by first | decide | omega) (by first | decide | omega)
  | exact c_div (by first | decide | omega) (by first | decide | omega)
  | exact c_pow (by first | decide | omega) (by first | decide | omega) (by first | decide | omega)
  | omega)
local macro_rules | `(tactic| walk_at "ne") => `(tactic| first
  | assumption
  | (refine Ne.symm ?_; assumption)
  | (refine' Flow.ne ?nh ?nn; (case nn => assumption); (case nh => walk_at "fl"))
  | (refine Ne.symm ?_; refine' Flow.ne ?nh ?nn; (case nn => assumption); (case nh => walk_at "fl"))
  | (refine' ne_of_none ?nh ?nn; (case nn => assumption); (case nh => walk_at "at"))
  | (refine Ne.symm ?_; refine' ne_of_none ?nh ?nn; (case nn => assumption); (case nh => walk_at "at")))
local macro_rules | `(tactic| walk_at "at") => `(tactic| first
  | assumption
  | (refine Same.up (by assumption) ?_; walk_at "at")
  | (refine Keep.up (by assumption) (by walk_at "ne") ?_; walk_at "at"))
local macro_rules | `(tactic| walk_at "fl") => `(tactic| first
  | assumption
  | (refine Flow.same (by assumption) ?_; walk_at "fl")
  | (refine Flow.keep (by assumption) (by walk_at "ne") ?_; walk_at "fl"))
local macro_rules | `(tactic| walk_at "fr") => `(tactic| first
  | assumption
  | (refine same_free (by assumption) ?_; walk_at "fr")
  | (refine Keep.free (by assumption) (by walk_at "ne") ?_; walk_at "fr"))
local macro_rules | `(tactic| walk_at "kp") => `(tactic| first
  | assumption
  | exact Keep.refl _ _
  | (refine Keep.trans ?_ (by assumption); walk_at "kp")
  | (refine Keep.trans ?_ (Keep.same (by assumption)); walk_at "kp"))
local macro_rules | `(tactic| walk_at "sm") => `(tactic| first
  | assumption
  | exact L2.Same.refl _
  | (refine L2.Same.trans ?_ (by assumption); walk_at "sm"))
local macro_rules | `(tactic| walk_at "sz") => `(tactic| first | exact Nat.le_of_ble_eq_true rfl | omega)
local macro_rules | `(tactic| walk_at "new") => `(tactic| (intro p np; generalize hE : upd _ p _ = H2; have s2 := new_same np hE; have h2 := new_at hE; clear hE))
local macro_rules | `(tactic| walk_at "newx") => `(tactic| (intro e d na nd hda; generalize hE : upd (upd _ d _) e _ = H2; have s2 := newx_same na nd hE; have h2 := newx_at hE; have h3 := newx_d hda hE; clear hE))
local macro_rules | `(tactic| walk_at "s1") => `(tactic| first
  | with_reducible refine s_seq ?_
  | with_reducible refine s_asg ?_
  | with_reducible refine s_name ?_
  | with_reducible refine s_ret ?_
  | with_reducible refine s_c ?_
  | ((with_reducible refine' s_var ?hv ?_); (case hv => rfl))
  | with_reducible refine s_op ?_
  | with_reducible refine s_un ?_
  | with_reducible refine s_ifS ?_
  | with_reducible refine s_cb ?_
  | with_reducible refine s_cons ?_
  | with_reducible refine s_nil ?_
  | with_reducible refine s_call ?_
  | with_reducible refine s_test ?_
  | with_reducible refine s_tB ?_
  | with_reducible refine s_bl ?_
  | with_reducible refine s_and ?_
  | with_reducible refine s_or ?_
  | with_reducible refine s_not ?_
  | with_reducible refine s_andV ?_
  | with_reducible refine s_orV ?_
  | with_reducible refine s_notV ?_
  | with_reducible refine s_blV ?_
  | with_reducible refine s_if ?_
  | with_reducible refine s_tup ?_
  | with_reducible refine s_lst ?_
  | with_reducible refine s_drop ?_
  | with_reducible refine s_next ?_
  | with_reducible refine s_sub ?_
  | with_reducible refine s_bm ?_
  | with_reducible refine s_callK ?_
  | with_reducible refine s_brk ?_
  | with_reducible refine s_cont ?_
  | with_reducible refine r_I0 ?_
  | with_reducible refine r_U ?_
  | with_reducible refine r_eqI ?_
  | with_reducible refine r_neI ?_
  | with_reducible refine r_isB ?_
  | with_reducible refine r_notB ?_
  | with_reducible refine i_t ?_
  | with_reducible refine i_f ?_
  | with_reducible refine i_nt ?_
  | with_reducible refine i_nf ?_
  | ((with_reducible refine' r_I ?hc ?_); (case hc => walk_at "cond"))
  | (with_reducible refine .inl ⟨_, rfl, ?_⟩)
  | (with_reducible refine ⟨_, rfl, ?_⟩)
  | ((with_reducible refine' r_ixL ?hx ?ha ?_); (case hx => walk_at "at"); (case ha => rfl))
  | ((with_reducible refine' r_ixT ?hx ?ha ?_); (case hx => walk_at "at"); (case ha => rfl))
  | ((with_reducible refine' r_setL ?hx ?ha ?_); (case hx => walk_at "at"); (case ha => rfl); intro H2 k2 h2; (try dsimp only [List.set, Int.toNat] at h2))
  | ((with_reducible refine' r_app ?hx ?hl ?_); (case hx => walk_at "at"); (case hl => first | exact Nat.lt_of_ble_eq_true rfl | omega); intro H2 k2 h2)
  | ((with_reducible refine' ty_list ?hx ?_); (case hx => walk_at "at"))
  | (refine And.intro (by (with_reducible show _ ≤ sizeLine); walk_at "sz") ?_; walk_at "new")
  | with_reducible refine s_exv ?_
  | walk_at "newx")
local macro_rules | `(tactic| walk_at "sx") => `(tactic| repeat (walk_at "s1"))
local macro_rules | `(tactic| walk_at "s2") => `(tactic| first
  | ((with_reducible refine' r_ixG ?hx ?hn ?_); (case hx => walk_at "at"); (case hn => omega))
  | ((with_reducible refine' r_ixGT ?hx ?hn ?_); (case hx => walk_at "at"); (case hn => omega))
  | (with_reducible refine ig_cons (fun hix => ?_) (fun hix => ?_))
  | ((with_reducible refine ig_nil ?_); omega)
  | ((with_reducible refine' i_T ?hc ?_); (case hc => omega))
  | ((with_reducible refine' i_F ?hc ?_); (case hc => omega))
  | (with_reducible refine i_2 (fun hc => ?_) (fun hc => ?_))
  | (with_reducible refine i_n2 (fun hc => ?_) (fun hc => ?_)))
local macro_rules | `(tactic| walk_at "go") => `(tactic| repeat' (first | walk_at "s1" | walk_at "s2"))

local macro_rules | `(tactic| walk_at "s1") => `(tactic| first
  | with_reducible refine s_chain ?_
  | with_reducible refine s_fldS ?_
  | with_reducible refine s_fld ?_
  | with_reducible refine s_dIn ?_
  | with_reducible refine s_dNotIn ?_
  | with_reducible refine s_sl ?_
  | with_reducible refine s_noPart ?_
  | with_reducible refine s_part ?_
  | with_reducible refine s_meth ?_
  | with_reducible refine s_make ?_)

section
variable {P : Program} {w : World} {K : PySem.W.Frag} {mg : Str → Option Value} {base : Heap} {A : Ad}
def spLen (C : Addr) : Sp := fun vs H Q _ => ∃ (x : Addr) (n : Nat) (ks : List (Addr × List Int)), vs = [.ref x] ∧ RuAt C H x n ks ∧ Q (.int ks.length) H
theorem ok_len (T : Txt P K mg A) : FnOk P w K mg base CX0 1 A.a_Rules____len__ A.d_Rules____len__ ["self"] (spLen A.c_Rules) := by
  refine T.F_Rules____len__.ok sc_Rules____len__ (fun vs H Q E h => ?_) (fun cdv A' outer s H vs Q E hr h => ?_)
  · obtain ⟨x, n, ks, rfl, _⟩ := h
    rfl
  · obtain ⟨x, n, ks, rfl, ⟨dx, t, kn, h1, h2, h3, rows, asc, ne, sz⟩, k⟩ := h
    refine ⟨_, (pss_one (ps_ret (pe_callB call_len (by rfl) T.n_len (by decide +kernel) (pa_cons (pe_fld (pv 0) rfl) pa_nil)))), ?_⟩
    walk_at "sx"
    refine r_get rfl h1 T.cl_Rules T.no_Rules_rows rfl ?_
    walk_at "sx"
    refine ⟨_, _, rfl, .inr ⟨_, SqT.of h2, rfl⟩, ?_⟩
    rw [List.length_map]
    exact k
end
end K07

set_option Elab.async false
set_option linter.all false
set_option maxRecDepth 100000
set_option maxHeartbeats 4000000
namespace K07
open PySem L2 Sx
local macro_rules | `(tactic| walk_at "cond") => `(tactic| first
  | assumption
  | decide
  | exact c_mul_r (by first | decide | omega) (by first | decide | omega)
  | exact c_mul_l (by first | decide | omega) (by first | decide | omega)
  | exact c_div (by first | decide | omega) (by first | decide | omega)
  | exact c_pow (by first | decide | omega) (by first | decide | omega) (by first | decide | omega)
  | omega)
local macro_rules | `(tactic| walk_at "ne") => `(tactic| first
  | assumption
  | (refine Ne.symm ?_; assumption)
  | (refine' Flow.ne ?nh ?nn; (case nn => assumption); (case nh => walk_at "fl"))
  | (refine Ne.symm ?_; refine' Flow.ne ?nh ?nn; (case nn => assumption); (case nh => walk_at "fl"))
  | (refine' ne_of_none ?nh ?nn; (case nn => assumption); (case nh => walk_at "at"))
  | (refine Ne.symm ?_; refine' ne_of_none ?nh ?nn; (case nn => assumption); (case nh => walk_at "at")))
local macro_rules | `(tactic| walk_at "at") => `(tactic| first
  | assumption
  | (refine Same.up (by assumption) ?_; walk_at "at")
  | (refine Keep.up (by assumption) (by walk_at "ne") ?_; walk_at "at"))
local macro_rules | `(tactic| walk_at "fl") => `(tactic| first
  | assumption
  | (refine Flow.same (by assumption) ?_; walk_at "fl")
  | (refine Flow.keep (by assumption) (by walk_at "ne") ?_; walk_at "fl"))
local macro_rules | `(tactic| walk_at "fr") => `(tactic| first
  | assumption
  | (refine same_free (by assumption) ?_; walk_at "fr")
  | (refine Keep.free (by assumption) (by walk_at "ne") ?_; walk_at "fr"))
local macro_rules | `(tactic| walk_at "kp") => `(tactic| first
  | assumption
  | exact Keep.refl _ _
  | (refine Keep.trans ?_ (by assumption); walk_at "kp")
  | (refine Keep.trans ?_ (Keep.same (by assumption)); walk_at "kp"))
local macro_rules | `(tactic| walk_at "sm") => `(tactic| first
  | assumption
  | exact L2.Same.refl _
  | (refine L2.Same.trans ?_ (by assumption); walk_at "sm"))
local macro_rules | `(tactic| walk_at "sz") => `(tactic| first | exact Nat.le_of_ble_eq_true rfl | omega)
local macro_rules | `(tactic| walk_at "new") => `(tactic| (intro p np; generalize hE : upd _ p _ = H2; have s2 := new_same np hE; have h2 := new_at hE; clear hE))
local macro_rules | `(tactic| walk_at "newx") => `(tactic| (intro e d na nd hda; generalize hE : upd (upd _ d _) e _ = H2; have s2 := newx_same na nd hE; have h2 := newx_at hE; have h3 := newx_d hda hE; clear hE))
local macro_rules | `(tactic| walk_at "s1") => `(tactic| first
  | with_reducible refine s_seq ?_
  | with_reducible refine s_asg ?_
  | with_reducible refine s_name ?_
  | with_reducible refine s_ret ?_
  | with_reducible refine s_c ?_
  | ((with_reducible refine' s_var ?hv ?_); (case hv => rfl))
  | with_reducible refine s_op ?_
  | with_reducible refine s_un ?_
  | with_reducible refine s_ifS ?_
  | with_reducible refine s_cb ?_
  | with_reducible refine s_cons ?_
  | with_reducible refine s_nil ?_
  | with_reducible refine s_call ?_
  | with_reducible refine s_test ?_
  | with_reducible refine s_tB ?_
  | with_reducible refine s_bl ?_
  | with_reducible refine s_and ?_
  | with_reducible refine s_or ?_
  | with_reducible refine s_not ?_
  | with_reducible refine s_andV ?_
  | with_reducible refine s_orV ?_
  | with_reducible refine s_notV ?_
  | with_reducible refine s_blV ?_
  | with_reducible refine s_if ?_
  | with_reducible refine s_tup ?_
  | with_reducible refine s_lst ?_
  | with_reducible refine s_drop ?_
  | with_reducible refine s_next ?_
  | with_reducible refine s_sub ?_
  | with_reducible refine s_bm ?_
  | with_reducible refine s_callK ?_
  | with_reducible refine s_brk ?_
  | with_reducible refine s_cont ?_
  | with_reducible refine r_I0 ?_
  | with_reducible refine r_U ?_
  | with_reducible refine r_eqI ?_
  | with_reducible refine r_neI ?_
  | with_reducible refine r_isB ?_
  | with_reducible refine r_notB ?_
  | with_reducible refine i_t ?_
  | with_reducible refine i_f ?_
  | with_reducible refine i_nt ?_
  | with_reducible refine i_nf ?_
  | ((with_reducible refine' r_I ?hc ?_); (case hc => walk_at "cond"))
  | (with_reducible refine .inl ⟨_, rfl, ?_⟩)
  | (with_reducible refine ⟨_, rfl, ?_⟩)
  | ((with_reducible refine' r_ixL ?hx ?ha ?_); (case hx => walk_at "at"); (case ha => rfl))
  | ((with_reducible refine' r_ixT ?hx ?ha ?_); (case hx => walk_at "at"); (case ha => rfl))
  | ((with_reducible refine' r_setL ?hx ?ha ?_); (case hx => walk_at "at"); (case ha => rfl); intro H2 k2 h2; (try dsimp only [List.set, Int.toNat] at h2))
  | ((with_reducible refine' r_app ?hx ?hl ?_); (case hx => walk_at "at"); (case hl => first | exact Nat.lt_of_ble_eq_true rfl | omega); intro H2 k2 h2)
  | ((with_reducible refine' ty_list ?hx ?_); (case hx => walk_at "at"))
  | (refine And.intro (by (with_reducible show _ ≤ sizeLine); walk_at "sz") ?_; walk_at "new")
  | with_reducible refine s_exv ?_
  | walk_at "newx")
local macro_rules | `(tactic| walk_at "sx") => `(tactic| repeat (walk_at "s1"))
local macro_rules | `(tactic| walk_at "s2") => `(tactic| first
  | ((with_reducible refine' r_ixG ?hx ?hn ?_); (case hx => walk_at "at"); (case hn => omega))
  | ((with_reducible refine' r_ixGT ?hx ?hn ?_); (case hx => walk_at "at"); (case hn => omega))
  | (with_reducible refine ig_cons (fun hix => ?_) (fun hix => ?_))
  | ((with_reducible refine ig_nil ?_); omega)
  | ((with_reducible refine' i_T ?hc ?_); (case hc => omega))
  | ((with_reducible refine' i_F ?hc ?_); (case hc => omega))
  | (with_reducible refine i_2 (fun hc => ?_) (fun hc => ?_))
  | (with_reducible refine i_n2 (fun hc => ?_) (fun hc => ?_)))
local macro_rules | `(tactic| walk_at "go") => `(tactic| repeat' (first | walk_at "s1" | walk_at "s2"))

local macro_rules | `(tactic| walk_at "s1") => `(tactic| first
  | with_reducible refine s_chain ?_
  | with_reducible refine s_fldS ?_
  | with_reducible refine s_fld ?_
  | with_reducible refine s_dIn ?_
  | with_reducible refine s_dNotIn ?_
  | with_reducible refine s_sl ?_
  | with_reducible refine s_noPart ?_
  | with_reducible refine s_part ?_
  | with_reducible refine s_meth ?_
  | with_reducible refine s_make ?_)

section
variable {P : Program} {w : World} {K : PySem.W.Frag} {mg : Str → Option Value} {base : Heap} {A : Ad}
/-! numbers and their rows -/
/-- the n lowest bits of m, the highest first -/
def bitsOf : Nat → Nat → List Int
  | 0, _ => []
  | n + 1, m => bitsOf n (m / 2) ++ [((m % 2 : Nat) : Int)]
theorem bitsOf_bits : ∀ n m, Bits n (bitsOf n m)
  | 0, _ => ⟨rfl, fun x h => nomatch h⟩
  | n + 1, m => by
    obtain ⟨h1, h2⟩ := bitsOf_bits n (m / 2)
    refine ⟨by simp [bitsOf, h1], fun x hx => ?_⟩
    rcases List.mem_append.mp hx with z | z
    · exact h2 x z
    · rw [List.mem_singleton.mp z]
      omega
/-- what is left of the row behind i turns -/
theorem bitsOf_add : ∀ i n m, bitsOf (n + i) m = bitsOf n (m / 2 ^ i) ++ bitsOf i m
  | 0, n, m => by simp [bitsOf]
  | i + 1, n, m => by
    show bitsOf (n + i) (m / 2) ++ [((m % 2 : Nat) : Int)] = _
    rw [bitsOf_add i n (m / 2), List.append_assoc, Nat.div_div_eq_div_mul, ← Nat.pow_succ', bitsOf]
theorem bitsOf_next (i m : Nat) : bitsOf (i + 1) m = [((m / 2 ^ i % 2 : Nat) : Int)] ++ bitsOf i m := by
  rw [Nat.add_comm i 1, bitsOf_add i 1 m]
  rfl
def spRowOf : Sp := fun vs H Q _ => ∃ (m n : Nat), vs = [.int m, .int n] ∧ n < 1000 ∧ ∀ q H', Same H H' → H' q = some (.tup ((bitsOf n m).map V.int)) → Q (.ref q) H'
theorem ok_rowOf (T : Txt P K mg A) : FnOk P w K mg base CX0 1 A.a__law_row A.d__law_row ["number", "size"] spRowOf := by
  refine T.F__law_row.ok sc__law_row (fun vs H Q E h => ?_) (fun cdv A' outer s H vs Q E hr h => ?_)
  · obtain ⟨m, n, rfl, _⟩ := h
    rfl
  · obtain ⟨m, n, rfl, sn, k⟩ := h
    refine ⟨_, (pss_cons (ps_set (i := 2) sc__law_row.nd rfl (Or.inl rfl) (pe_tup pa_nil))
  (pss_cons (ps_for PassesOwn.never rfl (pi_range1 rfl T.n_range (pa_cons (pv 1) pa_nil)) (pg_name (i := 3) sc__law_row.nd rfl (Or.inl rfl))
  (pss_cons (ps_set (i := 2) sc__law_row.nd rfl (Or.inl rfl) (pe_op op_catA (pe_tup (pa_cons (pe_op op_mod (pe_callTy call_int1 (by rfl) T.n_int (by decide +kernel) (pa_cons (pv 0) pa_nil)) pe_int) pa_nil)) (pv 2)))
  (pss_one (ps_set (i := 0) sc__law_row.nd rfl (Or.inl rfl) (pe_op op_fdiv (pv 0) pe_int)))))
  (pss_one (ps_ret (pv 2))))), ?_⟩
    walk_at "sx"
    rename_i p0 np0 H1 s1 h1
    refine ⟨_, rfl, _, rfl, by omega, by omega, for_range (lo := 0) (n := n) (fun i σ H' => Same H H' ∧ ∃ (q : Addr) (v : Option V), σ = [some (.int (m / 2 ^ i : Nat)), some (.int n), some (.ref q), v] ∧ H' q = some (.tup ((bitsOf i m).map V.int))) ?_ ?_ ?_⟩
    · refine ⟨s1, p0, none, ?_, h1⟩
      rw [Nat.pow_zero, Nat.div_one]
      rfl
    · rintro i σ H' hi ⟨s', q, v, rfl, hq⟩
      walk_at "sx"
      rename_i p2 np2 H2 s2 h2
      have hb := (bitsOf_bits i m).1
      refine r_cat h2 (s2 _ _ hq) (by rw [List.length_map, hb, sizeLine_eq]; simp; omega) fun p3 H3 s3 h3 => ?_
      walk_at "sx"
      refine ⟨s'.trans (s2.trans s3), p3, some (.int (0 + (i : Int))), ?_, ?_⟩
      · have e : ((m / 2 ^ i : Nat) : Int) / 2 = ((m / 2 ^ (i + 1) : Nat) : Int) := by
          rw [Nat.pow_succ, ← Nat.div_div_eq_div_mul]
          omega
        rw [e]
        rfl
      · have e : (((m / 2 ^ i : Nat) : Int) % 2) = ((m / 2 ^ i % 2 : Nat) : Int) := by omega
        rw [h3, bitsOf_next, List.map_append, e]
        rfl
    · rintro σ H' ⟨s', q, v, rfl, hq⟩
      walk_at "sx"
      exact k q H' s' hq
theorem code_snoc (x : Int) : ∀ r : List Int, TS.code 2 (r ++ [x]) = TS.code 2 r * 2 + x
  | [] => by
    show x * 2 ^ 0 + 0 = 0 * 2 + x
    rw [Int.pow_zero]
    omega
  | d :: r => by
    show d * 2 ^ (r ++ [x]).length + TS.code 2 (r ++ [x]) = (d * 2 ^ r.length + TS.code 2 r) * 2 + x
    rw [code_snoc x r, List.length_append, List.length_singleton, Int.pow_succ, Int.add_mul, ← Int.mul_assoc]
    omega
theorem code_bits : ∀ n m, m < 2 ^ n → TS.code 2 (bitsOf n m) = (m : Int)
  | 0, m, h => by
    have : m = 0 := by simpa using h
    subst this
    rfl
  | n + 1, m, h => by
    rw [bitsOf, code_snoc, code_bits n (m / 2) (by rw [Nat.pow_succ] at h; omega)]
    omega
theorem bits_inj {n a b : Nat} (ha : a < 2 ^ n) (hb : b < 2 ^ n) (e : bitsOf n a = bitsOf n b) : a = b := by
  have z := congrArg (TS.code 2) e
  rw [code_bits n a ha, code_bits n b hb] at z
  omega
/-- numbers of rules: ascending, below 2 ^ n -/
structure Nums (n : Nat) (ns : List Nat) : Prop where
  asc : ns.Pairwise (· < ·)
  lt : ∀ m ∈ ns, m < 2 ^ n
  ne : ns ≠ []
  few : ns.length < 64
abbrev nv (m : Nat) : V := .int m
/-- one row more in the list at D -/
theorem rows_step {H1 H' H2 : Hp} {D p : Addr} {n : Nat} {ls : List (Addr × List Int)} {r : List Int} {rs : List (List Int)} (hD : H1 D = none) (hD' : H' D = some (.lst (ls.map rf))) (s' : Same H1 H') (s2 : Same H' H2) (rl : RowsAt H' n ls) (hp : H2 p = some (.tup (r.map V.int))) (b : Bits n r)
    (sz : ls.length < 1000) (e : ls.map (·.2) ++ [r] = rs) :
    ∃ acc, H2 D = some (.lst acc) ∧ acc.length < sizeLine ∧ Same H1 (upd H2 D (.lst (acc ++ [V.ref p]))) ∧ ∃ ls' : List (Addr × List Int), (upd H2 D (.lst (acc ++ [V.ref p]))) D = some (.lst (ls'.map rf)) ∧ RowsAt (upd H2 D (.lst (acc ++ [V.ref p]))) n ls' ∧ ls'.map (·.2) = rs := by
  have hD2 := s2 _ _ hD'
  refine ⟨_, hD2, ?_, Sx.Same.put (s'.trans s2) hD, ls ++ [(p, r)], ?_, fun z hz => ?_, ?_⟩
  · rw [List.length_map]
    show ls.length < 16777216
    omega
  · rw [upd_same, List.map_append]
    rfl
  · have tu : H2 z.1 = some (.tup (z.2.map V.int)) ∧ Bits n z.2 := by
      rcases List.mem_append.mp hz with m | m
      · exact ⟨s2 _ _ (rl z m).1, (rl z m).2⟩
      · rw [List.mem_singleton.mp m]
        exact ⟨hp, b⟩
    refine ⟨?_, tu.2⟩
    rw [upd_ne (ne_of tu.1 hD2 fun e => nomatch e)]
    exact tu.1
  · rw [List.map_append]
    exact e
theorem rows_nil {H : Hp} {n : Nat} : RowsAt H n [] := fun _ h => nomatch h
/-- a list made of the rows of numbers has just these, in order -/
theorem of_nums {n : Nat} {ns : List Nat} {ls ks : List (Addr × List Int)} (N : Nums n ns) (e : ∀ r, r ∈ ls.map (·.2) ↔ r ∈ ns.map (bitsOf n)) (o : Of ls ks) : ks.map (·.2) = ns.map (bitsOf n) := by
  have ndr : (ns.map (bitsOf n)).Nodup := List.pairwise_map.mpr (List.Pairwise.imp_of_mem (fun {a b} ha hb hlt h => Nat.ne_of_lt hlt (bits_inj (N.lt a ha) (N.lt b hb) h)) N.asc)
  have mem : ∀ r, r ∈ ks.map (·.2) ↔ r ∈ ns.map (bitsOf n) := fun r => by
    rw [← e r]
    exact ⟨fun h => (List.mem_map.mp h).elim fun p hp => List.mem_map.mpr ⟨p, o.1 p hp.1, hp.2⟩, fun h => (List.mem_map.mp h).elim fun p hp => hp.2 ▸ o.2.1 p hp.1⟩
  have perm := (List.perm_ext_iff_of_nodup o.2.2.1.1 ndr).mpr mem
  refine List.Perm.eq_of_pairwise (le := fun a b => TS.code 2 a ≤ TS.code 2 b) (fun a b ha hb h1 h2 => ?_) (List.pairwise_map.mpr o.2.2.1.2) (List.pairwise_map.mpr (List.Pairwise.imp_of_mem (fun {a b} ha hb h => ?_) N.asc)) perm
  · obtain ⟨c, hc, rfl⟩ := List.mem_map.mp ((mem a).mp ha)
    obtain ⟨d, hd, rfl⟩ := List.mem_map.mp hb
    rw [code_bits n c (N.lt c hc), code_bits n d (N.lt d hd)] at h1 h2
    have : c = d := by omega
    rw [this]
  · show TS.code 2 (bitsOf n a) ≤ TS.code 2 (bitsOf n b)
    rw [code_bits n a (N.lt a ha), code_bits n b (N.lt b hb)]
    omega
end
end K07

set_option Elab.async false
set_option linter.all false
set_option maxRecDepth 100000
set_option maxHeartbeats 4000000
namespace K07
open PySem L2 Sx
local macro_rules | `(tactic| walk_at "cond") => `(tactic| first
  | assumption
  | decide
  | exact c_mul_r (by first | decide | omega) (by first | decide | omega)
  | exact c_mul_l (by first | decide | omega) (by first | decide | omega)
  | exact c_div (by first | decide | omega) (by first | decide | omega)
  | exact c_pow (by first | decide | omega) (by first | decide | omega) (by first | decide | omega)
  | omega)
local macro_rules | `(tactic| walk_at "ne") => `(tactic| first
  | assumption
  | (refine Ne.symm ?_; assumption)
  | (refine' Flow.ne ?nh ?nn; (case nn => assumption); (case nh => walk_at "fl"))
  | (refine Ne.symm ?_; refine' Flow.ne ?nh ?nn; (case nn => assumption); (case nh => walk_at "fl"))
  | (refine' ne_of_none ?nh ?nn; (case nn => assumption); (case nh => walk_at "at"))
  | (refine Ne.symm ?_; refine' ne_of_none ?nh ?nn; (case nn => assumption); (case nh => walk_at "at")))
local macro_rules | `(tactic| walk_at "at") => `(tactic| first
  | assumption
  | (refine Same.up (by assumption) ?_; walk_at "at")
  | (refine Keep.up (by assumption) (by walk_at "ne") ?_; walk_at "at"))
local macro_rules | `(tactic| walk_at "fl") => `(tactic| first
  | assumption
  | (refine Flow.same (by assumption) ?_; walk_at "fl")
  | (refine Flow.keep (by assumption) (by walk_at "ne") ?_; walk_at "fl"))
local macro_rules | `(tactic| walk_at "fr") => `(tactic| first
  | assumption
  | (refine same_free (by assumption) ?_; walk_at "fr")
  | (refine Keep.free (by assumption) (by walk_at "ne") ?_; walk_at "fr"))
local macro_rules | `(tactic| walk_at "kp") => `(tactic| first
  | assumption
  | exact Keep.refl _ _
  | (refine Keep.trans ?_ (by assumption); walk_at "kp")
  | (refine Keep.trans ?_ (Keep.same (by assumption)); walk_at "kp"))
local macro_rules | `(tactic| walk_at "sm") => `(tactic| first
  | assumption
  | exact L2.Same.refl _
  | (refine L2.Same.trans ?_ (by assumption); walk_at "sm"))
local macro_rules | `(tactic| walk_at "sz") => `(tactic| first | exact Nat.le_of_ble_eq_true rfl | omega)
local macro_rules | `(tactic| walk_at "new") => `(tactic| (intro p np; generalize hE : upd _ p _ = H2; have s2 := new_same np hE; have h2 := new_at hE; clear hE))
local macro_rules | `(tactic| walk_at "newx") => `(tactic| (intro e d na nd hda; generalize hE : upd (upd _ d _) e _ = H2; have s2 := newx_same na nd hE; have h2 := newx_at hE; have h3 := newx_d hda hE; clear hE))
local macro_rules | `(tactic| walk_at "s1") => `(tactic| first
  | with_reducible refine s_seq ?_
  | with_reducible refine s_asg ?_
  | with_reducible refine s_name ?_
  | with_reducible refine s_ret ?_
  | with_reducible refine s_c ?_
  | ((with_reducible refine' s_var ?hv ?_); (case hv => rfl))
  | with_reducible refine s_op ?_
  | with_reducible refine s_un ?_
  | with_reducible refine s_ifS ?_
  | with_reducible refine s_cb ?_
  | with_reducible refine s_cons ?_
  | with_reducible refine s_nil ?_
  | with_reducible refine s_call ?_
  | with_reducible refine s_test ?_
  | with_reducible refine s_tB ?_
  | with_reducible refine s_bl ?_
  | with_reducible refine s_and ?_
  | with_reducible refine s_or ?_
  | with_reducible refine s_not ?_
  | with_reducible refine s_andV ?_
  | with_reducible refine s_orV ?_
  | with_reducible refine s_notV ?_
  | with_reducible refine s_blV ?_
  | with_reducible refine s_if ?_
  | with_reducible refine s_tup ?_
  | with_reducible refine s_lst ?_
  | with_reducible refine s_drop ?_
  | with_reducible refine s_next ?_
  | with_reducible refine s_sub ?_
  | with_reducible refine s_bm ?_
  | with_reducible refine s_callK ?_
  | with_reducible refine s_brk ?_
  | with_reducible refine s_cont ?_
  | with_reducible refine r_I0 ?_
  | with_reducible refine r_U ?_
  | with_reducible refine r_eqI ?_
  | with_reducible refine r_neI ?_
  | with_reducible refine r_isB ?_
  | with_reducible refine r_notB ?_
  | with_reducible refine i_t ?_
  | with_reducible refine i_f ?_
  | with_reducible refine i_nt ?_
  | with_reducible refine i_nf ?_
  | ((with_reducible refine' r_I ?hc ?_); (case hc => walk_at "cond"))
  | (with_reducible refine .inl ⟨_, rfl, ?_⟩)
  | (with_reducible refine ⟨_, rfl, ?_⟩)
  | ((with_reducible refine' r_ixL ?hx ?ha ?_); (case hx => walk_at "at"); (case ha => rfl))
  | ((with_reducible refine' r_ixT ?hx ?ha ?_); (case hx => walk_at "at"); (case ha => rfl))
  | ((with_reducible refine' r_setL ?hx ?ha ?_); (case hx => walk_at "at"); (case ha => rfl); intro H2 k2 h2; (try dsimp only [List.set, Int.toNat] at h2))
  | ((with_reducible refine' r_app ?hx ?hl ?_); (case hx => walk_at "at"); (case hl => first | exact Nat.lt_of_ble_eq_true rfl | omega); intro H2 k2 h2)
  | ((with_reducible refine' ty_list ?hx ?_); (case hx => walk_at "at"))
  | (refine And.intro (by (with_reducible show _ ≤ sizeLine); walk_at "sz") ?_; walk_at "new")
  | with_reducible refine s_exv ?_
  | walk_at "newx")
local macro_rules | `(tactic| walk_at "sx") => `(tactic| repeat (walk_at "s1"))
local macro_rules | `(tactic| walk_at "s2") => `(tactic| first
  | ((with_reducible refine' r_ixG ?hx ?hn ?_); (case hx => walk_at "at"); (case hn => omega))
  | ((with_reducible refine' r_ixGT ?hx ?hn ?_); (case hx => walk_at "at"); (case hn => omega))
  | (with_reducible refine ig_cons (fun hix => ?_) (fun hix => ?_))
  | ((with_reducible refine ig_nil ?_); omega)
  | ((with_reducible refine' i_T ?hc ?_); (case hc => omega))
  | ((with_reducible refine' i_F ?hc ?_); (case hc => omega))
  | (with_reducible refine i_2 (fun hc => ?_) (fun hc => ?_))
  | (with_reducible refine i_n2 (fun hc => ?_) (fun hc => ?_)))
local macro_rules | `(tactic| walk_at "go") => `(tactic| repeat' (first | walk_at "s1" | walk_at "s2"))

local macro_rules | `(tactic| walk_at "s1") => `(tactic| first
  | with_reducible refine s_chain ?_
  | with_reducible refine s_fldS ?_
  | with_reducible refine s_fld ?_
  | with_reducible refine s_dIn ?_
  | with_reducible refine s_dNotIn ?_
  | with_reducible refine s_sl ?_
  | with_reducible refine s_noPart ?_
  | with_reducible refine s_part ?_
  | with_reducible refine s_meth ?_
  | with_reducible refine s_make ?_)

section
variable {P : Program} {w : World} {K : PySem.W.Frag} {mg : Str → Option Value} {base : Heap} {A : Ad}
/-! two values that are alike -/
/-- alike, nested less than d deep -/
inductive Al (H : Hp) : Nat → V → V → Prop where
  | non {d : Nat} : Al H d .non .non
  | bl {d : Nat} (b : Bool) : Al H d (.bl b) (.bl b)
  | int {d : Nat} (i : Int) : Al H d (.int i) (.int i)
  | str {d : Nat} (s : Str) : Al H d (.str s) (.str s)
  | tup {d : Nat} {p q : Addr} {xs ys : List V} (hp : H p = some (.tup xs)) (hq : H q = some (.tup ys)) (l : xs.length = ys.length) (sz : ys.length < 1000) (a : ∀ (i : Nat) (x y : V), xs[i]? = some x → ys[i]? = some y → Al H d x y) : Al H (d + 1) (.ref p) (.ref q)
  | lst {d : Nat} {p q : Addr} {xs ys : List V} (hp : H p = some (.lst xs)) (hq : H q = some (.lst ys)) (l : xs.length = ys.length) (sz : ys.length < 1000) (a : ∀ (i : Nat) (x y : V), xs[i]? = some x → ys[i]? = some y → Al H d x y) : Al H (d + 1) (.ref p) (.ref q)
theorem Al.same {H H' : Hp} (e : Same H H') {d : Nat} {x y : V} (h : Al H d x y) : Al H' d x y := by
  induction h with
  | non => exact .non
  | bl b => exact .bl b
  | int i => exact .int i
  | str s => exact .str s
  | tup hp hq l sz _ ih => exact .tup (e _ _ hp) (e _ _ hq) l sz ih
  | lst hp hq l sz _ ih => exact .lst (e _ _ hp) (e _ _ hq) l sz ih
theorem al_ints {H : Hp} {d : Nat} {p q : Addr} {ns : List Int} (hp : H p = some (.tup (ns.map V.int))) (hq : H q = some (.tup (ns.map V.int))) (sz : ns.length < 1000) : Al H (d + 1) (.ref p) (.ref q) := by
  refine .tup hp hq rfl (by rw [List.length_map]; exact sz) fun i x y hx hy => ?_
  rw [hx] at hy
  cases hy
  obtain ⟨n, _, rfl⟩ := List.mem_map.mp (List.mem_of_getElem? hx)
  exact .int n
def spSame (d : Nat) : Sp := fun vs H Q _ => ∃ x y, vs = [x, y] ∧ Al H d x y ∧ ∀ H', Same H H' → Q (.bl true) H'
abbrev All : Addr → Prop := fun _ => True
theorem eq_str (a : Str) : scal (.str a) (.str a) = true := rfl
local macro_rules | `(tactic| walk_at "knd") => `(tactic| first
  | exact Kn.int _
  | exact Kn.str _
  | exact Kn.tup (by assumption) trivial
  | exact Kn.lst (by assumption) trivial)
local macro_rules | `(tactic| walk_at "no") => `(tactic| first
  | exact in_bK (B := All) (by walk_at "knd")
  | exact in_iK (B := All) (by walk_at "knd")
  | exact in_sK (B := All) (by walk_at "knd"))
local macro_rules | `(tactic| walk_at "is") => `(tactic| (walk_at "sx"; refine isi_in (b := false) (by walk_at "no") ?_; walk_at "sx"))
/-- the case of scalars -/
theorem same_sc {d : Nat} {x y : V} {H H2 : Hp} (al : Al H 0 x y) : Al H2 d x y := by
  cases al with
  | non => exact .non
  | bl b => exact .bl b
  | int i => exact .int i
  | str s => exact .str s
theorem ok_same (T : Txt P K mg A) : ∀ d, FnOk P w K mg base CX0 (d + 1) A.a__law_same A.d__law_same ["actual", "due"] (spSame d) := by
  intro d
  induction d with
  | zero =>
    refine T.F__law_same.ok sc__law_same (fun vs H Q E h => ?_) (fun cdv A' outer s H vs Q E hr h => ?_)
    · obtain ⟨x, y, rfl, _⟩ := h
      rfl
    · obtain ⟨x, y, rfl, al, k⟩ := h
      refine ⟨_, (pss_cons (ps_if (pt_cmpR op_isN (pv 1) pe_non (nomark _)) (pss_one (ps_ret (pe_cmpR op_isN (pv 0) pe_non (nomark _)))) pss_nil)
  (pss_cons (ps_if (pt_val (pe_callB (id := "isinstance") (r := rIsiV K) call_isiV (by rfl) T.n_isinstance (by decide +kernel) (pa_cons (pv 1) (pa_cons (pe_bltn (v := .ty "bool") (u := .type "bool") (by rfl) T.n_bool (by decide +kernel) rfl) pa_nil)))) (pss_one (ps_ret (pe_and (pe_callB (id := "isinstance") (r := rIsiV K) call_isiV (by rfl) T.n_isinstance (by decide +kernel) (pa_cons (pv 0) (pa_cons (pe_bltn (v := .ty "bool") (u := .type "bool") (by rfl) T.n_bool (by decide +kernel) rfl) pa_nil))) (pe_one (pe_cmpR op_eq (pv 0) (pv 1) (nomark _)))))) pss_nil)
  (pss_cons (ps_if (pt_val (pe_callB (id := "isinstance") (r := rIsiV K) call_isiV (by rfl) T.n_isinstance (by decide +kernel) (pa_cons (pv 1) (pa_cons (pe_bltn (v := .ty "int") (u := .type "int") (by rfl) T.n_int (by decide +kernel) rfl) pa_nil)))) (pss_one (ps_ret (pe_and (pe_callB (id := "isinstance") (r := rIsiV K) call_isiV (by rfl) T.n_isinstance (by decide +kernel) (pa_cons (pv 0) (pa_cons (pe_bltn (v := .ty "int") (u := .type "int") (by rfl) T.n_int (by decide +kernel) rfl) pa_nil))) (pe_and (pe_not (pe_callB (id := "isinstance") (r := rIsiV K) call_isiV (by rfl) T.n_isinstance (by decide +kernel) (pa_cons (pv 0) (pa_cons (pe_bltn (v := .ty "bool") (u := .type "bool") (by rfl) T.n_bool (by decide +kernel) rfl) pa_nil)))) (pe_one (pe_cmpR op_eq (pv 0) (pv 1) (nomark _))))))) pss_nil)
  (pss_cons (ps_if (pt_val (pe_callB (id := "isinstance") (r := rIsiV K) call_isiV (by rfl) T.n_isinstance (by decide +kernel) (pa_cons (pv 1) (pa_cons (pe_bltn (v := .ty "str") (u := .type "str") (by rfl) T.n_str (by decide +kernel) rfl) pa_nil)))) (pss_one (ps_ret (pe_and (pe_callB (id := "isinstance") (r := rIsiV K) call_isiV (by rfl) T.n_isinstance (by decide +kernel) (pa_cons (pv 0) (pa_cons (pe_bltn (v := .ty "str") (u := .type "str") (by rfl) T.n_str (by decide +kernel) rfl) pa_nil))) (pe_one (pe_cmpR op_eq (pv 0) (pv 1) (nomark _)))))) pss_nil)
  (pss_cons (ps_if (PW.pt (pw_and (pt_val (pe_callB (id := "isinstance") (r := rIsiV K) call_isiV (by rfl) T.n_isinstance (by decide +kernel) (pa_cons (pv 1) (pa_cons (pe_bltn (v := .ty "tuple") (u := .type "tuple") (by rfl) T.n_tuple (by decide +kernel) rfl) pa_nil)))) (pw_and1 (pt_not (pt_val (pe_callB (id := "isinstance") (r := rIsiV K) call_isiV (by rfl) T.n_isinstance (by decide +kernel) (pa_cons (pv 0) (pa_cons (pe_bltn (v := .ty "tuple") (u := .type "tuple") (by rfl) T.n_tuple (by decide +kernel) rfl) pa_nil)))))))) (pss_one (ps_ret pe_bl)) pss_nil)
  (pss_cons (ps_if (PW.pt (pw_and (pt_val (pe_callB (id := "isinstance") (r := rIsiV K) call_isiV (by rfl) T.n_isinstance (by decide +kernel) (pa_cons (pv 1) (pa_cons (pe_bltn (v := .ty "list") (u := .type "list") (by rfl) T.n_list (by decide +kernel) rfl) pa_nil)))) (pw_and1 (pt_not (pt_val (pe_callB (id := "isinstance") (r := rIsiV K) call_isiV (by rfl) T.n_isinstance (by decide +kernel) (pa_cons (pv 0) (pa_cons (pe_bltn (v := .ty "list") (u := .type "list") (by rfl) T.n_list (by decide +kernel) rfl) pa_nil)))))))) (pss_one (ps_ret pe_bl)) pss_nil)
  (pss_cons (ps_if (pt_cmpR op_ne (pe_callB call_len (by rfl) T.n_len (by decide +kernel) (pa_cons (pv 0) pa_nil)) (pe_callB call_len (by rfl) T.n_len (by decide +kernel) (pa_cons (pv 1) pa_nil)) (nomark _)) (pss_one (ps_ret pe_bl)) pss_nil)
  (pss_cons ps_never
  (pss_one (ps_ret pe_bl)))))))))), ?_⟩
      walk_at "sx"
      refine ⟨rfl, ?_⟩
      walk_at "sx"
      have k' := k H (L2.Same.refl H)
      cases al with
      | non =>
        refine i_T rfl ?_
        walk_at "sx"
        refine ⟨rfl, ?_⟩
        exact k'
      | bl b =>
        refine i_F (fun e => nomatch e) ?_
        walk_at "sx"
        refine isi_in (b := true) (in_bK (B := All) (.bl b)) ?_
        walk_at "sx"
        refine isi_in (b := true) (in_bK (B := All) (.bl b)) ?_
        walk_at "sx"
        refine r_eq rfl ?_
        rw [decide_eq_true rfl]
        exact k'
      | int i =>
        refine i_F (fun e => nomatch e) ?_
        walk_at "is"
        refine isi_in (b := true) (in_iK (B := All) (.int i)) ?_
        walk_at "sx"
        refine isi_in (b := true) (in_iK (B := All) (.int i)) ?_
        walk_at "sx"
        refine isi_in (b := false) (in_bK (B := All) (.int i)) ?_
        walk_at "sx"
        rw [decide_eq_true rfl]
        exact k'
      | str z =>
        refine i_F (fun e => nomatch e) ?_
        walk_at "is"
        walk_at "is"
        refine isi_in (b := true) (in_sK (B := All) (.str z)) ?_
        walk_at "sx"
        refine isi_in (b := true) (in_sK (B := All) (.str z)) ?_
        walk_at "sx"
        refine r_eq rfl ?_
        rw [decide_eq_true rfl]
        exact k'
  | succ d ih =>
    refine T.F__law_same.ok sc__law_same (fun vs H Q E h => ?_) (fun cdv A' outer s H vs Q E hr h => ?_)
    · obtain ⟨x, y, rfl, _⟩ := h
      rfl
    · obtain ⟨x, y, rfl, al, k⟩ := h
      have G__law_same := ih
      refine ⟨_, (pss_cons (ps_if (pt_cmpR op_isN (pv 1) pe_non (nomark _)) (pss_one (ps_ret (pe_cmpR op_isN (pv 0) pe_non (nomark _)))) pss_nil)
  (pss_cons (ps_if (pt_val (pe_callB (id := "isinstance") (r := rIsiV K) call_isiV (by rfl) T.n_isinstance (by decide +kernel) (pa_cons (pv 1) (pa_cons (pe_bltn (v := .ty "bool") (u := .type "bool") (by rfl) T.n_bool (by decide +kernel) rfl) pa_nil)))) (pss_one (ps_ret (pe_and (pe_callB (id := "isinstance") (r := rIsiV K) call_isiV (by rfl) T.n_isinstance (by decide +kernel) (pa_cons (pv 0) (pa_cons (pe_bltn (v := .ty "bool") (u := .type "bool") (by rfl) T.n_bool (by decide +kernel) rfl) pa_nil))) (pe_one (pe_cmpR op_eq (pv 0) (pv 1) (nomark _)))))) pss_nil)
  (pss_cons (ps_if (pt_val (pe_callB (id := "isinstance") (r := rIsiV K) call_isiV (by rfl) T.n_isinstance (by decide +kernel) (pa_cons (pv 1) (pa_cons (pe_bltn (v := .ty "int") (u := .type "int") (by rfl) T.n_int (by decide +kernel) rfl) pa_nil)))) (pss_one (ps_ret (pe_and (pe_callB (id := "isinstance") (r := rIsiV K) call_isiV (by rfl) T.n_isinstance (by decide +kernel) (pa_cons (pv 0) (pa_cons (pe_bltn (v := .ty "int") (u := .type "int") (by rfl) T.n_int (by decide +kernel) rfl) pa_nil))) (pe_and (pe_not (pe_callB (id := "isinstance") (r := rIsiV K) call_isiV (by rfl) T.n_isinstance (by decide +kernel) (pa_cons (pv 0) (pa_cons (pe_bltn (v := .ty "bool") (u := .type "bool") (by rfl) T.n_bool (by decide +kernel) rfl) pa_nil)))) (pe_one (pe_cmpR op_eq (pv 0) (pv 1) (nomark _))))))) pss_nil)
  (pss_cons (ps_if (pt_val (pe_callB (id := "isinstance") (r := rIsiV K) call_isiV (by rfl) T.n_isinstance (by decide +kernel) (pa_cons (pv 1) (pa_cons (pe_bltn (v := .ty "str") (u := .type "str") (by rfl) T.n_str (by decide +kernel) rfl) pa_nil)))) (pss_one (ps_ret (pe_and (pe_callB (id := "isinstance") (r := rIsiV K) call_isiV (by rfl) T.n_isinstance (by decide +kernel) (pa_cons (pv 0) (pa_cons (pe_bltn (v := .ty "str") (u := .type "str") (by rfl) T.n_str (by decide +kernel) rfl) pa_nil))) (pe_one (pe_cmpR op_eq (pv 0) (pv 1) (nomark _)))))) pss_nil)
  (pss_cons (ps_if (PW.pt (pw_and (pt_val (pe_callB (id := "isinstance") (r := rIsiV K) call_isiV (by rfl) T.n_isinstance (by decide +kernel) (pa_cons (pv 1) (pa_cons (pe_bltn (v := .ty "tuple") (u := .type "tuple") (by rfl) T.n_tuple (by decide +kernel) rfl) pa_nil)))) (pw_and1 (pt_not (pt_val (pe_callB (id := "isinstance") (r := rIsiV K) call_isiV (by rfl) T.n_isinstance (by decide +kernel) (pa_cons (pv 0) (pa_cons (pe_bltn (v := .ty "tuple") (u := .type "tuple") (by rfl) T.n_tuple (by decide +kernel) rfl) pa_nil)))))))) (pss_one (ps_ret pe_bl)) pss_nil)
  (pss_cons (ps_if (PW.pt (pw_and (pt_val (pe_callB (id := "isinstance") (r := rIsiV K) call_isiV (by rfl) T.n_isinstance (by decide +kernel) (pa_cons (pv 1) (pa_cons (pe_bltn (v := .ty "list") (u := .type "list") (by rfl) T.n_list (by decide +kernel) rfl) pa_nil)))) (pw_and1 (pt_not (pt_val (pe_callB (id := "isinstance") (r := rIsiV K) call_isiV (by rfl) T.n_isinstance (by decide +kernel) (pa_cons (pv 0) (pa_cons (pe_bltn (v := .ty "list") (u := .type "list") (by rfl) T.n_list (by decide +kernel) rfl) pa_nil)))))))) (pss_one (ps_ret pe_bl)) pss_nil)
  (pss_cons (ps_if (pt_cmpR op_ne (pe_callB call_len (by rfl) T.n_len (by decide +kernel) (pa_cons (pv 0) pa_nil)) (pe_callB call_len (by rfl) T.n_len (by decide +kernel) (pa_cons (pv 1) pa_nil)) (nomark _)) (pss_one (ps_ret pe_bl)) pss_nil)
  (pss_cons (ps_for PassesOwn.never rfl (pi_range1 rfl T.n_range (pa_cons (pe_callB call_len (by rfl) T.n_len (by decide +kernel) (pa_cons (pv 1) pa_nil)) pa_nil)) (pg_name (i := 2) sc__law_same.nd rfl (Or.inl rfl))
  (pss_one (ps_if (pt_not (pt_val (pe_call G__law_same hr rfl T.g__law_same T.F__law_same.kp (B__law_same T) .nil pass0 (pa_cons (pe_ix ix_seq (pv 0) (pv 2) (fun _ _ => rfl)) (pa_cons (pe_ix ix_seq (pv 1) (pv 2) (fun _ _ => rfl)) pa_nil))))) (pss_one (ps_ret pe_bl)) pss_nil)))
  (pss_one (ps_ret pe_bl)))))))))), ?_⟩
      walk_at "sx"
      refine ⟨rfl, ?_⟩
      walk_at "sx"
      have k' := k H (L2.Same.refl H)
      cases al with
      | non =>
        refine i_T rfl ?_
        walk_at "sx"
        refine ⟨rfl, ?_⟩
        exact k'
      | bl b =>
        refine i_F (fun e => nomatch e) ?_
        walk_at "sx"
        refine isi_in (b := true) (in_bK (B := All) (.bl b)) ?_
        walk_at "sx"
        refine isi_in (b := true) (in_bK (B := All) (.bl b)) ?_
        walk_at "sx"
        refine r_eq rfl ?_
        rw [decide_eq_true rfl]
        exact k'
      | int i =>
        refine i_F (fun e => nomatch e) ?_
        walk_at "is"
        refine isi_in (b := true) (in_iK (B := All) (.int i)) ?_
        walk_at "sx"
        refine isi_in (b := true) (in_iK (B := All) (.int i)) ?_
        walk_at "sx"
        refine isi_in (b := false) (in_bK (B := All) (.int i)) ?_
        walk_at "sx"
        rw [decide_eq_true rfl]
        exact k'
      | str z =>
        refine i_F (fun e => nomatch e) ?_
        walk_at "is"
        walk_at "is"
        refine isi_in (b := true) (in_sK (B := All) (.str z)) ?_
        walk_at "sx"
        refine isi_in (b := true) (in_sK (B := All) (.str z)) ?_
        walk_at "sx"
        refine r_eq rfl ?_
        rw [decide_eq_true rfl]
        exact k'
      | tup hp hq l sz a =>
        rename_i p q xs ys
        refine i_F (fun e => nomatch e) ?_
        walk_at "is"
        walk_at "is"
        walk_at "is"
        refine isi_in (b := true) (in_tup hq) ?_
        walk_at "sx"
        refine isi_in (b := true) (in_tup hp) ?_
        walk_at "sx"
        refine isi_in (b := false) (in_tup_l hq) ?_
        walk_at "sx"
        refine ⟨_, _, rfl, .inr ⟨_, SqT.of hp, rfl⟩, ?_⟩
        walk_at "sx"
        refine ⟨_, _, rfl, .inr ⟨_, SqT.of hq, rfl⟩, ?_⟩
        walk_at "sx"
        rw [l, decide_eq_true rfl]
        walk_at "sx"
        refine ⟨_, rfl, _, _, rfl, .inr ⟨_, SqT.of hq, rfl⟩, _, rfl, by omega, by omega, for_range (lo := 0) (n := ys.length) (fun i σ H' => Same H H' ∧ ∃ v, σ = [some (.ref p), some (.ref q), v]) ⟨L2.Same.refl H, none, rfl⟩ ?_ ?_⟩
        · rintro i σ H' hi ⟨s', v, rfl⟩
          have hx := List.getElem?_eq_getElem (show i < xs.length by omega)
          have hy := List.getElem?_eq_getElem hi
          walk_at "sx"
          refine r_ixT (s' _ _ hp) (atI_nat (by rw [Nat.zero_add]; exact hx)) ?_
          walk_at "sx"
          refine r_ixT (s' _ _ hq) (atI_nat (by rw [Nat.zero_add]; exact hy)) ?_
          walk_at "sx"
          refine ⟨_, _, rfl, (a i _ _ hx hy).same s', fun H2 s2 => ?_⟩
          walk_at "sx"
          exact ⟨s'.trans s2, _, rfl⟩
        · rintro σ H' ⟨s', v, rfl⟩
          walk_at "sx"
          exact k H' s'
      | lst hp hq l sz a =>
        rename_i p q xs ys
        refine i_F (fun e => nomatch e) ?_
        walk_at "is"
        walk_at "is"
        walk_at "is"
        refine isi_in (b := false) (in_lst_t hq) ?_
        walk_at "sx"
        refine isi_in (b := true) (in_lst hq) ?_
        walk_at "sx"
        refine isi_in (b := true) (in_lst hp) ?_
        walk_at "sx"
        refine ⟨_, _, rfl, .inl ⟨_, SqL.of hp, rfl⟩, ?_⟩
        walk_at "sx"
        refine ⟨_, _, rfl, .inl ⟨_, SqL.of hq, rfl⟩, ?_⟩
        walk_at "sx"
        rw [l, decide_eq_true rfl]
        walk_at "sx"
        refine ⟨_, rfl, _, _, rfl, .inl ⟨_, SqL.of hq, rfl⟩, _, rfl, by omega, by omega, for_range (lo := 0) (n := ys.length) (fun i σ H' => Same H H' ∧ ∃ v, σ = [some (.ref p), some (.ref q), v]) ⟨L2.Same.refl H, none, rfl⟩ ?_ ?_⟩
        · rintro i σ H' hi ⟨s', v, rfl⟩
          have hx := List.getElem?_eq_getElem (show i < xs.length by omega)
          have hy := List.getElem?_eq_getElem hi
          walk_at "sx"
          refine r_ixL (s' _ _ hp) (atI_nat (by rw [Nat.zero_add]; exact hx)) ?_
          walk_at "sx"
          refine r_ixL (s' _ _ hq) (atI_nat (by rw [Nat.zero_add]; exact hy)) ?_
          walk_at "sx"
          refine ⟨_, _, rfl, (a i _ _ hx hy).same s', fun H2 s2 => ?_⟩
          walk_at "sx"
          exact ⟨s'.trans s2, _, rfl⟩
        · rintro σ H' ⟨s', v, rfl⟩
          walk_at "sx"
          exact k H' s'
end
end K07

set_option Elab.async false
set_option linter.all false
set_option maxRecDepth 100000
set_option maxHeartbeats 4000000
namespace K07
open PySem L2 Sx
local macro_rules | `(tactic| walk_at "cond") => `(tactic| first
  | assumption
  | decide
  | exact c_mul_r (by first | decide | omega) (by first | decide | omega)
  | exact c_mul_l (by first | decide | omega) (by first | decide | omega)
  | exact c_div (by first | decide | omega) (by first | decide | omega)
  | exact c_pow (by first | decide | omega) (by first | decide | omega) (by first | decide | omega)
  | omega)
local macro_rules | `(tactic| walk_at "ne") => `(tactic| first
  | assumption
  | (refine Ne.symm ?_; assumption)
  | (refine' Flow.ne ?nh ?nn; (case nn => assumption); (case nh => walk_at "fl"))
  | (refine Ne.symm ?_; refine' Flow.ne ?nh ?nn; (case nn => assumption); (case nh => walk_at "fl"))
  | (refine' ne_of_none ?nh ?nn; (case nn => assumption); (case nh => walk_at "at"))
  | (refine Ne.symm ?_; refine' ne_of_none ?nh ?nn; (case nn => assumption); (case nh => walk_at "at")))
local macro_rules | `(tactic| walk_at "at") => `(tactic| first
  | assumption
  | (refine Same.up (by assumption) ?_; walk_at "at")
  | (refine Keep.up (by assumption) (by walk_at "ne") ?_; walk_at "at"))
local macro_rules | `(tactic| walk_at "fl") => `(tactic| first
  | assumption
  | (refine Flow.same (by assumption) ?_; walk_at "fl")
  | (refine Flow.keep (by assumption) (by walk_at "ne") ?_; walk_at "fl"))
local macro_rules | `(tactic| walk_at "fr") => `(tactic| first
  | assumption
  | (refine same_free (by assumption) ?_; walk_at "fr")
  | (refine Keep.free (by assumption) (by walk_at "ne") ?_; walk_at "fr"))
local macro_rules | `(tactic| walk_at "kp") => `(tactic| first
  | assumption
  | exact Keep.refl _ _
  | (refine Keep.trans ?_ (by assumption); walk_at "kp")
  | (refine Keep.trans ?_ (Keep.same (by assumption)); walk_at "kp"))
local macro_rules | `(tactic| walk_at "sm") => `(tactic| first
  | assumption
  | exact L2.Same.refl _
  | (refine L2.Same.trans ?_ (by assumption); walk_at "sm"))
local macro_rules | `(tactic| walk_at "sz") => `(tactic| first | exact Nat.le_of_ble_eq_true rfl | omega)
local macro_rules | `(tactic| walk_at "new") => `(tactic| (intro p np; generalize hE : upd _ p _ = H2; have s2 := new_same np hE; have h2 := new_at hE; clear hE))
local macro_rules | `(tactic| walk_at "newx") => `(tactic| (intro e d na nd hda; generalize hE : upd (upd _ d _) e _ = H2; have s2 := newx_same na nd hE; have h2 := newx_at hE; have h3 := newx_d hda hE; clear hE))
local macro_rules | `(tactic| walk_at "s1") => `(tactic| first
  | with_reducible refine s_seq ?_
  | with_reducible refine s_asg ?_
  | with_reducible refine s_name ?_
  | with_reducible refine s_ret ?_
  | with_reducible refine s_c ?_
  | ((with_reducible refine' s_var ?hv ?_); (case hv => rfl))
  | with_reducible refine s_op ?_
  | with_reducible refine s_un ?_
  | with_reducible refine s_ifS ?_
  | with_reducible refine s_cb ?_
  | with_reducible refine s_cons ?_
  | with_reducible refine s_nil ?_
  | with_reducible refine s_call ?_
  | with_reducible refine s_test ?_
  | with_reducible refine s_tB ?_
  | with_reducible refine s_bl ?_
  | with_reducible refine s_and ?_
  | with_reducible refine s_or ?_
  | with_reducible refine s_not ?_
  | with_reducible refine s_andV ?_
  | with_reducible refine s_orV ?_
  | with_reducible refine s_notV ?_
  | with_reducible refine s_blV ?_
  | with_reducible refine s_if ?_
  | with_reducible refine s_tup ?_
  | with_reducible refine s_lst ?_
  | with_reducible refine s_drop ?_
  | with_reducible refine s_next ?_
  | with_reducible refine s_sub ?_
  | with_reducible refine s_bm ?_
  | with_reducible refine s_callK ?_
  | with_reducible refine s_brk ?_
  | with_reducible refine s_cont ?_
  | with_reducible refine r_I0 ?_
  | with_reducible refine r_U ?_
  | with_reducible refine r_eqI ?_
  | with_reducible refine r_neI ?_
  | with_reducible refine r_isB ?_
  | with_reducible refine r_notB ?_
  | with_reducible refine i_t ?_
  | with_reducible refine i_f ?_
  | with_reducible refine i_nt ?_
  | with_reducible refine i_nf ?_
  | ((with_reducible refine' r_I ?hc ?_); (case hc => walk_at "cond"))
  | (with_reducible refine .inl ⟨_, rfl, ?_⟩)
  | (with_reducible refine ⟨_, rfl, ?_⟩)
  | ((with_reducible refine' r_ixL ?hx ?ha ?_); (case hx => walk_at "at"); (case ha => rfl))
  | ((with_reducible refine' r_ixT ?hx ?ha ?_); (case hx => walk_at "at"); (case ha => rfl))
  | ((with_reducible refine' r_setL ?hx ?ha ?_); (case hx => walk_at "at"); (case ha => rfl); intro H2 k2 h2; (try dsimp only [List.set, Int.toNat] at h2))
  | ((with_reducible refine' r_app ?hx ?hl ?_); (case hx => walk_at "at"); (case hl => first | exact Nat.lt_of_ble_eq_true rfl | omega); intro H2 k2 h2)
  | ((with_reducible refine' ty_list ?hx ?_); (case hx => walk_at "at"))
  | (refine And.intro (by (with_reducible show _ ≤ sizeLine); walk_at "sz") ?_; walk_at "new")
  | with_reducible refine s_exv ?_
  | walk_at "newx")
local macro_rules | `(tactic| walk_at "sx") => `(tactic| repeat (walk_at "s1"))
local macro_rules | `(tactic| walk_at "s2") => `(tactic| first
  | ((with_reducible refine' r_ixG ?hx ?hn ?_); (case hx => walk_at "at"); (case hn => omega))
  | ((with_reducible refine' r_ixGT ?hx ?hn ?_); (case hx => walk_at "at"); (case hn => omega))
  | (with_reducible refine ig_cons (fun hix => ?_) (fun hix => ?_))
  | ((with_reducible refine ig_nil ?_); omega)
  | ((with_reducible refine' i_T ?hc ?_); (case hc => omega))
  | ((with_reducible refine' i_F ?hc ?_); (case hc => omega))
  | (with_reducible refine i_2 (fun hc => ?_) (fun hc => ?_))
  | (with_reducible refine i_n2 (fun hc => ?_) (fun hc => ?_)))
local macro_rules | `(tactic| walk_at "go") => `(tactic| repeat' (first | walk_at "s1" | walk_at "s2"))

local macro_rules | `(tactic| walk_at "s1") => `(tactic| first
  | with_reducible refine s_chain ?_
  | with_reducible refine s_fldS ?_
  | with_reducible refine s_fld ?_
  | with_reducible refine s_dIn ?_
  | with_reducible refine s_dNotIn ?_
  | with_reducible refine s_sl ?_
  | with_reducible refine s_noPart ?_
  | with_reducible refine s_part ?_
  | with_reducible refine s_meth ?_
  | with_reducible refine s_make ?_)

theorem s_callS {σ : L2.St} {H : Hp} {Q : VK} {sp : Sp} {E : L2.St → XK} {t : TA} (h : t σ H fun vs H1 => sp vs H1 Q (E σ)) : tCallS sp E t σ H Q := h
local macro_rules | `(tactic| walk_at "s1") => `(tactic| first
  | with_reducible refine s_callS ?_)
theorem hotX {CX : CXT} {P : Program} {w : World} {K : PySem.W.Frag} {mg : Str → Option Value} {base : Heap} {N : List Str} {qual : Str} {scope : Scope} {f : Addr} {cd : Value} {A : Around} {outer : List Env} {s : Shared} {H : Hp} {E : XK} {p : Addr × Obj} (h : L2H.Hot1 A p) : L2H.HotC (L2H.cxH CX P w K mg base N qual scope f cd A outer s H E p) := ⟨p, ⟨h.1, h.2⟩, List.mem_cons_self⟩
theorem _root_.L2.Fun.okHH {CX : CXT} {P : Program} {w : World} {K : PySem.W.Frag} {mg : Str → Option Value} {base : Heap} {x qual : Str} {st : Stmt} {f : Addr} {fd : FuncData} {N ps : List Str} {k : Nat} {sp : Sp} (F : Fun K x qual st f fd) (S : FnScope N ps (defScope st)) (len : ∀ vs H Q E, sp vs H Q E → vs.length = ps.length)
    (hbody : ∀ (cdv : Value) (A : Around) (outer : List Env) (s : Shared) (H : Hp) (vs : List V) (Q : VK) (E : XK) (p : Addr × Obj), L2H.Hot1 A p → L2H.RoomH k (A.deeper (PyProof.Rows.envOfC qual (defScope st) s.heap.objs.size f cdv)) → sp vs H Q E →
      ∃ t, PSs (L2H.cxH CX P w K mg base N qual (defScope st) f cdv A outer s H E p) (defBody st) t ∧ t { nx := fun _ H' => Q .non H', rt := Q } (start N vs) H) : L2H.FnH P w K mg base CX (k + 1) f fd ps sp := by
  obtain ⟨oc, od, kV, doc, pm, an, cdv, ct, osl, rfl, lk, hcd⟩ := F.ex
  exact L2H.fn_ofH lk hcd S len fun A outer s H vs Q E p hot hr hsp => hbody cdv A outer s H vs Q E p hot hr hsp
section
variable {P : Program} {w : World} {K : PySem.W.Frag} {mg : Str → Option Value} {base : Heap} {A : Ad}
local macro_rules | `(tactic| walk_at "knd") => `(tactic| first
  | exact Kn.int _
  | exact Kn.str _
  | exact Kn.tup (by assumption) trivial
  | exact Kn.lst (by assumption) trivial)
local macro_rules | `(tactic| walk_at "no") => `(tactic| first
  | exact in_bK (B := All) (by walk_at "knd")
  | exact in_iK (B := All) (by walk_at "knd")
  | exact in_sK (B := All) (by walk_at "knd"))
local macro_rules | `(tactic| walk_at "is") => `(tactic| (walk_at "sx"; refine isi_in (b := false) (by walk_at "no") ?_; walk_at "sx"))
theorem ok_sameH (T : Txt P K mg A) : ∀ d, L2H.FnH P w K mg base CX0 (d + 1) A.a__law_same A.d__law_same ["actual", "due"] (spSame d) := by
  intro d
  induction d with
  | zero =>
    refine T.F__law_same.okHH sc__law_same (fun vs H Q E h => ?_) (fun cdv A' outer s H vs Q E p0 hot hr h => ?_)
    · obtain ⟨x, y, rfl, _⟩ := h
      rfl
    · obtain ⟨x, y, rfl, al, k⟩ := h
      refine ⟨_, (pss_cons (ps_if (pt_cmpR op_isN (pv 1) pe_non (nomark _)) (pss_one (ps_ret (pe_cmpR op_isN (pv 0) pe_non (nomark _)))) pss_nil)
  (pss_cons (ps_if (pt_val (pe_callB (id := "isinstance") (r := rIsiV K) call_isiV (by rfl) T.n_isinstance (by decide +kernel) (pa_cons (pv 1) (pa_cons (pe_bltn (v := .ty "bool") (u := .type "bool") (by rfl) T.n_bool (by decide +kernel) rfl) pa_nil)))) (pss_one (ps_ret (pe_and (pe_callB (id := "isinstance") (r := rIsiV K) call_isiV (by rfl) T.n_isinstance (by decide +kernel) (pa_cons (pv 0) (pa_cons (pe_bltn (v := .ty "bool") (u := .type "bool") (by rfl) T.n_bool (by decide +kernel) rfl) pa_nil))) (pe_one (pe_cmpR op_eq (pv 0) (pv 1) (nomark _)))))) pss_nil)
  (pss_cons (ps_if (pt_val (pe_callB (id := "isinstance") (r := rIsiV K) call_isiV (by rfl) T.n_isinstance (by decide +kernel) (pa_cons (pv 1) (pa_cons (pe_bltn (v := .ty "int") (u := .type "int") (by rfl) T.n_int (by decide +kernel) rfl) pa_nil)))) (pss_one (ps_ret (pe_and (pe_callB (id := "isinstance") (r := rIsiV K) call_isiV (by rfl) T.n_isinstance (by decide +kernel) (pa_cons (pv 0) (pa_cons (pe_bltn (v := .ty "int") (u := .type "int") (by rfl) T.n_int (by decide +kernel) rfl) pa_nil))) (pe_and (pe_not (pe_callB (id := "isinstance") (r := rIsiV K) call_isiV (by rfl) T.n_isinstance (by decide +kernel) (pa_cons (pv 0) (pa_cons (pe_bltn (v := .ty "bool") (u := .type "bool") (by rfl) T.n_bool (by decide +kernel) rfl) pa_nil)))) (pe_one (pe_cmpR op_eq (pv 0) (pv 1) (nomark _))))))) pss_nil)
  (pss_cons (ps_if (pt_val (pe_callB (id := "isinstance") (r := rIsiV K) call_isiV (by rfl) T.n_isinstance (by decide +kernel) (pa_cons (pv 1) (pa_cons (pe_bltn (v := .ty "str") (u := .type "str") (by rfl) T.n_str (by decide +kernel) rfl) pa_nil)))) (pss_one (ps_ret (pe_and (pe_callB (id := "isinstance") (r := rIsiV K) call_isiV (by rfl) T.n_isinstance (by decide +kernel) (pa_cons (pv 0) (pa_cons (pe_bltn (v := .ty "str") (u := .type "str") (by rfl) T.n_str (by decide +kernel) rfl) pa_nil))) (pe_one (pe_cmpR op_eq (pv 0) (pv 1) (nomark _)))))) pss_nil)
  (pss_cons (ps_if (PW.pt (pw_and (pt_val (pe_callB (id := "isinstance") (r := rIsiV K) call_isiV (by rfl) T.n_isinstance (by decide +kernel) (pa_cons (pv 1) (pa_cons (pe_bltn (v := .ty "tuple") (u := .type "tuple") (by rfl) T.n_tuple (by decide +kernel) rfl) pa_nil)))) (pw_and1 (pt_not (pt_val (pe_callB (id := "isinstance") (r := rIsiV K) call_isiV (by rfl) T.n_isinstance (by decide +kernel) (pa_cons (pv 0) (pa_cons (pe_bltn (v := .ty "tuple") (u := .type "tuple") (by rfl) T.n_tuple (by decide +kernel) rfl) pa_nil)))))))) (pss_one (ps_ret pe_bl)) pss_nil)
  (pss_cons (ps_if (PW.pt (pw_and (pt_val (pe_callB (id := "isinstance") (r := rIsiV K) call_isiV (by rfl) T.n_isinstance (by decide +kernel) (pa_cons (pv 1) (pa_cons (pe_bltn (v := .ty "list") (u := .type "list") (by rfl) T.n_list (by decide +kernel) rfl) pa_nil)))) (pw_and1 (pt_not (pt_val (pe_callB (id := "isinstance") (r := rIsiV K) call_isiV (by rfl) T.n_isinstance (by decide +kernel) (pa_cons (pv 0) (pa_cons (pe_bltn (v := .ty "list") (u := .type "list") (by rfl) T.n_list (by decide +kernel) rfl) pa_nil)))))))) (pss_one (ps_ret pe_bl)) pss_nil)
  (pss_cons (ps_if (pt_cmpR op_ne (pe_callB call_len (by rfl) T.n_len (by decide +kernel) (pa_cons (pv 0) pa_nil)) (pe_callB call_len (by rfl) T.n_len (by decide +kernel) (pa_cons (pv 1) pa_nil)) (nomark _)) (pss_one (ps_ret pe_bl)) pss_nil)
  (pss_cons ps_never
  (pss_one (ps_ret pe_bl)))))))))), ?_⟩
      walk_at "sx"
      refine ⟨rfl, ?_⟩
      walk_at "sx"
      have k' := k H (L2.Same.refl H)
      cases al with
      | non =>
        refine i_T rfl ?_
        walk_at "sx"
        refine ⟨rfl, ?_⟩
        exact k'
      | bl b =>
        refine i_F (fun e => nomatch e) ?_
        walk_at "sx"
        refine isi_in (b := true) (in_bK (B := All) (.bl b)) ?_
        walk_at "sx"
        refine isi_in (b := true) (in_bK (B := All) (.bl b)) ?_
        walk_at "sx"
        refine r_eq rfl ?_
        rw [decide_eq_true rfl]
        exact k'
      | int i =>
        refine i_F (fun e => nomatch e) ?_
        walk_at "is"
        refine isi_in (b := true) (in_iK (B := All) (.int i)) ?_
        walk_at "sx"
        refine isi_in (b := true) (in_iK (B := All) (.int i)) ?_
        walk_at "sx"
        refine isi_in (b := false) (in_bK (B := All) (.int i)) ?_
        walk_at "sx"
        rw [decide_eq_true rfl]
        exact k'
      | str z =>
        refine i_F (fun e => nomatch e) ?_
        walk_at "is"
        walk_at "is"
        refine isi_in (b := true) (in_sK (B := All) (.str z)) ?_
        walk_at "sx"
        refine isi_in (b := true) (in_sK (B := All) (.str z)) ?_
        walk_at "sx"
        refine r_eq rfl ?_
        rw [decide_eq_true rfl]
        exact k'
  | succ d ih =>
    refine T.F__law_same.okHH sc__law_same (fun vs H Q E h => ?_) (fun cdv A' outer s H vs Q E p0 hot hr h => ?_)
    · obtain ⟨x, y, rfl, _⟩ := h
      rfl
    · obtain ⟨x, y, rfl, al, k⟩ := h
      have GH__law_same := ih
      have hc := hotX (CX := CX0) (P := P) (w := w) (K := K) (mg := mg) (base := base) (N := ["actual", "due", "k"]) (qual := "_law_same") (scope := defScope s__law_same) (f := A.a__law_same) (cd := cdv) (outer := outer) (s := s) (H := H) (E := E) hot
      refine ⟨_, (pss_cons (ps_if (pt_cmpR op_isN (pv 1) pe_non (nomark _)) (pss_one (ps_ret (pe_cmpR op_isN (pv 0) pe_non (nomark _)))) pss_nil)
  (pss_cons (ps_if (pt_val (pe_callB (id := "isinstance") (r := rIsiV K) call_isiV (by rfl) T.n_isinstance (by decide +kernel) (pa_cons (pv 1) (pa_cons (pe_bltn (v := .ty "bool") (u := .type "bool") (by rfl) T.n_bool (by decide +kernel) rfl) pa_nil)))) (pss_one (ps_ret (pe_and (pe_callB (id := "isinstance") (r := rIsiV K) call_isiV (by rfl) T.n_isinstance (by decide +kernel) (pa_cons (pv 0) (pa_cons (pe_bltn (v := .ty "bool") (u := .type "bool") (by rfl) T.n_bool (by decide +kernel) rfl) pa_nil))) (pe_one (pe_cmpR op_eq (pv 0) (pv 1) (nomark _)))))) pss_nil)
  (pss_cons (ps_if (pt_val (pe_callB (id := "isinstance") (r := rIsiV K) call_isiV (by rfl) T.n_isinstance (by decide +kernel) (pa_cons (pv 1) (pa_cons (pe_bltn (v := .ty "int") (u := .type "int") (by rfl) T.n_int (by decide +kernel) rfl) pa_nil)))) (pss_one (ps_ret (pe_and (pe_callB (id := "isinstance") (r := rIsiV K) call_isiV (by rfl) T.n_isinstance (by decide +kernel) (pa_cons (pv 0) (pa_cons (pe_bltn (v := .ty "int") (u := .type "int") (by rfl) T.n_int (by decide +kernel) rfl) pa_nil))) (pe_and (pe_not (pe_callB (id := "isinstance") (r := rIsiV K) call_isiV (by rfl) T.n_isinstance (by decide +kernel) (pa_cons (pv 0) (pa_cons (pe_bltn (v := .ty "bool") (u := .type "bool") (by rfl) T.n_bool (by decide +kernel) rfl) pa_nil)))) (pe_one (pe_cmpR op_eq (pv 0) (pv 1) (nomark _))))))) pss_nil)
  (pss_cons (ps_if (pt_val (pe_callB (id := "isinstance") (r := rIsiV K) call_isiV (by rfl) T.n_isinstance (by decide +kernel) (pa_cons (pv 1) (pa_cons (pe_bltn (v := .ty "str") (u := .type "str") (by rfl) T.n_str (by decide +kernel) rfl) pa_nil)))) (pss_one (ps_ret (pe_and (pe_callB (id := "isinstance") (r := rIsiV K) call_isiV (by rfl) T.n_isinstance (by decide +kernel) (pa_cons (pv 0) (pa_cons (pe_bltn (v := .ty "str") (u := .type "str") (by rfl) T.n_str (by decide +kernel) rfl) pa_nil))) (pe_one (pe_cmpR op_eq (pv 0) (pv 1) (nomark _)))))) pss_nil)
  (pss_cons (ps_if (PW.pt (pw_and (pt_val (pe_callB (id := "isinstance") (r := rIsiV K) call_isiV (by rfl) T.n_isinstance (by decide +kernel) (pa_cons (pv 1) (pa_cons (pe_bltn (v := .ty "tuple") (u := .type "tuple") (by rfl) T.n_tuple (by decide +kernel) rfl) pa_nil)))) (pw_and1 (pt_not (pt_val (pe_callB (id := "isinstance") (r := rIsiV K) call_isiV (by rfl) T.n_isinstance (by decide +kernel) (pa_cons (pv 0) (pa_cons (pe_bltn (v := .ty "tuple") (u := .type "tuple") (by rfl) T.n_tuple (by decide +kernel) rfl) pa_nil)))))))) (pss_one (ps_ret pe_bl)) pss_nil)
  (pss_cons (ps_if (PW.pt (pw_and (pt_val (pe_callB (id := "isinstance") (r := rIsiV K) call_isiV (by rfl) T.n_isinstance (by decide +kernel) (pa_cons (pv 1) (pa_cons (pe_bltn (v := .ty "list") (u := .type "list") (by rfl) T.n_list (by decide +kernel) rfl) pa_nil)))) (pw_and1 (pt_not (pt_val (pe_callB (id := "isinstance") (r := rIsiV K) call_isiV (by rfl) T.n_isinstance (by decide +kernel) (pa_cons (pv 0) (pa_cons (pe_bltn (v := .ty "list") (u := .type "list") (by rfl) T.n_list (by decide +kernel) rfl) pa_nil)))))))) (pss_one (ps_ret pe_bl)) pss_nil)
  (pss_cons (ps_if (pt_cmpR op_ne (pe_callB call_len (by rfl) T.n_len (by decide +kernel) (pa_cons (pv 0) pa_nil)) (pe_callB call_len (by rfl) T.n_len (by decide +kernel) (pa_cons (pv 1) pa_nil)) (nomark _)) (pss_one (ps_ret pe_bl)) pss_nil)
  (pss_cons (L2H.ps_forH (passes_of rfl) hc (L2H.pi_range1H rfl T.n_range (pa_cons (pe_callB call_len (by rfl) T.n_len (by decide +kernel) (pa_cons (pv 1) pa_nil)) pa_nil)) (pg_name (i := 2) sc__law_same.nd rfl (Or.inl rfl))
  (pss_one (ps_if (pt_not (pt_val (L2H.pe_callH GH__law_same hr hc rfl T.g__law_same T.F__law_same.kp (B__law_same T) (fun _ => passH (E := E0)) (pa_cons (pe_ix ix_seq (pv 0) (pv 2) (fun _ _ => rfl)) (pa_cons (pe_ix ix_seq (pv 1) (pv 2) (fun _ _ => rfl)) pa_nil))))) (pss_one (ps_ret pe_bl)) pss_nil)))
  (pss_one (ps_ret pe_bl)))))))))), ?_⟩
      walk_at "sx"
      refine ⟨rfl, ?_⟩
      walk_at "sx"
      have k' := k H (L2.Same.refl H)
      cases al with
      | non =>
        refine i_T rfl ?_
        walk_at "sx"
        refine ⟨rfl, ?_⟩
        exact k'
      | bl b =>
        refine i_F (fun e => nomatch e) ?_
        walk_at "sx"
        refine isi_in (b := true) (in_bK (B := All) (.bl b)) ?_
        walk_at "sx"
        refine isi_in (b := true) (in_bK (B := All) (.bl b)) ?_
        walk_at "sx"
        refine r_eq rfl ?_
        rw [decide_eq_true rfl]
        exact k'
      | int i =>
        refine i_F (fun e => nomatch e) ?_
        walk_at "is"
        refine isi_in (b := true) (in_iK (B := All) (.int i)) ?_
        walk_at "sx"
        refine isi_in (b := true) (in_iK (B := All) (.int i)) ?_
        walk_at "sx"
        refine isi_in (b := false) (in_bK (B := All) (.int i)) ?_
        walk_at "sx"
        rw [decide_eq_true rfl]
        exact k'
      | str z =>
        refine i_F (fun e => nomatch e) ?_
        walk_at "is"
        walk_at "is"
        refine isi_in (b := true) (in_sK (B := All) (.str z)) ?_
        walk_at "sx"
        refine isi_in (b := true) (in_sK (B := All) (.str z)) ?_
        walk_at "sx"
        refine r_eq rfl ?_
        rw [decide_eq_true rfl]
        exact k'
      | tup hp hq l sz a =>
        rename_i p q xs ys
        refine i_F (fun e => nomatch e) ?_
        walk_at "is"
        walk_at "is"
        walk_at "is"
        refine isi_in (b := true) (in_tup hq) ?_
        walk_at "sx"
        refine isi_in (b := true) (in_tup hp) ?_
        walk_at "sx"
        refine isi_in (b := false) (in_tup_l hq) ?_
        walk_at "sx"
        refine ⟨_, _, rfl, .inr ⟨_, SqT.of hp, rfl⟩, ?_⟩
        walk_at "sx"
        refine ⟨_, _, rfl, .inr ⟨_, SqT.of hq, rfl⟩, ?_⟩
        walk_at "sx"
        rw [l, decide_eq_true rfl]
        walk_at "sx"
        refine ⟨_, rfl, _, _, rfl, .inr ⟨_, SqT.of hq, rfl⟩, _, rfl, by omega, by omega, for_range (lo := 0) (n := ys.length) (fun i σ H' => Same H H' ∧ ∃ v, σ = [some (.ref p), some (.ref q), v]) ⟨L2.Same.refl H, none, rfl⟩ ?_ ?_⟩
        · rintro i σ H' hi ⟨s', v, rfl⟩
          have hx := List.getElem?_eq_getElem (show i < xs.length by omega)
          have hy := List.getElem?_eq_getElem hi
          walk_at "sx"
          refine r_ixT (s' _ _ hp) (atI_nat (by rw [Nat.zero_add]; exact hx)) ?_
          walk_at "sx"
          refine r_ixT (s' _ _ hq) (atI_nat (by rw [Nat.zero_add]; exact hy)) ?_
          walk_at "sx"
          refine ⟨_, _, rfl, (a i _ _ hx hy).same s', fun H2 s2 => ?_⟩
          walk_at "sx"
          exact ⟨s'.trans s2, _, rfl⟩
        · rintro σ H' ⟨s', v, rfl⟩
          walk_at "sx"
          exact k H' s'
      | lst hp hq l sz a =>
        rename_i p q xs ys
        refine i_F (fun e => nomatch e) ?_
        walk_at "is"
        walk_at "is"
        walk_at "is"
        refine isi_in (b := false) (in_lst_t hq) ?_
        walk_at "sx"
        refine isi_in (b := true) (in_lst hq) ?_
        walk_at "sx"
        refine isi_in (b := true) (in_lst hp) ?_
        walk_at "sx"
        refine ⟨_, _, rfl, .inl ⟨_, SqL.of hp, rfl⟩, ?_⟩
        walk_at "sx"
        refine ⟨_, _, rfl, .inl ⟨_, SqL.of hq, rfl⟩, ?_⟩
        walk_at "sx"
        rw [l, decide_eq_true rfl]
        walk_at "sx"
        refine ⟨_, rfl, _, _, rfl, .inl ⟨_, SqL.of hq, rfl⟩, _, rfl, by omega, by omega, for_range (lo := 0) (n := ys.length) (fun i σ H' => Same H H' ∧ ∃ v, σ = [some (.ref p), some (.ref q), v]) ⟨L2.Same.refl H, none, rfl⟩ ?_ ?_⟩
        · rintro i σ H' hi ⟨s', v, rfl⟩
          have hx := List.getElem?_eq_getElem (show i < xs.length by omega)
          have hy := List.getElem?_eq_getElem hi
          walk_at "sx"
          refine r_ixL (s' _ _ hp) (atI_nat (by rw [Nat.zero_add]; exact hx)) ?_
          walk_at "sx"
          refine r_ixL (s' _ _ hq) (atI_nat (by rw [Nat.zero_add]; exact hy)) ?_
          walk_at "sx"
          refine ⟨_, _, rfl, (a i _ _ hx hy).same s', fun H2 s2 => ?_⟩
          walk_at "sx"
          exact ⟨s'.trans s2, _, rfl⟩
        · rintro σ H' ⟨s', v, rfl⟩
          walk_at "sx"
          exact k H' s'
end
end K07

set_option Elab.async false
set_option linter.all false
set_option maxRecDepth 100000
set_option maxHeartbeats 4000000
namespace K07
open PySem L2 Sx
local macro_rules | `(tactic| walk_at "cond") => `(tactic| first
  | assumption
  | decide
  | exact c_mul_r (by first | decide | omega) (by first | decide | omega)
  | exact c_mul_l (by first | decide | omega) (by first | decide | omega)
  | exact c_div (by first | decide | omega) (by first | decide | omega)
  | exact c_pow (by first | decide | omega) (by first | decide | omega) (by first | decide | omega)
  | omega)
local macro_rules | `(tactic| walk_at "ne") => `(tactic| first
  | assumption
  | (refine Ne.symm ?_; assumption)
  | (refine' Flow.ne ?nh ?nn; (case nn => assumption); (case nh => walk_at "fl"))
  | (refine Ne.symm ?_; refine' Flow.ne ?nh ?nn; (case nn => assumption); (case nh => walk_at "fl"))
  | (refine' ne_of_none ?nh ?nn; (case nn => assumption); (case nh => walk_at "at"))
  | (refine Ne.symm ?_; refine' ne_of_none ?nh ?nn; (case nn => assumption); (case nh => walk_at "at")))
local macro_rules | `(tactic| walk_at "at") => `(tactic| first
  | assumption
  | (refine Same.up (by assumption) ?_; walk_at "at")
  | (refine Keep.up (by assumption) (by walk_at "ne") ?_; walk_at "at"))
local macro_rules | `(tactic| walk_at "fl") => `(tactic| first
  | assumption
  | (refine Flow.same (by assumption) ?_; walk_at "fl")
  | (refine Flow.keep (by assumption) (by walk_at "ne") ?_; walk_at "fl"))
local macro_rules | `(tactic| walk_at "fr") => `(tactic| first
  | assumption
  | (refine same_free (by assumption) ?_; walk_at "fr")
  | (refine Keep.free (by assumption) (by walk_at "ne") ?_; walk_at "fr"))
local macro_rules | `(tactic| walk_at "kp") => `(tactic| first
  | assumption
  | exact Keep.refl _ _
  | (refine Keep.trans ?_ (by assumption); walk_at "kp")
  | (refine Keep.trans ?_ (Keep.same (by assumption)); walk_at "kp"))
local macro_rules | `(tactic| walk_at "sm") => `(tactic| first
  | assumption
  | exact L2.Same.refl _
  | (refine L2.Same.trans ?_ (by assumption); walk_at "sm"))
local macro_rules | `(tactic| walk_at "sz") => `(tactic| first | exact Nat.le_of_ble_eq_true rfl | omega)
local macro_rules | `(tactic| walk_at "new") => `(tactic| (intro p np; generalize hE : upd _ p _ = H2; have s2 := new_same np hE; have h2 := new_at hE; clear hE))
local macro_rules | `(tactic| walk_at "newx") => `(tactic| (intro e d na nd hda; generalize hE : upd (upd _ d _) e _ = H2; have s2 := newx_same na nd hE; have h2 := newx_at hE; have h3 := newx_d hda hE; clear hE))
local macro_rules | `(tactic| walk_at "s1") => `(tactic| first
  | with_reducible refine s_seq ?_
  | with_reducible refine s_asg ?_
  | with_reducible refine s_name ?_
  | with_reducible refine s_ret ?_
  | with_reducible refine s_c ?_
  | ((with_reducible refine' s_var ?hv ?_); (case hv => rfl))
  | with_reducible refine s_op ?_
  | with_reducible refine s_un ?_
  | with_reducible refine s_ifS ?_
  | with_reducible refine s_cb ?_
  | with_reducible refine s_cons ?_
  | with_reducible refine s_nil ?_
  | with_reducible refine s_call ?_
  | with_reducible refine s_test ?_
  | with_reducible refine s_tB ?_
  | with_reducible refine s_bl ?_
  | with_reducible refine s_and ?_
  | with_reducible refine s_or ?_
  | with_reducible refine s_not ?_
  | with_reducible refine s_andV ?_
  | with_reducible refine s_orV ?_
  | with_reducible refine s_notV ?_
  | with_reducible refine s_blV ?_
  | with_reducible refine s_if ?_
  | with_reducible refine s_tup ?_
  | with_reducible refine s_lst ?_
  | with_reducible refine s_drop ?_
  | with_reducible refine s_next ?_
  | with_reducible refine s_sub ?_
  | with_reducible refine s_bm ?_
  | with_reducible refine s_callK ?_
  | with_reducible refine s_brk ?_
  | with_reducible refine s_cont ?_
  | with_reducible refine r_I0 ?_
  | with_reducible refine r_U ?_
  | with_reducible refine r_eqI ?_
  | with_reducible refine r_neI ?_
  | with_reducible refine r_isB ?_
  | with_reducible refine r_notB ?_
  | with_reducible refine i_t ?_
  | with_reducible refine i_f ?_
  | with_reducible refine i_nt ?_
  | with_reducible refine i_nf ?_
  | ((with_reducible refine' r_I ?hc ?_); (case hc => walk_at "cond"))
  | (with_reducible refine .inl ⟨_, rfl, ?_⟩)
  | (with_reducible refine ⟨_, rfl, ?_⟩)
  | ((with_reducible refine' r_ixL ?hx ?ha ?_); (case hx => walk_at "at"); (case ha => rfl))
  | ((with_reducible refine' r_ixT ?hx ?ha ?_); (case hx => walk_at "at"); (case ha => rfl))
  | ((with_reducible refine' r_setL ?hx ?ha ?_); (case hx => walk_at "at"); (case ha => rfl); intro H2 k2 h2; (try dsimp only [List.set, Int.toNat] at h2))
  | ((with_reducible refine' r_app ?hx ?hl ?_); (case hx => walk_at "at"); (case hl => first | exact Nat.lt_of_ble_eq_true rfl | omega); intro H2 k2 h2)
  | ((with_reducible refine' ty_list ?hx ?_); (case hx => walk_at "at"))
  | (refine And.intro (by (with_reducible show _ ≤ sizeLine); walk_at "sz") ?_; walk_at "new")
  | with_reducible refine s_exv ?_
  | walk_at "newx")
local macro_rules | `(tactic| walk_at "sx") => `(tactic| repeat (walk_at "s1"))
local macro_rules | `(tactic| walk_at "s2") => `(tactic| first
  | ((with_reducible refine' r_ixG ?hx ?hn ?_); (case hx => walk_at "at"); (case hn => omega))
  | ((with_reducible refine' r_ixGT ?hx ?hn ?_); (case hx => walk_at "at"); (case hn => omega))
  | (with_reducible refine ig_cons (fun hix => ?_) (fun hix => ?_))
  | ((with_reducible refine ig_nil ?_); omega)
  | ((with_reducible refine' i_T ?hc ?_); (case hc => omega))
  | ((with_reducible refine' i_F ?hc ?_); (case hc => omega))
  | (with_reducible refine i_2 (fun hc => ?_) (fun hc => ?_))
  | (with_reducible refine i_n2 (fun hc => ?_) (fun hc => ?_)))
local macro_rules | `(tactic| walk_at "go") => `(tactic| repeat' (first | walk_at "s1" | walk_at "s2"))

local macro_rules | `(tactic| walk_at "s1") => `(tactic| first
  | with_reducible refine s_chain ?_
  | with_reducible refine s_fldS ?_
  | with_reducible refine s_fld ?_
  | with_reducible refine s_dIn ?_
  | with_reducible refine s_dNotIn ?_
  | with_reducible refine s_sl ?_
  | with_reducible refine s_noPart ?_
  | with_reducible refine s_part ?_
  | with_reducible refine s_meth ?_
  | with_reducible refine s_make ?_)

section
variable {P : Program} {w : World} {K : PySem.W.Frag} {mg : Str → Option Value} {base : Heap} {A : Ad}
theorem uH {k : Nat} {A : Around} (r : L2H.RoomH k A) : A.units + 64 < cLine := by
  have := r.un
  omega
/-- rows as data -/
def dRow (r : List Int) : PyData := .tuple (r.map PyData.int)
def dRows (ks : List (Addr × List Int)) : PyData := .tuple (ks.map fun p => dRow p.2)
theorem dp_ints {H : Hp} : ∀ r : List Int, DpAll K H (r.map V.int) (r.map PyData.int)
  | [] => .nil
  | i :: r => .cons (.int i) (dp_ints r)
theorem dp_all {H : Hp} {n : Nat} : ∀ ks : List (Addr × List Int), RowsAt H n ks → DpAll K H (ks.map rf) (ks.map fun p => dRow p.2)
  | [], _ => .nil
  | p :: ks, h => .cons (.tup (SqT.of (h p List.mem_cons_self).1) (dp_ints p.2)) (dp_all ks fun q hq => h q (List.mem_cons_of_mem _ hq))
theorem dp_rows {H : Hp} {n : Nat} {t : Addr} {ks : List (Addr × List Int)} (ht : H t = some (.tup (ks.map rf))) (h : RowsAt H n ks) : Dp K H (.ref t) (dRows ks) := .tup (SqT.of ht) (dp_all ks h)
theorem can_ints : ∀ r : List Int, PyData.canLayAll0 (r.map PyData.int) = true
  | [] => by rw [List.map_nil, PyData.canLayAll0]
  | i :: r => by rw [List.map_cons, PyData.canLayAll0, PyData.canLay0, can_ints r] <;> rfl
theorem can_rows : ∀ ks : List (Addr × List Int), PyData.canLayAll0 (ks.map fun p => dRow p.2) = true
  | [] => by rw [List.map_nil, PyData.canLayAll0]
  | p :: ks => by
    rw [List.map_cons, PyData.canLayAll0, can_rows ks, dRow, PyData.canLay0, can_ints p.2]
    rfl
theorem dep_ints : ∀ r : List Int, PyData.depthAll (r.map PyData.int) = 0
  | [] => by rw [List.map_nil, PyData.depthAll]
  | i :: r => by
    rw [List.map_cons, PyData.depthAll, PyData.depth, dep_ints r]
    rfl
theorem dep_rows : ∀ ks : List (Addr × List Int), PyData.depthAll (ks.map fun p => dRow p.2) ≤ 1
  | [] => by
    rw [List.map_nil, PyData.depthAll]
    omega
  | p :: ks => by
    rw [List.map_cons, PyData.depthAll, dRow, PyData.depth, dep_ints p.2]
    have := dep_rows ks
    omega
theorem sh_rows (ks : List (Addr × List Int)) : PySem.SeqAt.shaped (dRows ks) = true := by
  unfold PySem.SeqAt.shaped dRows
  rw [PyData.canLay0, can_rows ks, PyData.depth]
  have := dep_rows ks
  rw [decide_eq_true (by omega)]
  rfl
/-- a list of rules compared with itself, where an error is handled -/
def spEq1 (C : Addr) : Sp := fun vs H Q _ => ∃ (x : Addr) (n : Nat) (ks : List (Addr × List Int)), vs = [.ref x, .ref x] ∧ RuAt C H x n ks ∧ ∀ H', Same H H' → Q (.bl true) H'
theorem ok_eqH (T : Txt P K mg A) : L2H.FnH P w K mg base CX0 1 A.a_Rules____eq__ A.d_Rules____eq__ ["self", "other"] (spEq1 A.c_Rules) := by
  refine T.F_Rules____eq__.okH sc_Rules____eq__ (fun vs H Q E h => ?_) (fun cdv A' outer s H vs Q E p hr h => ?_)
  · obtain ⟨x, n, ks, rfl, _⟩ := h
    rfl
  · obtain ⟨x, n, ks, rfl, ⟨dx, t, kn, h1, h2, h3, rows, asc, ne, sz⟩, k⟩ := h
    refine ⟨_, (pss_one (ps_ret (pe_and (pe_callB (id := "isinstance") (r := rIsiV K) call_isiV (by rfl) T.n_isinstance (by decide +kernel) (pa_cons (pv 1) (pa_cons (pe_glob (v := .ref A.c_Rules) rfl T.g_Rules rfl) pa_nil))) (pe_and (pe_cmpR op_eq (pe_fld (pv 0) rfl) (pe_fld (pv 1) rfl) (nomark _)) (pe_one (pe_cmpR (op_eqD (uH hr)) (pe_fld (pv 0) rfl) (pe_fld (pv 1) rfl) (nomark _))))))), ?_⟩
    walk_at "sx"
    refine T.o_Rules.own h1 ?_
    walk_at "sx"
    refine r_get rfl h1 T.cl_Rules T.no_Rules_size rfl ?_
    walk_at "sx"
    refine r_get rfl h1 T.cl_Rules T.no_Rules_size rfl ?_
    walk_at "sx"
    rw [decide_eq_true rfl]
    walk_at "sx"
    refine r_get rfl h1 T.cl_Rules T.no_Rules_rows rfl ?_
    walk_at "sx"
    refine r_get rfl h1 T.cl_Rules T.no_Rules_rows rfl ?_
    refine ⟨dRows ks, dRows ks, dp_rows h2 rows, dp_rows h2 rows, sh_rows ks, sh_rows ks, ?_⟩
    rw [PySem.SeqAt.eqv_refl _ (PySem.SeqAt.canLay_of_shaped (sh_rows ks))]
    exact k H (L2.Same.refl H)
end
end K07

set_option Elab.async false
set_option linter.all false
set_option maxRecDepth 100000
set_option maxHeartbeats 4000000
namespace K07
open PySem L2 Sx
local macro_rules | `(tactic| walk_at "cond") => `(tactic| first
  | assumption
  | decide
  | exact c_mul_r (by first | decide | omega) (by first | decide | omega)
  | exact c_mul_l (by first | decide | omega) (by first | decide | omega)
  | exact c_div (by first | decide | omega) (by first | decide | omega)
  | exact c_pow (by first | decide | omega) (by first | decide | omega) (by first | decide | omega)
  | omega)
local macro_rules | `(tactic| walk_at "ne") => `(tactic| first
  | assumption
  | (refine Ne.symm ?_; assumption)
  | (refine' Flow.ne ?nh ?nn; (case nn => assumption); (case nh => walk_at "fl"))
  | (refine Ne.symm ?_; refine' Flow.ne ?nh ?nn; (case nn => assumption); (case nh => walk_at "fl"))
  | (refine' ne_of_none ?nh ?nn; (case nn => assumption); (case nh => walk_at "at"))
  | (refine Ne.symm ?_; refine' ne_of_none ?nh ?nn; (case nn => assumption); (case nh => walk_at "at")))
local macro_rules | `(tactic| walk_at "at") => `(tactic| first
  | assumption
  | (refine Same.up (by assumption) ?_; walk_at "at")
  | (refine Keep.up (by assumption) (by walk_at "ne") ?_; walk_at "at"))
local macro_rules | `(tactic| walk_at "fl") => `(tactic| first
  | assumption
  | (refine Flow.same (by assumption) ?_; walk_at "fl")
  | (refine Flow.keep (by assumption) (by walk_at "ne") ?_; walk_at "fl"))
local macro_rules | `(tactic| walk_at "fr") => `(tactic| first
  | assumption
  | (refine same_free (by assumption) ?_; walk_at "fr")
  | (refine Keep.free (by assumption) (by walk_at "ne") ?_; walk_at "fr"))
local macro_rules | `(tactic| walk_at "kp") => `(tactic| first
  | assumption
  | exact Keep.refl _ _
  | (refine Keep.trans ?_ (by assumption); walk_at "kp")
  | (refine Keep.trans ?_ (Keep.same (by assumption)); walk_at "kp"))
local macro_rules | `(tactic| walk_at "sm") => `(tactic| first
  | assumption
  | exact L2.Same.refl _
  | (refine L2.Same.trans ?_ (by assumption); walk_at "sm"))
local macro_rules | `(tactic| walk_at "sz") => `(tactic| first | exact Nat.le_of_ble_eq_true rfl | omega)
local macro_rules | `(tactic| walk_at "new") => `(tactic| (intro p np; generalize hE : upd _ p _ = H2; have s2 := new_same np hE; have h2 := new_at hE; clear hE))
local macro_rules | `(tactic| walk_at "newx") => `(tactic| (intro e d na nd hda; generalize hE : upd (upd _ d _) e _ = H2; have s2 := newx_same na nd hE; have h2 := newx_at hE; have h3 := newx_d hda hE; clear hE))
local macro_rules | `(tactic| walk_at "s1") => `(tactic| first
  | with_reducible refine s_seq ?_
  | with_reducible refine s_asg ?_
  | with_reducible refine s_name ?_
  | with_reducible refine s_ret ?_
  | with_reducible refine s_c ?_
  | ((with_reducible refine' s_var ?hv ?_); (case hv => rfl))
  | with_reducible refine s_op ?_
  | with_reducible refine s_un ?_
  | with_reducible refine s_ifS ?_
  | with_reducible refine s_cb ?_
  | with_reducible refine s_cons ?_
  | with_reducible refine s_nil ?_
  | with_reducible refine s_call ?_
  | with_reducible refine s_test ?_
  | with_reducible refine s_tB ?_
  | with_reducible refine s_bl ?_
  | with_reducible refine s_and ?_
  | with_reducible refine s_or ?_
  | with_reducible refine s_not ?_
  | with_reducible refine s_andV ?_
  | with_reducible refine s_orV ?_
  | with_reducible refine s_notV ?_
  | with_reducible refine s_blV ?_
  | with_reducible refine s_if ?_
  | with_reducible refine s_tup ?_
  | with_reducible refine s_lst ?_
  | with_reducible refine s_drop ?_
  | with_reducible refine s_next ?_
  | with_reducible refine s_sub ?_
  | with_reducible refine s_bm ?_
  | with_reducible refine s_callK ?_
  | with_reducible refine s_brk ?_
  | with_reducible refine s_cont ?_
  | with_reducible refine r_I0 ?_
  | with_reducible refine r_U ?_
  | with_reducible refine r_eqI ?_
  | with_reducible refine r_neI ?_
  | with_reducible refine r_isB ?_
  | with_reducible refine r_notB ?_
  | with_reducible refine i_t ?_
  | with_reducible refine i_f ?_
  | with_reducible refine i_nt ?_
  | with_reducible refine i_nf ?_
  | ((with_reducible refine' r_I ?hc ?_); (case hc => walk_at "cond"))
  | (with_reducible refine .inl ⟨_, rfl, ?_⟩)
  | (with_reducible refine ⟨_, rfl, ?_⟩)
  | ((with_reducible refine' r_ixL ?hx ?ha ?_); (case hx => walk_at "at"); (case ha => rfl))
  | ((with_reducible refine' r_ixT ?hx ?ha ?_); (case hx => walk_at "at"); (case ha => rfl))
  | ((with_reducible refine' r_setL ?hx ?ha ?_); (case hx => walk_at "at"); (case ha => rfl); intro H2 k2 h2; (try dsimp only [List.set, Int.toNat] at h2))
  | ((with_reducible refine' r_app ?hx ?hl ?_); (case hx => walk_at "at"); (case hl => first | exact Nat.lt_of_ble_eq_true rfl | omega); intro H2 k2 h2)
  | ((with_reducible refine' ty_list ?hx ?_); (case hx => walk_at "at"))
  | (refine And.intro (by (with_reducible show _ ≤ sizeLine); walk_at "sz") ?_; walk_at "new")
  | with_reducible refine s_exv ?_
  | walk_at "newx")
local macro_rules | `(tactic| walk_at "sx") => `(tactic| repeat (walk_at "s1"))
local macro_rules | `(tactic| walk_at "s2") => `(tactic| first
  | ((with_reducible refine' r_ixG ?hx ?hn ?_); (case hx => walk_at "at"); (case hn => omega))
  | ((with_reducible refine' r_ixGT ?hx ?hn ?_); (case hx => walk_at "at"); (case hn => omega))
  | (with_reducible refine ig_cons (fun hix => ?_) (fun hix => ?_))
  | ((with_reducible refine ig_nil ?_); omega)
  | ((with_reducible refine' i_T ?hc ?_); (case hc => omega))
  | ((with_reducible refine' i_F ?hc ?_); (case hc => omega))
  | (with_reducible refine i_2 (fun hc => ?_) (fun hc => ?_))
  | (with_reducible refine i_n2 (fun hc => ?_) (fun hc => ?_)))
local macro_rules | `(tactic| walk_at "go") => `(tactic| repeat' (first | walk_at "s1" | walk_at "s2"))

local macro_rules | `(tactic| walk_at "s1") => `(tactic| first
  | with_reducible refine s_chain ?_
  | with_reducible refine s_fldS ?_
  | with_reducible refine s_fld ?_
  | with_reducible refine s_dIn ?_
  | with_reducible refine s_dNotIn ?_
  | with_reducible refine s_sl ?_
  | with_reducible refine s_noPart ?_
  | with_reducible refine s_part ?_
  | with_reducible refine s_meth ?_
  | with_reducible refine s_make ?_)

section
variable {P : Program} {w : World} {K : PySem.W.Frag} {mg : Str → Option Value} {base : Heap} {A : Ad}
/-- is_point -/
abbrev isPt (n : Int) : V → Bool := num? fun i => decide (0 ≤ i) && decide (i < n)
def spT2 (K : PySem.W.Frag) (f : Int → V → Bool) : Sp := fun vs H Q _ => ∃ v n, vs = [v, .int n] ∧ NI K H v ∧ Q (.bl (f n v)) H
theorem c_t2 {H : Hp} {Q : VK} {E : XK} {f : Int → V → Bool} {v : V} {n : Int} (h : NI K H v) (q : Q (.bl (f n v)) H) : spT2 K f ([v, .int n] ++ []) H Q E := ⟨v, n, rfl, h, q⟩
theorem ok_isp (T : Txt P K mg A) : FnOk P w K mg base CX0 3 A.a_is_point A.d_is_point ["value", "size"] (spT2 K isPt) := by
  refine T.F_is_point.ok sc_is_point (fun vs H Q E h => ?_) (fun cdv A' outer s H vs Q E hr h => ?_)
  · obtain ⟨v, m, rfl, _⟩ := h
    rfl
  · obtain ⟨v, m, rfl, n, k⟩ := h
    have G_is_number := ok_isn (w := w) (base := base) T
    refine ⟨_, (pss_one (ps_ret (pe_and (pe_call G_is_number (hr.mono (by decide)) rfl T.g_is_number T.F_is_number.kp (B_is_number T) .nil pass0 (pa_cons (pv 0) pa_nil)) (pe_one (pe_cmpR op_lt (pv 0) (pv 1) (nomark _)))))), ?_⟩
    walk_at "sx"
    refine c_t1 n ?_
    rcases i_cases v with ⟨i, rfl⟩ | h
    · have e : isPt m (.int i) = (decide (0 ≤ i) && decide (i < m)) := rfl
      rw [e] at k
      have e2 : isN (.int i) = decide (0 ≤ i) := rfl
      rw [e2]
      refine ⟨_, rfl, ?_⟩
      refine i_2 (fun hc => ?_) (fun hc => ?_)
      · rw [decide_eq_true hc] at k
        walk_at "sx"
        exact k
      · rw [decide_eq_false hc] at k
        exact k
    · have e : isPt m v = false := num_no h
      have e2 : isN v = false := num_no h
      rw [e] at k
      rw [e2]
      walk_at "sx"
      exact k
/-- a value that is asked whether it is a lot or a part -/
def GV (K : PySem.W.Frag) (H : Hp) (v : V) : Prop := (IsIn K H v "tuple" false ∧ isT H v = false) ∨ ∃ p xs, v = .ref p ∧ H p = some (.tup xs) ∧ (∀ x ∈ xs, NI K H x) ∧ xs.length < 1000
def Lot (H : Hp) (n : Nat) (v : V) (js : List Nat) : Prop := ∃ p, v = .ref p ∧ H p = some (.tup (js.map nv)) ∧ js.Pairwise (· < ·) ∧ ∀ j ∈ js, j < n
theorem Lot.same {H H' : Hp} (e : Same H H') {n : Nat} {v : V} {js : List Nat} (h : Lot H n v js) : Lot H' n v js := by
  obtain ⟨p, h1, h2, h3⟩ := h
  exact ⟨p, h1, e _ _ h2, h3⟩
theorem pts_of (n : Nat) : ∀ xs : List V, xs.all (isPt n) = true → ∃ js : List Nat, xs = js.map nv ∧ ∀ j ∈ js, j < n
  | [], _ => ⟨[], rfl, fun _ h => nomatch h⟩
  | x :: xs, h => by
    rw [List.all_cons, Bool.and_eq_true] at h
    obtain ⟨js, rfl, hj⟩ := pts_of n xs h.2
    cases x with
    | int i =>
      have h1 : (decide (0 ≤ i) && decide (i < (n : Int))) = true := h.1
      rw [Bool.and_eq_true, decide_eq_true_eq, decide_eq_true_eq] at h1
      refine ⟨i.toNat :: js, ?_, fun z hz => ?_⟩
      · rw [List.map_cons]
        have e : nv i.toNat = V.int i := by
          show V.int ((i.toNat : Nat) : Int) = _
          rw [Int.toNat_of_nonneg h1.1]
        rw [e]
      · rcases List.mem_cons.mp hz with rfl | hz
        · omega
        · exact hj z hz
    | _ => cases h.1
theorem pts_all {n : Nat} {js : List Nat} (h : ∀ j ∈ js, j < n) : (js.map nv).all (isPt n) = true := by
  rw [List.all_eq_true]
  intro x hx
  obtain ⟨j, hj, rfl⟩ := List.mem_map.mp hx
  have l := h j hj
  show (decide (0 ≤ (j : Int)) && decide ((j : Int) < (n : Int))) = true
  rw [decide_eq_true (by omega), decide_eq_true (by omega)]
  rfl
theorem up_pw {js : List Nat} (h : ∀ d, d + 1 < js.length → js.getD d 0 < js.getD (d + 1) 0) : js.Pairwise (· < ·) := by
  rw [List.pairwise_iff_getElem]
  intro i j hi hj lt
  have e : ∀ k (hk : k < js.length), js[k] = js.getD k 0 := fun k hk => by simp [hk]
  rw [e i hi, e j hj]
  have z : ∀ d, i + 1 + d < js.length → js.getD i 0 < js.getD (i + 1 + d) 0 := by
    intro d
    induction d with
    | zero => exact fun l => h i l
    | succ d ih => exact fun l => Nat.lt_trans (ih (by omega)) (h (i + 1 + d) l)
  have t := z (j - (i + 1)) (by omega)
  rw [show i + 1 + (j - (i + 1)) = j by omega] at t
  exact t
theorem pw_up {js : List Nat} (h : js.Pairwise (· < ·)) {d : Nat} (l : d + 1 < js.length) : js.getD d 0 < js.getD (d + 1) 0 := by
  have e : ∀ k (hk : k < js.length), js.getD k 0 = js[k] := fun k hk => by simp [hk]
  rw [e d (by omega), e (d + 1) l]
  exact (List.pairwise_iff_getElem.mp h) d (d + 1) (by omega) l (by omega)
def rises (js : List Nat) (k : Nat) : List Bool := (List.range k).map fun d => decide (js.getD d 0 < js.getD (d + 1) 0)
theorem rises_succ (js : List Nat) (k : Nat) : rises js (k + 1) = rises js k ++ [decide (js.getD k 0 < js.getD (k + 1) 0)] := by
  unfold rises
  rw [List.range_succ, List.map_append]
  rfl
theorem rises_all {js : List Nat} : (rises js (js.length - 1)).all id = true ↔ js.Pairwise (· < ·) := by
  constructor
  · intro h
    refine up_pw fun d l => ?_
    unfold rises at h
    rw [List.all_map, List.all_eq_true] at h
    exact of_decide_eq_true (h d (List.mem_range.mpr (by omega)))
  · intro h
    unfold rises
    rw [List.all_map, List.all_eq_true]
    intro d hd
    exact decide_eq_true (pw_up h (by have := List.mem_range.mp hd; omega))
def spLot (K : PySem.W.Frag) : Sp := fun vs H Q _ => ∃ (v : V) (n : Nat), vs = [v, .int n] ∧ GV K H v ∧ (∀ js, Lot H n v js → ∀ H', Same H H' → Q (.bl true) H') ∧ ((∀ js, ¬ Lot H n v js) → ∀ H', Same H H' → Q (.bl false) H')
theorem ok_lot (T : Txt P K mg A) : FnOk P w K mg base CX0 4 A.a_is_lot A.d_is_lot ["value", "size"] (spLot K) := by
  refine T.F_is_lot.ok sc_is_lot (fun vs H Q E h => ?_) (fun cdv A' outer s H vs Q E hr h => ?_)
  · obtain ⟨v, m, rfl, _⟩ := h
    rfl
  · obtain ⟨v, n, rfl, g, k1, k0⟩ := h
    have G_is_point := ok_isp (w := w) (base := base) T
    refine ⟨_, (pss_cons (ps_if (PW.pt (pw_or (pt_not (pt_val (pe_callB (id := "isinstance") (r := rIsiV K) call_isiV (by rfl) T.n_isinstance (by decide +kernel) (pa_cons (pv 0) (pa_cons (pe_bltn (v := .ty "tuple") (u := .type "tuple") (by rfl) T.n_tuple (by decide +kernel) rfl) pa_nil))))) (pw_or1 (pt_not (pt_val (pe_callB (cr_all rfl) (by rfl) T.n_all (by decide +kernel) (pa_cons (pe_lc (own := [("member", 3)]) (g := (gName 3)) (by rfl) sc_is_lot.nd (pi_tup (pv 0)) (blkOk_by (own := [("member", 3)]) (N := ["value", "size", "k", "member"]) (sc := defScope s_is_lot) (by decide +kernel)) (fun _ _ _ _ _ => (pg_name (i := 3) sc_is_lot.nd rfl (Or.inl rfl))) (fun _ _ _ _ _ => pts_nil) (fun _ _ _ _ _ => (pe_call G_is_point (hr.mono (by decide)) rfl T.g_is_point T.F_is_point.kp (B_is_point T) .nil pass0 (pa_cons (pv 3) (pa_cons (pv 1) pa_nil))))) pa_nil))))))) (pss_one (ps_ret pe_bl)) pss_nil)
  (pss_one (ps_ret (pe_callB (cr_all rfl) (by rfl) T.n_all (by decide +kernel) (pa_cons (pe_lc (own := [("k", 2)]) (g := (gName 2)) (by rfl) sc_is_lot.nd (pi_range2 rfl T.n_range (pa_cons pe_int (pa_cons (pe_callB call_len (by rfl) T.n_len (by decide +kernel) (pa_cons (pv 0) pa_nil)) pa_nil))) (blkOk_by (own := [("k", 2)]) (N := ["value", "size", "k", "member"]) (sc := defScope s_is_lot) (by decide +kernel)) (fun _ _ _ _ _ => (pg_name (i := 2) sc_is_lot.nd rfl (Or.inl rfl))) (fun _ _ _ _ _ => pts_nil) (fun _ _ _ _ _ => (pe_cmpR op_lt (pe_ix (r := rIx K) ix_seq (pv 0) (pe_op op_sub (pv 2) pe_int) (fun _ _ => rfl)) (pe_ix (r := rIx K) ix_seq (pv 0) (pv 2) (fun _ _ => rfl)) (nomark _)))) pa_nil))))), ?_⟩
    walk_at "sx"
    rcases g with ⟨no, nt⟩ | ⟨p, xs, rfl, hp0, mem, sz⟩
    · refine isi_in no ?_
      walk_at "sx"
      refine k0 (fun js ⟨p, e, hp, _⟩ => ?_) H (L2.Same.refl H)
      subst e
      rw [isT_of hp] at nt
      cases nt
    · refine isi_in (in_tup hp0) ?_
      have hp : True → H p = some (.tup xs) := fun _ => hp0
      clear hp0
      walk_at "sx"
      refine ⟨_, rfl, p, rfl, ⟨_, SqT.of (hp trivial)⟩, fun D hD => lc_tup (K := K) (a := p) (xs := xs) (fun i H' => Same H H' ∧ H' D = some (.lst ((xs.take i).map fun x => V.bl (isPt n x)))) ⟨Same.new hD, upd_same⟩ (fun i H' _ h => SqT.of (h.1 _ _ (hp trivial))) ?_ ?_⟩
      · rintro i x H' hx ⟨s', hD'⟩
        refine s_name ⟨rfl, ?_⟩
        refine s_yes (i_t ?_)
        walk_at "sx"
        refine c_t2 (ni_same s' (mem x (List.mem_of_getElem? hx))) ?_
        refine ⟨_, hD', ?_, Sx.Same.put s' hD, ?_⟩
        · rw [List.length_map, List.length_take]
          exact Nat.lt_of_le_of_lt (Nat.min_le_right _ _) (by show xs.length < 16777216; omega)
        · rw [upd_same, List.take_succ, hx]
          simp
      · rintro H1 ⟨s1, hD1⟩
        rw [List.take_length] at hD1
        have e : (xs.map fun x => V.bl (isPt n x)) = (xs.map (isPt n)).map V.bl := by
          rw [List.map_map]
          rfl
        rw [e] at hD1
        have ea : (xs.map (isPt n)).all id = xs.all (isPt n) := by rw [List.all_map]; rfl
        walk_at "sx"
        refine r_all hD1 ?_
        rw [ea]
        walk_at "sx"
        cases hb : xs.all (isPt n) with
        | false =>
          refine i_nf ?_
          walk_at "sx"
          refine k0 (fun js ⟨p', e', hp', _, lt⟩ => ?_) H1 s1
          cases e'
          have z := (hp trivial).symm.trans hp'
          injection z with z
          injection z with z
          rw [z, pts_all lt] at hb
          cases hb
        | true =>
          refine i_nt ?_
          obtain ⟨js, rfl, lt⟩ := pts_of n xs hb
          clear hD1 e ea
          have lj : (js.map nv).length = js.length := List.length_map ..
          walk_at "sx"
          have ej : (((js.map nv).length : Int) - 1).toNat = js.length - 1 := by
            rw [lj]
            omega
          refine ⟨_, rfl, _, _, rfl, .inr ⟨_, SqT.of (s1 _ _ (hp trivial)), rfl⟩, _, _, rfl, ⟨by omega, by omega, by omega, by omega⟩, ?_⟩
          rw [ej]
          refine fun D2 hD2 => lc_range (lo := 1) (n := js.length - 1) (fun i H' => Same H1 H' ∧ H' D2 = some (.lst ((rises js i).map V.bl))) ⟨Same.new hD2, upd_same⟩ ?_ ?_
          · rintro i H' hi ⟨s', hD'⟩
            have a0 : atI (js.map nv) (1 + (i : Int) - 1) = some (.int (js.getD i 0 : Nat)) := by
              rw [show (1 + (i : Int) - 1) = (i : Int) by omega]
              exact atI_nat (by rw [List.getElem?_map, List.getElem?_eq_getElem (by omega)]; simp [show i < js.length by omega])
            have a1 : atI (js.map nv) (1 + (i : Int)) = some (.int (js.getD (i + 1) 0 : Nat)) := by
              rw [show (1 + (i : Int)) = ((i + 1 : Nat) : Int) by omega]
              exact atI_nat (by rw [List.getElem?_map, List.getElem?_eq_getElem (by omega)]; simp [show i + 1 < js.length by omega])
            refine s_name ⟨rfl, ?_⟩
            refine s_yes (i_t ?_)
            walk_at "sx"
            refine r_ixT ((s1.trans s') _ _ (hp trivial)) a0 ?_
            walk_at "sx"
            refine r_ixT ((s1.trans s') _ _ (hp trivial)) a1 ?_
            refine ⟨_, _, rfl, rfl, ?_⟩
            refine ⟨_, hD', ?_, Sx.Same.put s' hD2, ?_⟩
            · unfold rises
              rw [List.length_map, List.length_map, List.length_range, sizeLine_eq]
              omega
            · rw [upd_same, rises_succ, List.map_append]
              have e : decide (((js.getD i 0 : Nat) : Int) < ((js.getD (i + 1) 0 : Nat) : Int)) = decide (js.getD i 0 < js.getD (i + 1) 0) := by
                by_cases c : js.getD i 0 < js.getD (i + 1) 0
                · rw [decide_eq_true c, decide_eq_true (by omega)]
                · rw [decide_eq_false c, decide_eq_false (by omega)]
              show some (HO.lst (_ ++ [V.bl (decide (((js.getD i 0 : Nat) : Int) < ((js.getD (i + 1) 0 : Nat) : Int)))])) = _
              rw [e]
              rfl
          · rintro H2 ⟨s2, hD'⟩
            walk_at "sx"
            refine r_all hD' ?_
            cases hr2 : (rises js (js.length - 1)).all id with
            | true => exact k1 js ⟨p, rfl, hp trivial, rises_all.mp hr2, lt⟩ H2 (s1.trans s2)
            | false =>
              refine k0 (fun js' ⟨p', e', hp', up, _⟩ => ?_) H2 (s1.trans s2)
              cases e'
              have z := (hp trivial).symm.trans hp'
              injection z with z
              injection z with z
              have z' := (List.map_inj_right (fun _ _ e => by injection e with e; omega)).mp z
              rw [← z'] at up
              rw [rises_all.mpr up] at hr2
              cases hr2
end
end K07

set_option Elab.async false
set_option linter.all false
set_option maxRecDepth 100000
set_option maxHeartbeats 4000000
namespace K07
open PySem L2 Sx
local macro_rules | `(tactic| walk_at "cond") => `(tactic| first
  | assumption
  | decide
  | exact c_mul_r (by first | decide | omega) (by first | decide | omega)
  | exact c_mul_l (by first | decide | omega) (by first | decide | omega)
  | exact c_div (by first | decide | omega) (by first | decide | omega)
  | exact c_pow (by first | decide | omega) (by first | decide | omega) (by first | decide | omega)
  | omega)
local macro_rules | `(tactic| walk_at "ne") => `(tactic| first
  | assumption
  | (refine Ne.symm ?_; assumption)
  | (refine' Flow.ne ?nh ?nn; (case nn => assumption); (case nh => walk_at "fl"))
  | (refine Ne.symm ?_; refine' Flow.ne ?nh ?nn; (case nn => assumption); (case nh => walk_at "fl"))
  | (refine' ne_of_none ?nh ?nn; (case nn => assumption); (case nh => walk_at "at"))
  | (refine Ne.symm ?_; refine' ne_of_none ?nh ?nn; (case nn => assumption); (case nh => walk_at "at")))
local macro_rules | `(tactic| walk_at "at") => `(tactic| first
  | assumption
  | (refine Same.up (by assumption) ?_; walk_at "at")
  | (refine Keep.up (by assumption) (by walk_at "ne") ?_; walk_at "at"))
local macro_rules | `(tactic| walk_at "fl") => `(tactic| first
  | assumption
  | (refine Flow.same (by assumption) ?_; walk_at "fl")
  | (refine Flow.keep (by assumption) (by walk_at "ne") ?_; walk_at "fl"))
local macro_rules | `(tactic| walk_at "fr") => `(tactic| first
  | assumption
  | (refine same_free (by assumption) ?_; walk_at "fr")
  | (refine Keep.free (by assumption) (by walk_at "ne") ?_; walk_at "fr"))
local macro_rules | `(tactic| walk_at "kp") => `(tactic| first
  | assumption
  | exact Keep.refl _ _
  | (refine Keep.trans ?_ (by assumption); walk_at "kp")
  | (refine Keep.trans ?_ (Keep.same (by assumption)); walk_at "kp"))
local macro_rules | `(tactic| walk_at "sm") => `(tactic| first
  | assumption
  | exact L2.Same.refl _
  | (refine L2.Same.trans ?_ (by assumption); walk_at "sm"))
local macro_rules | `(tactic| walk_at "sz") => `(tactic| first | exact Nat.le_of_ble_eq_true rfl | omega)
local macro_rules | `(tactic| walk_at "new") => `(tactic| (intro p np; generalize hE : upd _ p _ = H2; have s2 := new_same np hE; have h2 := new_at hE; clear hE))
local macro_rules | `(tactic| walk_at "newx") => `(tactic| (intro e d na nd hda; generalize hE : upd (upd _ d _) e _ = H2; have s2 := newx_same na nd hE; have h2 := newx_at hE; have h3 := newx_d hda hE; clear hE))
local macro_rules | `(tactic| walk_at "s1") => `(tactic| first
  | with_reducible refine s_seq ?_
  | with_reducible refine s_asg ?_
  | with_reducible refine s_name ?_
  | with_reducible refine s_ret ?_
  | with_reducible refine s_c ?_
  | ((with_reducible refine' s_var ?hv ?_); (case hv => rfl))
  | with_reducible refine s_op ?_
  | with_reducible refine s_un ?_
  | with_reducible refine s_ifS ?_
  | with_reducible refine s_cb ?_
  | with_reducible refine s_cons ?_
  | with_reducible refine s_nil ?_
  | with_reducible refine s_call ?_
  | with_reducible refine s_test ?_
  | with_reducible refine s_tB ?_
  | with_reducible refine s_bl ?_
  | with_reducible refine s_and ?_
  | with_reducible refine s_or ?_
  | with_reducible refine s_not ?_
  | with_reducible refine s_andV ?_
  | with_reducible refine s_orV ?_
  | with_reducible refine s_notV ?_
  | with_reducible refine s_blV ?_
  | with_reducible refine s_if ?_
  | with_reducible refine s_tup ?_
  | with_reducible refine s_lst ?_
  | with_reducible refine s_drop ?_
  | with_reducible refine s_next ?_
  | with_reducible refine s_sub ?_
  | with_reducible refine s_bm ?_
  | with_reducible refine s_callK ?_
  | with_reducible refine s_brk ?_
  | with_reducible refine s_cont ?_
  | with_reducible refine r_I0 ?_
  | with_reducible refine r_U ?_
  | with_reducible refine r_eqI ?_
  | with_reducible refine r_neI ?_
  | with_reducible refine r_isB ?_
  | with_reducible refine r_notB ?_
  | with_reducible refine i_t ?_
  | with_reducible refine i_f ?_
  | with_reducible refine i_nt ?_
  | with_reducible refine i_nf ?_
  | ((with_reducible refine' r_I ?hc ?_); (case hc => walk_at "cond"))
  | (with_reducible refine .inl ⟨_, rfl, ?_⟩)
  | (with_reducible refine ⟨_, rfl, ?_⟩)
  | ((with_reducible refine' r_ixL ?hx ?ha ?_); (case hx => walk_at "at"); (case ha => rfl))
  | ((with_reducible refine' r_ixT ?hx ?ha ?_); (case hx => walk_at "at"); (case ha => rfl))
  | ((with_reducible refine' r_setL ?hx ?ha ?_); (case hx => walk_at "at"); (case ha => rfl); intro H2 k2 h2; (try dsimp only [List.set, Int.toNat] at h2))
  | ((with_reducible refine' r_app ?hx ?hl ?_); (case hx => walk_at "at"); (case hl => first | exact Nat.lt_of_ble_eq_true rfl | omega); intro H2 k2 h2)
  | ((with_reducible refine' ty_list ?hx ?_); (case hx => walk_at "at"))
  | (refine And.intro (by (with_reducible show _ ≤ sizeLine); walk_at "sz") ?_; walk_at "new")
  | with_reducible refine s_exv ?_
  | walk_at "newx")
local macro_rules | `(tactic| walk_at "sx") => `(tactic| repeat (walk_at "s1"))
local macro_rules | `(tactic| walk_at "s2") => `(tactic| first
  | ((with_reducible refine' r_ixG ?hx ?hn ?_); (case hx => walk_at "at"); (case hn => omega))
  | ((with_reducible refine' r_ixGT ?hx ?hn ?_); (case hx => walk_at "at"); (case hn => omega))
  | (with_reducible refine ig_cons (fun hix => ?_) (fun hix => ?_))
  | ((with_reducible refine ig_nil ?_); omega)
  | ((with_reducible refine' i_T ?hc ?_); (case hc => omega))
  | ((with_reducible refine' i_F ?hc ?_); (case hc => omega))
  | (with_reducible refine i_2 (fun hc => ?_) (fun hc => ?_))
  | (with_reducible refine i_n2 (fun hc => ?_) (fun hc => ?_)))
local macro_rules | `(tactic| walk_at "go") => `(tactic| repeat' (first | walk_at "s1" | walk_at "s2"))

local macro_rules | `(tactic| walk_at "s1") => `(tactic| first
  | with_reducible refine s_chain ?_
  | with_reducible refine s_fldS ?_
  | with_reducible refine s_fld ?_
  | with_reducible refine s_dIn ?_
  | with_reducible refine s_dNotIn ?_
  | with_reducible refine s_sl ?_
  | with_reducible refine s_noPart ?_
  | with_reducible refine s_part ?_
  | with_reducible refine s_meth ?_
  | with_reducible refine s_make ?_)

local macro_rules | `(tactic| walk_at "s1") => `(tactic| first
  | with_reducible refine s_methK ?_
  | with_reducible refine s_mthS ?_)
section
variable {P : Program} {w : World} {K : PySem.W.Frag} {mg : Str → Option Value} {base : Heap} {A : Ad}
/-- what a point is: no tuple, or a tuple of these -/
def PtOk (K : PySem.W.Frag) (H : Hp) (v : V) (p : Option (List V)) : Prop := (p = none ∧ IsIn K H v "tuple" false) ∨ ∃ a xs, v = .ref a ∧ p = some xs ∧ H a = some (.tup xs) ∧ (∀ x ∈ xs, NI K H x) ∧ xs.length < 1000
/-- what a value is: no tuple, or a tuple of such points -/
def VlOk (K : PySem.W.Frag) (H : Hp) (v : V) (q : Option (List (Option (List V)))) : Prop := (q = none ∧ IsIn K H v "tuple" false) ∨
  ∃ (a : Addr) (zs : List (V × Option (List V))), v = .ref a ∧ q = some (zs.map (·.2)) ∧ H a = some (.tup (zs.map (·.1))) ∧ (∀ z ∈ zs, PtOk K H z.1 z.2) ∧ zs.length < 1000
theorem PtOk.same {H H' : Hp} {v : V} {p : Option (List V)} (e : Same H H') (h : PtOk K H v p) : PtOk K H' v p := by
  rcases h with ⟨a, b⟩ | ⟨a, xs, h1, h2, h3, h4, h5⟩
  · exact .inl ⟨a, isIn_same e b⟩
  · exact .inr ⟨a, xs, h1, h2, e _ _ h3, fun x hx => ni_same e (h4 x hx), h5⟩
theorem VlOk.same {H H' : Hp} {v : V} {q : Option (List (Option (List V)))} (e : Same H H') (h : VlOk K H v q) : VlOk K H' v q := by
  rcases h with ⟨a, b⟩ | ⟨a, xs, h1, h2, h3, h4, h5⟩
  · exact .inl ⟨a, isIn_same e b⟩
  · exact .inr ⟨a, xs, h1, h2, e _ _ h3, fun x hx => (h4 x hx).same e, h5⟩
def isAns : Option (List V) → Bool
  | some [_, y] => isBit y
  | _ => false
theorem len2 {xs : List V} (h : xs.length = 2) : ∃ x y, xs = [x, y] := by
  match xs, h with
  | [x, y], _ => exact ⟨x, y, rfl⟩
def spPair (K : PySem.W.Frag) : Sp := fun vs H Q _ => ∃ (v : V) (p : Option (List V)), vs = [v] ∧ PtOk K H v p ∧ Q (.bl (match p with | some xs => decide (xs.length = 2) | none => false)) H
theorem ok_pair (T : Txt P K mg A) : FnOk P w K mg base CX0 1 A.a_is_pair A.d_is_pair ["value"] (spPair K) := by
  refine T.F_is_pair.ok sc_is_pair (fun vs H Q E h => ?_) (fun cdv A' outer s H vs Q E hr h => ?_)
  · obtain ⟨v, p, rfl, _⟩ := h
    rfl
  · obtain ⟨v, p, rfl, hp, q⟩ := h
    refine ⟨_, (pss_one (ps_ret (pe_and (pe_callB (id := "isinstance") (r := rIsiV K) call_isiV (by rfl) T.n_isinstance (by decide +kernel) (pa_cons (pv 0) (pa_cons (pe_bltn (v := .ty "tuple") (u := .type "tuple") (by rfl) T.n_tuple (by decide +kernel) rfl) pa_nil))) (pe_one (pe_cmpR op_eq (pe_callB call_len (by rfl) T.n_len (by decide +kernel) (pa_cons (pv 0) pa_nil)) pe_int (nomark _)))))), ?_⟩
    walk_at "sx"
    rcases hp with ⟨rfl, no⟩ | ⟨a, xs, rfl, rfl, ha, mem, sz⟩
    · refine isi_in no ?_
      walk_at "sx"
      exact q
    · refine isi_in (in_tup ha) ?_
      walk_at "sx"
      refine ⟨_, _, rfl, .inr ⟨xs, SqT.of ha, rfl⟩, ?_⟩
      walk_at "sx"
      rw [show decide ((xs.length : Int) = 2) = decide (xs.length = 2) from decide_eq_decide.mpr ⟨fun h => by omega, fun h => by omega⟩]
      exact q
def spAns (K : PySem.W.Frag) : Sp := fun vs H Q _ => ∃ (v : V) (p : Option (List V)), vs = [v] ∧ PtOk K H v p ∧ Q (.bl (isAns p)) H
theorem ok_ans (T : Txt P K mg A) : FnOk P w K mg base CX0 3 A.a_is_answer A.d_is_answer ["value"] (spAns K) := by
  refine T.F_is_answer.ok sc_is_answer (fun vs H Q E h => ?_) (fun cdv A' outer s H vs Q E hr h => ?_)
  · obtain ⟨v, p, rfl, _⟩ := h
    rfl
  · obtain ⟨v, p, rfl, hp, q⟩ := h
    have G_is_pair := ok_pair (w := w) (base := base) T
    have G_is_value := ok_isv (w := w) (base := base) T
    refine ⟨_, (pss_one (ps_ret (pe_and (pe_call G_is_pair (hr.mono (by decide)) rfl T.g_is_pair T.F_is_pair.kp (B_is_pair T) .nil pass0 (pa_cons (pv 0) pa_nil)) (pe_one (pe_call G_is_value (hr.mono (by decide)) rfl T.g_is_value T.F_is_value.kp (B_is_value T) .nil pass0 (pa_cons (pe_ix ix_seq (pv 0) pe_int (fun _ _ => rfl)) pa_nil)))))), ?_⟩
    refine s_ret (s_andV ?_)
    walk_at "sx"
    refine ⟨v, p, rfl, hp, ?_⟩
    rcases hp with ⟨rfl, no⟩ | ⟨a, xs, rfl, rfl, ha, mem, sz⟩
    · walk_at "sx"
      exact q
    · by_cases e : xs.length = 2
      · obtain ⟨x, y, rfl⟩ := len2 e
        walk_at "sx"
        refine iteT ?_
        walk_at "sx"
        refine c_t1 (mem y (by simp)) ?_
        exact q
      · simp only [e, decide_false]
        walk_at "sx"
        have z : isAns (some xs) = false := by
          unfold isAns
          split
          · rename_i h
            cases h
            exact absurd rfl e
          · rfl
        rw [z] at q
        exact q
end
end K07

set_option Elab.async false
set_option linter.all false
set_option maxRecDepth 100000
set_option maxHeartbeats 4000000
namespace K07
open PySem L2 Sx
local macro_rules | `(tactic| walk_at "cond") => `(tactic| first
  | assumption
  | decide
  | exact c_mul_r (by first | decide | omega) (by first | decide | omega)
  | exact c_mul_l (by first | decide | omega) (by first | decide | omega)
  | exact c_div (by first | decide | omega) (by first | decide | omega)
  | exact c_pow (by first | decide | omega) (by first | decide | omega) (by first | decide | omega)
  | omega)
local macro_rules | `(tactic| walk_at "ne") => `(tactic| first
  | assumption
  | (refine Ne.symm ?_; assumption)
  | (refine' Flow.ne ?nh ?nn; (case nn => assumption); (case nh => walk_at "fl"))
  | (refine Ne.symm ?_; refine' Flow.ne ?nh ?nn; (case nn => assumption); (case nh => walk_at "fl"))
  | (refine' ne_of_none ?nh ?nn; (case nn => assumption); (case nh => walk_at "at"))
  | (refine Ne.symm ?_; refine' ne_of_none ?nh ?nn; (case nn => assumption); (case nh => walk_at "at")))
local macro_rules | `(tactic| walk_at "at") => `(tactic| first
  | assumption
  | (refine Same.up (by assumption) ?_; walk_at "at")
  | (refine Keep.up (by assumption) (by walk_at "ne") ?_; walk_at "at"))
local macro_rules | `(tactic| walk_at "fl") => `(tactic| first
  | assumption
  | (refine Flow.same (by assumption) ?_; walk_at "fl")
  | (refine Flow.keep (by assumption) (by walk_at "ne") ?_; walk_at "fl"))
local macro_rules | `(tactic| walk_at "fr") => `(tactic| first
  | assumption
  | (refine same_free (by assumption) ?_; walk_at "fr")
  | (refine Keep.free (by assumption) (by walk_at "ne") ?_; walk_at "fr"))
local macro_rules | `(tactic| walk_at "kp") => `(tactic| first
  | assumption
  | exact Keep.refl _ _
  | (refine Keep.trans ?_ (by assumption); walk_at "kp")
  | (refine Keep.trans ?_ (Keep.same (by assumption)); walk_at "kp"))
local macro_rules | `(tactic| walk_at "sm") => `(tactic| first
  | assumption
  | exact L2.Same.refl _
  | (refine L2.Same.trans ?_ (by assumption); walk_at "sm"))
local macro_rules | `(tactic| walk_at "sz") => `(tactic| first | exact Nat.le_of_ble_eq_true rfl | omega)
local macro_rules | `(tactic| walk_at "new") => `(tactic| (intro p np; generalize hE : upd _ p _ = H2; have s2 := new_same np hE; have h2 := new_at hE; clear hE))
local macro_rules | `(tactic| walk_at "newx") => `(tactic| (intro e d na nd hda; generalize hE : upd (upd _ d _) e _ = H2; have s2 := newx_same na nd hE; have h2 := newx_at hE; have h3 := newx_d hda hE; clear hE))
local macro_rules | `(tactic| walk_at "s1") => `(tactic| first
  | with_reducible refine s_seq ?_
  | with_reducible refine s_asg ?_
  | with_reducible refine s_name ?_
  | with_reducible refine s_ret ?_
  | with_reducible refine s_c ?_
  | ((with_reducible refine' s_var ?hv ?_); (case hv => rfl))
  | with_reducible refine s_op ?_
  | with_reducible refine s_un ?_
  | with_reducible refine s_ifS ?_
  | with_reducible refine s_cb ?_
  | with_reducible refine s_cons ?_
  | with_reducible refine s_nil ?_
  | with_reducible refine s_call ?_
  | with_reducible refine s_test ?_
  | with_reducible refine s_tB ?_
  | with_reducible refine s_bl ?_
  | with_reducible refine s_and ?_
  | with_reducible refine s_or ?_
  | with_reducible refine s_not ?_
  | with_reducible refine s_andV ?_
  | with_reducible refine s_orV ?_
  | with_reducible refine s_notV ?_
  | with_reducible refine s_blV ?_
  | with_reducible refine s_if ?_
  | with_reducible refine s_tup ?_
  | with_reducible refine s_lst ?_
  | with_reducible refine s_drop ?_
  | with_reducible refine s_next ?_
  | with_reducible refine s_sub ?_
  | with_reducible refine s_bm ?_
  | with_reducible refine s_callK ?_
  | with_reducible refine s_brk ?_
  | with_reducible refine s_cont ?_
  | with_reducible refine r_I0 ?_
  | with_reducible refine r_U ?_
  | with_reducible refine r_eqI ?_
  | with_reducible refine r_neI ?_
  | with_reducible refine r_isB ?_
  | with_reducible refine r_notB ?_
  | with_reducible refine i_t ?_
  | with_reducible refine i_f ?_
  | with_reducible refine i_nt ?_
  | with_reducible refine i_nf ?_
  | ((with_reducible refine' r_I ?hc ?_); (case hc => walk_at "cond"))
  | (with_reducible refine .inl ⟨_, rfl, ?_⟩)
  | (with_reducible refine ⟨_, rfl, ?_⟩)
  | ((with_reducible refine' r_ixL ?hx ?ha ?_); (case hx => walk_at "at"); (case ha => rfl))
  | ((with_reducible refine' r_ixT ?hx ?ha ?_); (case hx => walk_at "at"); (case ha => rfl))
  | ((with_reducible refine' r_setL ?hx ?ha ?_); (case hx => walk_at "at"); (case ha => rfl); intro H2 k2 h2; (try dsimp only [List.set, Int.toNat] at h2))
  | ((with_reducible refine' r_app ?hx ?hl ?_); (case hx => walk_at "at"); (case hl => first | exact Nat.lt_of_ble_eq_true rfl | omega); intro H2 k2 h2)
  | ((with_reducible refine' ty_list ?hx ?_); (case hx => walk_at "at"))
  | (refine And.intro (by (with_reducible show _ ≤ sizeLine); walk_at "sz") ?_; walk_at "new")
  | with_reducible refine s_exv ?_
  | walk_at "newx")
local macro_rules | `(tactic| walk_at "sx") => `(tactic| repeat (walk_at "s1"))
local macro_rules | `(tactic| walk_at "s2") => `(tactic| first
  | ((with_reducible refine' r_ixG ?hx ?hn ?_); (case hx => walk_at "at"); (case hn => omega))
  | ((with_reducible refine' r_ixGT ?hx ?hn ?_); (case hx => walk_at "at"); (case hn => omega))
  | (with_reducible refine ig_cons (fun hix => ?_) (fun hix => ?_))
  | ((with_reducible refine ig_nil ?_); omega)
  | ((with_reducible refine' i_T ?hc ?_); (case hc => omega))
  | ((with_reducible refine' i_F ?hc ?_); (case hc => omega))
  | (with_reducible refine i_2 (fun hc => ?_) (fun hc => ?_))
  | (with_reducible refine i_n2 (fun hc => ?_) (fun hc => ?_)))
local macro_rules | `(tactic| walk_at "go") => `(tactic| repeat' (first | walk_at "s1" | walk_at "s2"))

local macro_rules | `(tactic| walk_at "s1") => `(tactic| first
  | with_reducible refine s_chain ?_
  | with_reducible refine s_fldS ?_
  | with_reducible refine s_fld ?_
  | with_reducible refine s_dIn ?_
  | with_reducible refine s_dNotIn ?_
  | with_reducible refine s_sl ?_
  | with_reducible refine s_noPart ?_
  | with_reducible refine s_part ?_
  | with_reducible refine s_meth ?_
  | with_reducible refine s_make ?_)

local macro_rules | `(tactic| walk_at "s1") => `(tactic| first
  | with_reducible refine s_methK ?_
  | with_reducible refine s_mthS ?_)
def pr (z : Nat × Nat) : Option (List V) := some [nv z.1, nv z.2]
def fst1 : Option (List V) → V
  | some (x :: _) => x
  | _ => .non
/-- shown answers: points js, values ws -/
def Sh (n : Nat) (q : Option (List (Option (List V)))) (js ws : List Nat) : Prop := q = some ((js.zip ws).map pr) ∧ js.length = ws.length ∧ js.Pairwise (· < ·) ∧ (∀ j ∈ js, j < n) ∧ ∀ w ∈ ws, w ≤ 1
theorem zip_ans : ∀ {js ws : List Nat}, (∀ w ∈ ws, w ≤ 1) → ((js.zip ws).map pr).all isAns = true
  | [], _, _ => rfl
  | _ :: _, [], _ => rfl
  | j :: js, w :: ws, h => by
    rw [List.zip_cons_cons, List.map_cons, List.all_cons, zip_ans fun x hx => h x (List.mem_cons_of_mem _ hx), Bool.and_true]
    have := h w List.mem_cons_self
    show (decide (0 ≤ ((w : Nat) : Int)) && decide (((w : Nat) : Int) ≤ 1)) = true
    rw [decide_eq_true (by omega), decide_eq_true (by omega)]
    rfl
theorem zip_fst : ∀ {js ws : List Nat}, js.length = ws.length → ((js.zip ws).map pr).map fst1 = js.map nv
  | [], _, _ => rfl
  | _ :: _, [], h => by simp at h
  | j :: js, w :: ws, h => by
    rw [List.zip_cons_cons, List.map_cons, List.map_cons, zip_fst (by simpa using h)]
    rfl
theorem ans_zip : ∀ {ps : List (Option (List V))} {js : List Nat}, ps.all isAns = true → ps.map fst1 = js.map nv → ∃ ws : List Nat, js.length = ws.length ∧ ps = (js.zip ws).map pr ∧ ∀ w ∈ ws, w ≤ 1
  | [], [], _, _ => ⟨[], rfl, rfl, fun _ h => nomatch h⟩
  | [], _ :: _, _, h => by simp at h
  | _ :: _, [], _, h => by simp at h
  | p :: ps, j :: js, h1, h2 => by
    rw [List.all_cons, Bool.and_eq_true] at h1
    rw [List.map_cons, List.map_cons] at h2
    obtain ⟨e1, e2⟩ := List.cons.inj h2
    obtain ⟨ws, l, e, b⟩ := ans_zip h1.2 e2
    have z := h1.1
    unfold isAns at z
    split at z
    · rename_i x y
      cases y with
      | int i =>
        have z' : (decide (0 ≤ i) && decide (i ≤ 1)) = true := z
        rw [Bool.and_eq_true, decide_eq_true_eq, decide_eq_true_eq] at z'
        refine ⟨i.toNat :: ws, by simp [l], ?_, fun w hw => ?_⟩
        · rw [List.zip_cons_cons, List.map_cons, ← e]
          have ex : x = nv j := e1
          have ei : V.int i = nv i.toNat := by
            show V.int i = V.int ((i.toNat : Nat) : Int)
            rw [Int.toNat_of_nonneg z'.1]
          rw [ex, ei]
          rfl
        · rcases List.mem_cons.mp hw with rfl | hw
          · omega
          · exact b w hw
      | _ => cases z
    · cases z
section
variable {P : Program} {w : World} {K : PySem.W.Frag} {mg : Str → Option Value} {base : Heap} {A : Ad}
def spShown (K : PySem.W.Frag) (C : Addr) : Sp := fun vs H Q _ => ∃ (x : Addr) (v : V) (n : Nat) (ks : List (Addr × List Int)) (q : Option (List (Option (List V)))), vs = [.ref x, v] ∧ RuAt C H x n ks ∧ VlOk K H v q ∧
  (∀ js ws, Sh n q js ws → ∀ H', Same H H' → Q (.bl true) H') ∧ ((∀ js ws, ¬ Sh n q js ws) → ∀ H', Same H H' → Q (.bl false) H')
theorem ok_shown (T : Txt P K mg A) : FnOk P w K mg base CX0 6 A.a_Rules__is_shown A.d_Rules__is_shown ["self", "value"] (spShown K A.c_Rules) := by
  refine T.F_Rules__is_shown.ok sc_Rules__is_shown (fun vs H Q E h => ?_) (fun cdv A' outer s H vs Q E hr h => ?_)
  · obtain ⟨x, v, n, ks, q, rfl, _⟩ := h
    rfl
  · obtain ⟨x, v, n, ks, q, rfl, ru, hv, k1, k0⟩ := h
    have G_is_answer := ok_ans (w := w) (base := base) T
    have G_is_lot := ok_lot (w := w) (base := base) T
    refine ⟨_, (pss_cons (ps_if (PW.pt (pw_or (pt_not (pt_val (pe_callB (id := "isinstance") (r := rIsiV K) call_isiV (by rfl) T.n_isinstance (by decide +kernel) (pa_cons (pv 1) (pa_cons (pe_bltn (v := .ty "tuple") (u := .type "tuple") (by rfl) T.n_tuple (by decide +kernel) rfl) pa_nil))))) (pw_or1 (pt_not (pt_val (pe_callB (cr_all rfl) (by rfl) T.n_all (by decide +kernel) (pa_cons (pe_lc (own := [("pair", 2)]) (g := (gName 2)) (by rfl) sc_Rules__is_shown.nd (pi_tup (pv 1)) (blkOk_by (own := [("pair", 2)]) (N := ["self", "value", "pair"]) (sc := defScope s_Rules__is_shown) (by decide +kernel)) (fun _ _ _ _ _ => (pg_name (i := 2) sc_Rules__is_shown.nd rfl (Or.inl rfl))) (fun _ _ _ _ _ => pts_nil) (fun _ _ _ _ _ => (pe_call G_is_answer (hr.mono (by decide)) rfl T.g_is_answer T.F_is_answer.kp (B_is_answer T) .nil pass0 (pa_cons (pv 2) pa_nil)))) pa_nil))))))) (pss_one (ps_ret pe_bl)) pss_nil)
  (pss_one (ps_ret (pe_call G_is_lot (hr.mono (by decide)) rfl T.g_is_lot T.F_is_lot.kp (B_is_lot T) .nil pass0 (pa_cons (pe_callTy call_tuple_of (by rfl) T.n_tuple (by decide +kernel) (pa_cons (pe_lc (own := [("pair", 2)]) (g := (gName 2)) (by rfl) sc_Rules__is_shown.nd (pi_tup (pv 1)) (blkOk_by (own := [("pair", 2)]) (N := ["self", "value", "pair"]) (sc := defScope s_Rules__is_shown) (by decide +kernel)) (fun _ _ _ _ _ => (pg_name (i := 2) sc_Rules__is_shown.nd rfl (Or.inl rfl))) (fun _ _ _ _ _ => pts_nil) (fun _ _ _ _ _ => (pe_ix (r := rIx K) ix_seq (pv 2) pe_int (fun _ _ => rfl)))) pa_nil)) (pa_cons (pe_fld (pv 0) rfl) pa_nil)))))), ?_⟩
    walk_at "sx"
    rcases hv with ⟨rfl, no⟩ | ⟨a, zs, rfl, rfl, ha0, mem, sz⟩
    · refine isi_in no ?_
      walk_at "sx"
      exact k0 (fun js ws h => nomatch h.1) H (L2.Same.refl H)
    · refine isi_in (in_tup ha0) ?_
      have ha : True → H a = some (.tup (zs.map (·.1))) := fun _ => ha0
      clear ha0
      walk_at "sx"
      refine ⟨_, rfl, a, rfl, ⟨_, SqT.of (ha trivial)⟩, fun D hD => lc_tup (K := K) (a := a) (xs := zs.map (·.1)) (fun i H' => Same H H' ∧ H' D = some (.lst ((zs.take i).map fun z => V.bl (isAns z.2)))) ⟨Same.new hD, upd_same⟩ (fun i H' _ h => SqT.of (h.1 _ _ (ha trivial))) ?_ ?_⟩
      · rintro i y H' hy ⟨s', hD'⟩
        obtain ⟨z, hz, rfl⟩ : ∃ z, zs[i]? = some z ∧ z.1 = y := by
          rw [List.getElem?_map] at hy
          exact Option.map_eq_some_iff.mp hy
        refine s_name ⟨rfl, ?_⟩
        refine s_yes (i_t ?_)
        walk_at "sx"
        refine ⟨z.1, z.2, rfl, (mem z (List.mem_of_getElem? hz)).same s', ⟨_, hD', ?_, Sx.Same.put s' hD, ?_⟩⟩
        · rw [List.length_map, List.length_take]
          exact Nat.lt_of_le_of_lt (Nat.min_le_right _ _) (by show zs.length < 16777216; omega)
        · rw [upd_same, List.take_succ, hz]
          simp
      · rintro H1 ⟨s1, hD1⟩
        rw [List.length_map, List.take_length] at hD1
        have e : (zs.map fun z => V.bl (isAns z.2)) = (zs.map fun z => isAns z.2).map V.bl := by
          rw [List.map_map]
          rfl
        rw [e] at hD1
        have ea : (zs.map fun z => isAns z.2).all id = (zs.map (·.2)).all isAns := by
          rw [List.all_map, List.all_map]
          rfl
        walk_at "sx"
        refine r_all hD1 ?_
        rw [ea]
        clear hD1
        refine ⟨_, rfl, i_nb2 (fun hb => ?_) (fun hb => ?_)⟩
        · walk_at "sx"
          refine k0 (fun js ws h => ?_) H1 s1
          have := zip_ans (js := js) h.2.2.2.2
          rw [← Option.some.inj h.1, hb] at this
          cases this
        · walk_at "sx"
          have pair : ∀ z ∈ zs, ∃ b y, z.1 = .ref b ∧ H b = some (.tup [fst1 z.2, y]) ∧ NI K H (fst1 z.2) := fun z hz => by
            have h := List.all_eq_true.mp hb z.2 (List.mem_map_of_mem (f := (·.2)) hz)
            rcases mem z hz with ⟨e, _⟩ | ⟨b, xs, e1, e2, hb', m, _⟩
            · rw [e] at h
              cases h
            · rw [e2] at h
              unfold isAns at h
              split at h
              · rename_i x y h'
                cases h'
                rw [e2]
                exact ⟨b, y, e1, hb', m x (by simp)⟩
              · cases h
          refine ⟨_, rfl, a, rfl, ⟨_, SqT.of (s1 _ _ (ha trivial))⟩, fun D2 hD2 => lc_tup (K := K) (a := a) (xs := zs.map (·.1)) (fun i H' => Same H1 H' ∧ H' D2 = some (.lst ((zs.take i).map fun z => fst1 z.2))) ⟨Same.new hD2, upd_same⟩ (fun i H' _ h => SqT.of (h.1 _ _ (s1 _ _ (ha trivial)))) ?_ ?_⟩
          · rintro i y H' hy ⟨s', hD'⟩
            obtain ⟨z, hz, rfl⟩ : ∃ z, zs[i]? = some z ∧ z.1 = y := by
              rw [List.getElem?_map] at hy
              exact Option.map_eq_some_iff.mp hy
            obtain ⟨b, y, e1, hb', _⟩ := pair z (List.mem_of_getElem? hz)
            refine s_name ⟨rfl, ?_⟩
            refine s_yes (i_t ?_)
            rw [e1]
            have g := s' _ _ (s1 _ _ hb')
            refine s_op (s_var rfl (s_c ?_))
            refine r_ixT g (v := fst1 z.2) rfl ?_
            refine ⟨_, hD', ?_, Sx.Same.put s' hD2, ?_⟩
            · rw [List.length_map, List.length_take]
              exact Nat.lt_of_le_of_lt (Nat.min_le_right _ _) (by show zs.length < 16777216; omega)
            · rw [upd_same, List.take_succ, hz]
              simp
          · rintro H2 ⟨s2, hD2'⟩
            rw [List.length_map, List.take_length] at hD2'
            walk_at "sx"
            refine ⟨D2, _, rfl, .inl ⟨SqL.of hD2', fun p np => ?_⟩⟩
            generalize hE : upd H2 p _ = H3
            have s3 := new_same np hE
            have h3 := new_at hE
            clear hE
            have S := s1.trans (s2.trans s3)
            obtain ⟨dx, t, kn, hx, _⟩ := id (ru.same S)
            walk_at "sx"
            refine r_get rfl hx T.cl_Rules T.no_Rules_size rfl ?_
            walk_at "sx"
            have ef : (zs.map fun z => fst1 z.2) = (zs.map (·.2)).map fst1 := by
              rw [List.map_map]
              rfl
            rw [ef] at h3
            refine ⟨.ref p, n, rfl, .inr ⟨p, _, rfl, h3, fun y hy => ?_, by rw [List.length_map, List.length_map]; exact sz⟩, fun js hl H4 s4 => ?_, fun hl H4 s4 => ?_⟩
            · rw [← ef] at hy
              obtain ⟨z, hz, rfl⟩ := List.mem_map.mp hy
              obtain ⟨_, _, _, _, ni⟩ := pair z hz
              exact ni_same S ni
            · obtain ⟨p', e1, hp', up, lt⟩ := hl
              cases e1
              have e2 := Option.some.inj (h3.symm.trans hp')
              injection e2 with e2
              obtain ⟨ws, l, e3, b⟩ := ans_zip hb e2
              exact k1 js ws ⟨by rw [e3], l, up, lt, b⟩ H4 (S.trans s4)
            · refine k0 (fun js ws h => hl js ⟨p, rfl, ?_, h.2.2.1, h.2.2.2.1⟩) H4 (S.trans s4)
              rw [h3, Option.some.inj h.1, zip_fst h.2.1]
end
end K07

set_option Elab.async false
set_option linter.all false
set_option maxRecDepth 100000
set_option maxHeartbeats 4000000
namespace K07
open PySem L2 Sx
local macro_rules | `(tactic| walk_at "cond") => `(tactic| first
  | assumption
  | decide
  | exact c_mul_r (by first | decide | omega) (by first | decide | omega)
  | exact c_mul_l (by first | decide | omega) (by first | decide | omega)
  | exact c_div (by first | decide | omega) (by first | decide | omega)
  | exact c_pow (by first | decide | omega) (by first | decide | omega) (by first | decide | omega)
  | omega)
local macro_rules | `(tactic| walk_at "ne") => `(tactic| first
  | assumption
  | (refine Ne.symm ?_; assumption)
  | (refine' Flow.ne ?nh ?nn; (case nn => assumption); (case nh => walk_at "fl"))
  | (refine Ne.symm ?_; refine' Flow.ne ?nh ?nn; (case nn => assumption); (case nh => walk_at "fl"))
  | (refine' ne_of_none ?nh ?nn; (case nn => assumption); (case nh => walk_at "at"))
  | (refine Ne.symm ?_; refine' ne_of_none ?nh ?nn; (case nn => assumption); (case nh => walk_at "at")))
local macro_rules | `(tactic| walk_at "at") => `(tactic| first
  | assumption
  | (refine Same.up (by assumption) ?_; walk_at "at")
  | (refine Keep.up (by assumption) (by walk_at "ne") ?_; walk_at "at"))
local macro_rules | `(tactic| walk_at "fl") => `(tactic| first
  | assumption
  | (refine Flow.same (by assumption) ?_; walk_at "fl")
  | (refine Flow.keep (by assumption) (by walk_at "ne") ?_; walk_at "fl"))
local macro_rules | `(tactic| walk_at "fr") => `(tactic| first
  | assumption
  | (refine same_free (by assumption) ?_; walk_at "fr")
  | (refine Keep.free (by assumption) (by walk_at "ne") ?_; walk_at "fr"))
local macro_rules | `(tactic| walk_at "kp") => `(tactic| first
  | assumption
  | exact Keep.refl _ _
  | (refine Keep.trans ?_ (by assumption); walk_at "kp")
  | (refine Keep.trans ?_ (Keep.same (by assumption)); walk_at "kp"))
local macro_rules | `(tactic| walk_at "sm") => `(tactic| first
  | assumption
  | exact L2.Same.refl _
  | (refine L2.Same.trans ?_ (by assumption); walk_at "sm"))
local macro_rules | `(tactic| walk_at "sz") => `(tactic| first | exact Nat.le_of_ble_eq_true rfl | omega)
local macro_rules | `(tactic| walk_at "new") => `(tactic| (intro p np; generalize hE : upd _ p _ = H2; have s2 := new_same np hE; have h2 := new_at hE; clear hE))
local macro_rules | `(tactic| walk_at "newx") => `(tactic| (intro e d na nd hda; generalize hE : upd (upd _ d _) e _ = H2; have s2 := newx_same na nd hE; have h2 := newx_at hE; have h3 := newx_d hda hE; clear hE))
local macro_rules | `(tactic| walk_at "s1") => `(tactic| first
  | with_reducible refine s_seq ?_
  | with_reducible refine s_asg ?_
  | with_reducible refine s_name ?_
  | with_reducible refine s_ret ?_
  | with_reducible refine s_c ?_
  | ((with_reducible refine' s_var ?hv ?_); (case hv => rfl))
  | with_reducible refine s_op ?_
  | with_reducible refine s_un ?_
  | with_reducible refine s_ifS ?_
  | with_reducible refine s_cb ?_
  | with_reducible refine s_cons ?_
  | with_reducible refine s_nil ?_
  | with_reducible refine s_call ?_
  | with_reducible refine s_test ?_
  | with_reducible refine s_tB ?_
  | with_reducible refine s_bl ?_
  | with_reducible refine s_and ?_
  | with_reducible refine s_or ?_
  | with_reducible refine s_not ?_
  | with_reducible refine s_andV ?_
  | with_reducible refine s_orV ?_
  | with_reducible refine s_notV ?_
  | with_reducible refine s_blV ?_
  | with_reducible refine s_if ?_
  | with_reducible refine s_tup ?_
  | with_reducible refine s_lst ?_
  | with_reducible refine s_drop ?_
  | with_reducible refine s_next ?_
  | with_reducible refine s_sub ?_
  | with_reducible refine s_bm ?_
  | with_reducible refine s_callK ?_
  | with_reducible refine s_brk ?_
  | with_reducible refine s_cont ?_
  | with_reducible refine r_I0 ?_
  | with_reducible refine r_U ?_
  | with_reducible refine r_eqI ?_
  | with_reducible refine r_neI ?_
  | with_reducible refine r_isB ?_
  | with_reducible refine r_notB ?_
  | with_reducible refine i_t ?_
  | with_reducible refine i_f ?_
  | with_reducible refine i_nt ?_
  | with_reducible refine i_nf ?_
  | ((with_reducible refine' r_I ?hc ?_); (case hc => walk_at "cond"))
  | (with_reducible refine .inl ⟨_, rfl, ?_⟩)
  | (with_reducible refine ⟨_, rfl, ?_⟩)
  | ((with_reducible refine' r_ixL ?hx ?ha ?_); (case hx => walk_at "at"); (case ha => rfl))
  | ((with_reducible refine' r_ixT ?hx ?ha ?_); (case hx => walk_at "at"); (case ha => rfl))
  | ((with_reducible refine' r_setL ?hx ?ha ?_); (case hx => walk_at "at"); (case ha => rfl); intro H2 k2 h2; (try dsimp only [List.set, Int.toNat] at h2))
  | ((with_reducible refine' r_app ?hx ?hl ?_); (case hx => walk_at "at"); (case hl => first | exact Nat.lt_of_ble_eq_true rfl | omega); intro H2 k2 h2)
  | ((with_reducible refine' ty_list ?hx ?_); (case hx => walk_at "at"))
  | (refine And.intro (by (with_reducible show _ ≤ sizeLine); walk_at "sz") ?_; walk_at "new")
  | with_reducible refine s_exv ?_
  | walk_at "newx")
local macro_rules | `(tactic| walk_at "sx") => `(tactic| repeat (walk_at "s1"))
local macro_rules | `(tactic| walk_at "s2") => `(tactic| first
  | ((with_reducible refine' r_ixG ?hx ?hn ?_); (case hx => walk_at "at"); (case hn => omega))
  | ((with_reducible refine' r_ixGT ?hx ?hn ?_); (case hx => walk_at "at"); (case hn => omega))
  | (with_reducible refine ig_cons (fun hix => ?_) (fun hix => ?_))
  | ((with_reducible refine ig_nil ?_); omega)
  | ((with_reducible refine' i_T ?hc ?_); (case hc => omega))
  | ((with_reducible refine' i_F ?hc ?_); (case hc => omega))
  | (with_reducible refine i_2 (fun hc => ?_) (fun hc => ?_))
  | (with_reducible refine i_n2 (fun hc => ?_) (fun hc => ?_)))
local macro_rules | `(tactic| walk_at "go") => `(tactic| repeat' (first | walk_at "s1" | walk_at "s2"))

local macro_rules | `(tactic| walk_at "s1") => `(tactic| first
  | with_reducible refine s_chain ?_
  | with_reducible refine s_fldS ?_
  | with_reducible refine s_fld ?_
  | with_reducible refine s_dIn ?_
  | with_reducible refine s_dNotIn ?_
  | with_reducible refine s_sl ?_
  | with_reducible refine s_noPart ?_
  | with_reducible refine s_part ?_
  | with_reducible refine s_meth ?_
  | with_reducible refine s_make ?_)

local macro_rules | `(tactic| walk_at "s1") => `(tactic| first
  | with_reducible refine s_methK ?_
  | with_reducible refine s_mthS ?_)
def adr : V → Addr
  | .ref b => b
  | _ => 0
/-- shown answers stand at a -/
def ShAt (H : Hp) (a : Addr) (n : Nat) (js ws : List Nat) : Prop := ∃ bs : List Addr, H a = some (.tup (bs.map V.ref)) ∧ bs.length = js.length ∧ js.length = ws.length ∧ (∀ j ∈ js, j < n) ∧ bs.length < 1000 ∧
  ∀ (i : Nat) (b : Addr), bs[i]? = some b → ∃ j w, js[i]? = some j ∧ ws[i]? = some w ∧ H b = some (.tup [nv j, nv w])
theorem ShAt.same {H H' : Hp} {a : Addr} {n : Nat} {js ws : List Nat} (s : Same H H') (h : ShAt H a n js ws) : ShAt H' a n js ws := by
  obtain ⟨bs, h1, h2, h3, h4, h6, h5⟩ := h
  refine ⟨bs, s _ _ h1, h2, h3, h4, h6, fun i b hb => ?_⟩
  obtain ⟨j, w, e1, e2, e3⟩ := h5 i b hb
  exact ⟨j, w, e1, e2, s _ _ e3⟩
theorem sh_at {K : PySem.W.Frag} {H : Hp} {v : V} {n : Nat} {q : Option (List (Option (List V)))} {js ws : List Nat} (hv : VlOk K H v q) (h : Sh n q js ws) : ∃ a, v = .ref a ∧ ShAt H a n js ws := by
  rcases hv with ⟨rfl, _⟩ | ⟨a, zs, rfl, rfl, ha, mem, sz⟩
  · cases h.1
  · have e := Option.some.inj h.1
    have lz : zs.length = (js.zip ws).length := by
      have := congrArg List.length e
      rw [List.length_map, List.length_map] at this
      exact this
    have ll : zs.length = js.length := by rw [lz, List.length_zip, ← h.2.1, Nat.min_self]
    have at_ : ∀ (i : Nat) (z : V × Option (List V)), zs[i]? = some z → ∃ b j w, z.1 = .ref b ∧ js[i]? = some j ∧ ws[i]? = some w ∧ H b = some (.tup [nv j, nv w]) := fun i z hz => by
      have hi := (List.getElem?_eq_some_iff.mp hz).1
      obtain ⟨j, hj⟩ : ∃ j, js[i]? = some j := ⟨_, List.getElem?_eq_getElem (by omega)⟩
      obtain ⟨w, hw⟩ : ∃ w, ws[i]? = some w := ⟨_, List.getElem?_eq_getElem (by have := h.2.1; omega)⟩
      have e1 := congrArg (fun l => l[i]?) e
      simp only [List.getElem?_map, hz] at e1
      rw [show (js.zip ws)[i]? = some (j, w) from List.getElem?_zip_eq_some.mpr ⟨hj, hw⟩] at e1
      have e2 : z.2 = some [nv j, nv w] := Option.some.inj e1
      rcases mem z (List.mem_of_getElem? hz) with ⟨e3, _⟩ | ⟨b, xs, e3, e4, hb, _⟩
      · rw [e2] at e3
        cases e3
      · rw [e2] at e4
        cases e4
        exact ⟨b, j, w, e3, hj, hw, hb⟩
    refine ⟨a, rfl, zs.map (fun z => adr z.1), ?_, by rw [List.length_map]; exact ll, h.2.1, h.2.2.2.1, by rw [List.length_map]; exact sz, fun i b hb => ?_⟩
    · rw [ha, List.map_map]
      congr 2
      refine List.map_congr_left fun z hz => ?_
      obtain ⟨i, hi⟩ := List.getElem?_of_mem hz
      obtain ⟨b, j, w, e1, _⟩ := at_ i z hi
      show z.1 = V.ref (adr z.1)
      rw [e1]
      rfl
    · rw [List.getElem?_map] at hb
      obtain ⟨z, hz, rfl⟩ := Option.map_eq_some_iff.mp hb
      obtain ⟨b, j, w, e1, e2, e3, e4⟩ := at_ i z hz
      rw [e1]
      exact ⟨j, w, e2, e3, e4⟩
def fitB (r : List Int) (js ws : List Nat) : Bool := (js.zip ws).all fun z => decide (r.getD z.1 0 = (z.2 : Int))
section
variable {P : Program} {w : World} {K : PySem.W.Frag} {mg : Str → Option Value} {base : Heap} {A : Ad}
def spFits : Sp := fun vs H Q _ => ∃ (p a : Addr) (n : Nat) (r : List Int) (js ws : List Nat), vs = [.ref p, .ref a] ∧ H p = some (.tup (r.map V.int)) ∧ Bits n r ∧ ShAt H a n js ws ∧ ∀ H', Same H H' → Q (.bl (fitB r js ws)) H'
theorem ok_fits (T : Txt P K mg A) : FnOk P w K mg base CX0 1 A.a_fits A.d_fits ["row", "shown"] spFits := by
  refine T.F_fits.ok sc_fits (fun vs H Q E h => ?_) (fun cdv A' outer s H vs Q E hr h => ?_)
  · obtain ⟨p, a, n, r, js, ws, rfl, _⟩ := h
    rfl
  · obtain ⟨p, a, n, r, js, ws, rfl, hp0, bt, ⟨bs, ha0, l1, l2, lt, sz, at_⟩, k⟩ := h
    refine ⟨_, (pss_one (ps_ret (pe_callB (cr_all rfl) (by rfl) T.n_all (by decide +kernel) (pa_cons (pe_lc (own := [("point", 2), ("value", 3)]) (g := (gTup K 2 (gCons (gName 2) (gCons (gName 3) gNil)))) (by rfl) sc_fits.nd (pi_tup (pv 1)) (blkOk_by (own := [("point", 2), ("value", 3)]) (N := ["row", "shown", "point", "value"]) (sc := defScope s_fits) (by decide +kernel)) (fun _ _ _ _ _ => (pg_tup rfl (pgs_cons (pg_name (i := 2) sc_fits.nd rfl (Or.inl rfl)) (pgs_cons (pg_name (i := 3) sc_fits.nd rfl (Or.inl rfl)) pgs_nil)))) (fun _ _ _ _ _ => pts_nil) (fun _ _ _ _ _ => (pe_cmpR op_eq (pe_ix (r := rIx K) ix_seq (pv 0) (pv 2) (fun _ _ => rfl)) (pv 3) (nomark _)))) pa_nil)))), ?_⟩
    have hp : True → H p = some (.tup (r.map V.int)) := fun _ => hp0
    have ha : True → H a = some (.tup (bs.map V.ref)) := fun _ => ha0
    clear hp0 ha0
    walk_at "sx"
    refine ⟨_, rfl, a, rfl, ⟨_, SqT.of (ha trivial)⟩, fun D hD => lc_tup (K := K) (a := a) (xs := bs.map V.ref) (fun i H' => Same H H' ∧ H' D = some (.lst (((js.zip ws).take i).map fun z => V.bl (decide (r.getD z.1 0 = (z.2 : Int)))))) ⟨Same.new hD, upd_same⟩ (fun i H' _ h => SqT.of (h.1 _ _ (ha trivial))) ?_ ?_⟩
    · rintro i y H' hy ⟨s', hD'⟩
      obtain ⟨b, hb, rfl⟩ : ∃ b, bs[i]? = some b ∧ V.ref b = y := by
        rw [List.getElem?_map] at hy
        exact Option.map_eq_some_iff.mp hy
      obtain ⟨j, w', hj, hw, hB⟩ := at_ i b hb
      have hrj : r[j]? = some (r.getD j 0) := by
        have := lt j (List.mem_of_getElem? hj)
        rw [List.getD_eq_getElem?_getD, List.getElem?_eq_getElem (by rw [bt.1]; exact this)]
        rfl
      refine ⟨b, _, rfl, SqT.of (s' _ _ hB), rfl, _, _, rfl, s_name ⟨_, _, rfl, s_name ⟨rfl, ?_⟩⟩⟩
      refine ⟨rfl, ?_⟩
      refine s_yes (i_t ?_)
      refine s_op (s_op (s_var rfl (s_var rfl ?_)))
      refine r_ixT (s' _ _ (hp trivial)) (v := .int (r.getD j 0)) (atI_nat (by rw [List.getElem?_map, hrj]; rfl)) ?_
      walk_at "sx"
      refine ⟨_, hD', ?_, Sx.Same.put s' hD, ?_⟩
      · rw [List.length_map, List.length_take]
        exact Nat.lt_of_le_of_lt (Nat.min_le_right _ _) (by rw [List.length_zip]; show _ < 16777216; omega)
      · rw [upd_same, List.take_succ, show (js.zip ws)[i]? = some (j, w') from List.getElem?_zip_eq_some.mpr ⟨hj, hw⟩]
        simp
    · rintro H' ⟨s', hD'⟩
      have e : ((js.zip ws).map fun z => V.bl (decide (r.getD z.1 0 = (z.2 : Int)))) = ((js.zip ws).map fun z => decide (r.getD z.1 0 = (z.2 : Int))).map V.bl := by
        rw [List.map_map]
        rfl
      rw [List.length_map, l1, List.take_of_length_le (by rw [List.length_zip]; omega), e] at hD'
      have k' := k H' s'
      rw [show fitB r js ws = ((js.zip ws).map fun z => decide (r.getD z.1 0 = (z.2 : Int))).all id by rw [List.all_map]; rfl] at k'
      walk_at "sx"
      exact r_all hD' k'
end
end K07

set_option Elab.async false
set_option linter.all false
set_option maxRecDepth 100000
set_option maxHeartbeats 4000000
namespace K07
open PySem L2 Sx
local macro_rules | `(tactic| walk_at "cond") => `(tactic| first
  | assumption
  | decide
  | exact c_mul_r (by first | decide | omega) (by first | decide | omega)
  | exact c_mul_l (by first | decide | omega) (by first | decide | omega)
  | exact c_div (by first | decide | omega) (by first | decide | omega)
  | exact c_pow (by first | decide | omega) (by first | decide | omega) (by first | decide | omega)
  | omega)
local macro_rules | `(tactic| walk_at "ne") => `(tactic| first
  | assumption
  | (refine Ne.symm ?_; assumption)
  | (refine' Flow.ne ?nh ?nn; (case nn => assumption); (case nh => walk_at "fl"))
  | (refine Ne.symm ?_; refine' Flow.ne ?nh ?nn; (case nn => assumption); (case nh => walk_at "fl"))
  | (refine' ne_of_none ?nh ?nn; (case nn => assumption); (case nh => walk_at "at"))
  | (refine Ne.symm ?_; refine' ne_of_none ?nh ?nn; (case nn => assumption); (case nh => walk_at "at")))
local macro_rules | `(tactic| walk_at "at") => `(tactic| first
  | assumption
  | (refine Same.up (by assumption) ?_; walk_at "at")
  | (refine Keep.up (by assumption) (by walk_at "ne") ?_; walk_at "at"))
local macro_rules | `(tactic| walk_at "fl") => `(tactic| first
  | assumption
  | (refine Flow.same (by assumption) ?_; walk_at "fl")
  | (refine Flow.keep (by assumption) (by walk_at "ne") ?_; walk_at "fl"))
local macro_rules | `(tactic| walk_at "fr") => `(tactic| first
  | assumption
  | (refine same_free (by assumption) ?_; walk_at "fr")
  | (refine Keep.free (by assumption) (by walk_at "ne") ?_; walk_at "fr"))
local macro_rules | `(tactic| walk_at "kp") => `(tactic| first
  | assumption
  | exact Keep.refl _ _
  | (refine Keep.trans ?_ (by assumption); walk_at "kp")
  | (refine Keep.trans ?_ (Keep.same (by assumption)); walk_at "kp"))
local macro_rules | `(tactic| walk_at "sm") => `(tactic| first
  | assumption
  | exact L2.Same.refl _
  | (refine L2.Same.trans ?_ (by assumption); walk_at "sm"))
local macro_rules | `(tactic| walk_at "sz") => `(tactic| first | exact Nat.le_of_ble_eq_true rfl | omega)
local macro_rules | `(tactic| walk_at "new") => `(tactic| (intro p np; generalize hE : upd _ p _ = H2; have s2 := new_same np hE; have h2 := new_at hE; clear hE))
local macro_rules | `(tactic| walk_at "newx") => `(tactic| (intro e d na nd hda; generalize hE : upd (upd _ d _) e _ = H2; have s2 := newx_same na nd hE; have h2 := newx_at hE; have h3 := newx_d hda hE; clear hE))
local macro_rules | `(tactic| walk_at "s1") => `(tactic| first
  | with_reducible refine s_seq ?_
  | with_reducible refine s_asg ?_
  | with_reducible refine s_name ?_
  | with_reducible refine s_ret ?_
  | with_reducible refine s_c ?_
  | ((with_reducible refine' s_var ?hv ?_); (case hv => rfl))
  | with_reducible refine s_op ?_
  | with_reducible refine s_un ?_
  | with_reducible refine s_ifS ?_
  | with_reducible refine s_cb ?_
  | with_reducible refine s_cons ?_
  | with_reducible refine s_nil ?_
  | with_reducible refine s_call ?_
  | with_reducible refine s_test ?_
  | with_reducible refine s_tB ?_
  | with_reducible refine s_bl ?_
  | with_reducible refine s_and ?_
  | with_reducible refine s_or ?_
  | with_reducible refine s_not ?_
  | with_reducible refine s_andV ?_
  | with_reducible refine s_orV ?_
  | with_reducible refine s_notV ?_
  | with_reducible refine s_blV ?_
  | with_reducible refine s_if ?_
  | with_reducible refine s_tup ?_
  | with_reducible refine s_lst ?_
  | with_reducible refine s_drop ?_
  | with_reducible refine s_next ?_
  | with_reducible refine s_sub ?_
  | with_reducible refine s_bm ?_
  | with_reducible refine s_callK ?_
  | with_reducible refine s_brk ?_
  | with_reducible refine s_cont ?_
  | with_reducible refine r_I0 ?_
  | with_reducible refine r_U ?_
  | with_reducible refine r_eqI ?_
  | with_reducible refine r_neI ?_
  | with_reducible refine r_isB ?_
  | with_reducible refine r_notB ?_
  | with_reducible refine i_t ?_
  | with_reducible refine i_f ?_
  | with_reducible refine i_nt ?_
  | with_reducible refine i_nf ?_
  | ((with_reducible refine' r_I ?hc ?_); (case hc => walk_at "cond"))
  | (with_reducible refine .inl ⟨_, rfl, ?_⟩)
  | (with_reducible refine ⟨_, rfl, ?_⟩)
  | ((with_reducible refine' r_ixL ?hx ?ha ?_); (case hx => walk_at "at"); (case ha => rfl))
  | ((with_reducible refine' r_ixT ?hx ?ha ?_); (case hx => walk_at "at"); (case ha => rfl))
  | ((with_reducible refine' r_setL ?hx ?ha ?_); (case hx => walk_at "at"); (case ha => rfl); intro H2 k2 h2; (try dsimp only [List.set, Int.toNat] at h2))
  | ((with_reducible refine' r_app ?hx ?hl ?_); (case hx => walk_at "at"); (case hl => first | exact Nat.lt_of_ble_eq_true rfl | omega); intro H2 k2 h2)
  | ((with_reducible refine' ty_list ?hx ?_); (case hx => walk_at "at"))
  | (refine And.intro (by (with_reducible show _ ≤ sizeLine); walk_at "sz") ?_; walk_at "new")
  | with_reducible refine s_exv ?_
  | walk_at "newx")
local macro_rules | `(tactic| walk_at "sx") => `(tactic| repeat (walk_at "s1"))
local macro_rules | `(tactic| walk_at "s2") => `(tactic| first
  | ((with_reducible refine' r_ixG ?hx ?hn ?_); (case hx => walk_at "at"); (case hn => omega))
  | ((with_reducible refine' r_ixGT ?hx ?hn ?_); (case hx => walk_at "at"); (case hn => omega))
  | (with_reducible refine ig_cons (fun hix => ?_) (fun hix => ?_))
  | ((with_reducible refine ig_nil ?_); omega)
  | ((with_reducible refine' i_T ?hc ?_); (case hc => omega))
  | ((with_reducible refine' i_F ?hc ?_); (case hc => omega))
  | (with_reducible refine i_2 (fun hc => ?_) (fun hc => ?_))
  | (with_reducible refine i_n2 (fun hc => ?_) (fun hc => ?_)))
local macro_rules | `(tactic| walk_at "go") => `(tactic| repeat' (first | walk_at "s1" | walk_at "s2"))

local macro_rules | `(tactic| walk_at "s1") => `(tactic| first
  | with_reducible refine s_chain ?_
  | with_reducible refine s_fldS ?_
  | with_reducible refine s_fld ?_
  | with_reducible refine s_dIn ?_
  | with_reducible refine s_dNotIn ?_
  | with_reducible refine s_sl ?_
  | with_reducible refine s_noPart ?_
  | with_reducible refine s_part ?_
  | with_reducible refine s_meth ?_
  | with_reducible refine s_make ?_)

local macro_rules | `(tactic| walk_at "s1") => `(tactic| first
  | with_reducible refine s_methK ?_
  | with_reducible refine s_mthS ?_)
theorem uL {k : Nat} {A : Around} (r : Room k A) : A.units < cLine := by
  have := r.units
  omega
section
variable {P : Program} {w : World} {K : PySem.W.Frag} {mg : Str → Option Value} {base : Heap} {A : Ad}
theorem c_make {C l : Addr} {n : Nat} {ks : List (Addr × List Int)} {H : Hp} {R : Addr → Hp → Prop} {E : XK} (hl : H l = some (.lst (ks.map rf))) (ne : ks ≠ []) (sz : ks.length < 64) (sn : n < 1000) (rows : RowsAt H n ks)
    (q : ∀ x H' ks', Same H H' → Of ks ks' → RuAt C H' x n ks' → R x H') : ∀ x dx, H x = none → H dx = none → dx ≠ x → spMake C (.ref x :: ([.int n, .ref l] ++ [])) (upd (upd H dx (.own x)) x (.ins C dx [])) (fun v H2 => v = .non ∧ R x H2) E := by
  intro x dx nx nd hd
  have s := newx_same (H := H) (a := x) (d := dx) (o := .ins C dx []) (u := .own x) nx nd rfl
  refine ⟨x, dx, l, n, ks, rfl, upd_same, s _ _ hl, ne, sz, sn, rows.same s, fun p hp e => ?_, fun H' ks' k o r => ⟨rfl, q x H' ks' (Keep.toSame s nx k) o r⟩⟩
  have z := (rows p hp).1
  rw [e, nx] at z
  cases z
/-- a list of rules made of the rows of numbers -/
def Rn (C : Addr) (H : Hp) (x : Addr) (n : Nat) (ns : List Nat) : Prop := ∃ ks, RuAt C H x n ks ∧ ks.map (·.2) = ns.map (bitsOf n)
theorem Rn.same {C : Addr} {H H' : Hp} {x : Addr} {n : Nat} {ns : List Nat} (e : Same H H') (h : Rn C H x n ns) : Rn C H' x n ns := by
  obtain ⟨ks, h1, h2⟩ := h
  exact ⟨ks, h1.same e, h2⟩
def fitN (n : Nat) (js ws : List Nat) (m : Nat) : Bool := fitB (bitsOf n m) js ws
theorem nums_fit {n : Nat} {ns : List Nat} {f : Nat → Bool} (N : Nums n ns) (ne : ns.filter f ≠ []) : Nums n (ns.filter f) :=
  ⟨N.asc.filter f, fun m hm => N.lt m (List.mem_filter.mp hm).1, ne, Nat.lt_of_le_of_lt (List.length_filter_le _ _) N.few⟩
theorem fit_map {n : Nat} {js ws : List Nat} : ∀ {ks : List (Addr × List Int)} {ns : List Nat}, ks.map (·.2) = ns.map (bitsOf n) → (ks.filter fun k => fitB k.2 js ws).map (·.2) = (ns.filter (fitN n js ws)).map (bitsOf n)
  | [], [], _ => rfl
  | [], _ :: _, h => by simp at h
  | _ :: _, [], h => by simp at h
  | k :: ks, m :: ns, h => by
    rw [List.map_cons, List.map_cons] at h
    obtain ⟨e1, e2⟩ := List.cons.inj h
    have ih := fit_map (js := js) (ws := ws) e2
    have e3 : fitB k.2 js ws = fitN n js ws m := by
      rw [e1]
      rfl
    rw [List.filter_cons, List.filter_cons, e3]
    cases fitN n js ws m
    · exact ih
    · show k.2 :: _ = bitsOf n m :: _
      rw [e1]
      congr 1
def spFitting (K : PySem.W.Frag) (C CI CU : Addr) : Sp := fun vs H Q E => ∃ (x : Addr) (v : V) (n : Nat) (ns : List Nat) (q : Option (List (Option (List V)))), vs = [.ref x, v] ∧ Rn C H x n ns ∧ Nums n ns ∧ n ≤ 8 ∧ VlOk K H v q ∧
  ((∀ js ws, ¬ Sh n q js ws) → ∀ e H', Same H H' → H' e = none → E (.ref CI) (some e) (upd H' e (.xd [("value", v)]))) ∧
  (∀ js ws, Sh n q js ws → ns.filter (fitN n js ws) = [] → ∀ e H', Same H H' → H' e = none → E (.ref CU) (some e) (upd H' e (.xd [("what", .str (Str.ofString "rules"))]))) ∧
  (∀ js ws, Sh n q js ws → ns.filter (fitN n js ws) ≠ [] → ∀ y H', Same H H' → Rn C H' y n (ns.filter (fitN n js ws)) → Q (.ref y) H')
theorem ok_fitting (T : Txt P K mg A) : FnOk P w K mg base (L2N.CX P w) 9 A.a_Rules__fitting A.d_Rules__fitting ["self", "shown"] (spFitting K A.c_Rules A.c_InvalidShown A.c_Undefined) := by
  refine T.F_Rules__fitting.okN sc_Rules__fitting (fun vs H Q E h => ?_) (fun cdv A' outer s H vs Q E hr h => ?_)
  · obtain ⟨x, v, n, ns, q, rfl, _⟩ := h
    rfl
  · obtain ⟨x, v, n, ns, q, rfl, ⟨ks, ru, ek⟩, N, sn, hv, k1, k2, k3⟩ := h
    have G_Rules__is_shown := ok_shown (w := w) (base := base) T
    have G_fits := ok_fits (w := w) (base := base) T
    have G_Rules____init__ := ok_make (w := w) (base := base) T
    obtain ⟨dx, t, kn, hx, ht0, hkn, rows, asc, ne, sz⟩ := id ru
    have ht : True → H t = some (.tup (ks.map rf)) := fun _ => ht0
    clear ht0
    refine ⟨_, (pss_cons (ps_if (pt_not (pt_val (pe_meth (pv 0) T.cl_Rules T.me_Rules_is_shown G_Rules__is_shown (hr.mono (by decide)) (B_Rules__is_shown T) .nil pass0 (pa_cons (pv 1) pa_nil)))) (pss_one (Sup_value.ps_raiseSupN rfl T.X_InvalidShown hr (L2N.takes_of rfl rfl rfl rfl) (pa_cons (pv 1) pa_nil))) pss_nil)
  (pss_cons (ps_setLc (i := 2) (own := [("row", 3)]) (g := (gName 3)) (by rfl) sc_Rules__fitting.nd rfl rfl (sw_true rfl rfl rfl (by decide +kernel)) (pi_tup (pe_fld (pv 0) rfl)) (blkOk_by (own := [("row", 3)]) (N := ["self", "shown", "rows", "row"]) (sc := defScope s_Rules__fitting) (by decide +kernel)) (fun _ _ _ _ _ => (pg_name (i := 3) sc_Rules__fitting.nd rfl (Or.inl rfl))) (fun _ _ _ _ _ => pts_one (pt_val (pe_call G_fits (hr.mono (by decide)) rfl T.g_fits T.F_fits.kp (B_fits T) .nil pass0 (pa_cons (pv 3) (pa_cons (pv 1) pa_nil))))) (fun _ _ _ _ _ => (pv 3)))
  (pss_cons (ps_if (pt_cmpR op_eq (pe_callB call_len (by rfl) T.n_len (by decide +kernel) (pa_cons (pv 2) pa_nil)) pe_int (nomark _)) (pss_one (Sup_what.ps_raiseSupN rfl T.X_Undefined hr (L2N.takes_of rfl rfl rfl rfl) (pa_cons pe_str pa_nil))) pss_nil)
  (pss_one (ps_ret (pe_make T.mk_Rules G_Rules____init__ (hr.mono (by decide)) rfl T.g_Rules (B_Rules____init__ T) .nil pass0 (pa_cons (pe_fld (pv 0) rfl) (pa_cons (pv 2) pa_nil)))))))), ?_⟩
    walk_at "sx"
    refine ⟨x, dx, _, rfl, hx, rfl, ?_⟩
    walk_at "sx"
    refine ⟨x, v, n, ks, q, rfl, ru, hv, fun js ws sh H1 s1 => ?_, fun no H1 s1 => ?_⟩
    rotate_left
    · walk_at "sx"
      exact ⟨_, rfl, _, rfl, fun e he => k1 no e H1 s1 he⟩
    obtain ⟨a, rfl, sa⟩ := sh_at hv sh
    walk_at "sx"
    have r1 : RowsAt H1 n ks := rows.same s1
    refine ⟨_, rfl, _, _, _, _, _, rfl, s1 _ _ hx, T.cl_Rules, T.no_Rules_rows, rfl, t, rfl, ⟨_, SqT.of (s1 _ _ (ht trivial))⟩, fun D hD => lc_tup (K := K) (a := t) (xs := ks.map rf) (fun i H' => Same H1 H' ∧ H' D = some (.lst (((ks.take i).filter fun k => fitB k.2 js ws).map rf))) ⟨Same.new hD, upd_same⟩ (fun i H' _ h => SqT.of (h.1 _ _ (s1 _ _ (ht trivial)))) ?_ ?_⟩
    · rintro i y H' hy ⟨s', hD'⟩
      obtain ⟨p, hp, rfl⟩ : ∃ p, ks[i]? = some p ∧ rf p = y := by
        rw [List.getElem?_map] at hy
        exact Option.map_eq_some_iff.mp hy
      have rp := r1 p (List.mem_of_getElem? hp)
      refine s_name ⟨rfl, ?_⟩
      walk_at "sx"
      refine ⟨p.1, a, n, p.2, js, ws, rfl, s' _ _ rp.1, rp.2, sa.same (s1.trans s'), fun H2 s2 => ?_⟩
      refine ⟨_, rfl, i_b2 (fun hb => ?_) (fun hb => ?_)⟩
      · walk_at "sx"
        refine ⟨_, s2 _ _ hD', ?_, Sx.Same.put (s'.trans s2) hD, ?_⟩
        · rw [List.length_map]
          exact Nat.lt_of_le_of_lt (List.length_filter_le _ _) (by rw [List.length_take]; exact Nat.lt_of_le_of_lt (Nat.min_le_right _ _) (by show ks.length < 16777216; omega))
        · rw [upd_same, List.take_succ, hp]
          simp [hb]
      · refine ⟨s'.trans s2, ?_⟩
        rw [s2 _ _ hD', List.take_succ, hp]
        simp [hb]
    · rintro H2 ⟨s2, hD2⟩
      rw [List.length_map, List.take_length] at hD2
      have em := fit_map (js := js) (ws := ws) ek
      have sub : ∀ p ∈ ks.filter (fun k => fitB k.2 js ws), p ∈ ks := fun p hp => (List.mem_filter.mp hp).1
      have ll : (ks.filter fun k => fitB k.2 js ws).length = (ns.filter (fitN n js ws)).length := by
        have := congrArg List.length em
        rw [List.length_map, List.length_map] at this
        exact this
      obtain ⟨fs, efs⟩ : ∃ fs, fs = ks.filter (fun k => fitB k.2 js ws) := ⟨_, rfl⟩
      rw [← efs] at hD2 em sub ll
      have hD2' : True → H2 D = some (.lst (fs.map rf)) := fun _ => hD2
      clear hD2
      have s02 := s1.trans s2
      walk_at "sx"
      refine ⟨_, _, rfl, .inl ⟨_, SqL.of (hD2' trivial), rfl⟩, ?_⟩
      walk_at "sx"
      rw [List.length_map]
      refine i_2 (fun c => ?_) (fun c => ?_)
      · have e0 : ns.filter (fitN n js ws) = [] := List.eq_nil_of_length_eq_zero (by rw [← ll]; omega)
        walk_at "sx"
        exact ⟨_, rfl, fun e he => k2 js ws sh e0 e H2 s02 he⟩
      · have ne0 : ns.filter (fitN n js ws) ≠ [] := fun z => c (by rw [ll, z]; rfl)
        have nf : fs ≠ [] := fun z => c (by rw [z]; rfl)
        have N' := nums_fit N ne0
        have lf : fs.length ≤ ks.length := by rw [efs]; exact List.length_filter_le _ _
        walk_at "sx"
        refine r_get rfl (s02 _ _ hx) T.cl_Rules T.no_Rules_size rfl ?_
        have mem : ∀ r, r ∈ fs.map (·.2) ↔ r ∈ (ns.filter (fitN n js ws)).map (bitsOf n) := fun r => by rw [em]
        repeat (first | exact c_make (hD2' trivial) nf (by omega) (by omega) (fun p hp => (rows.same s02) p (sub p hp)) (fun y H6 ks' s6 o ra => k3 js ws sh ne0 y H6 (s02.trans s6) ⟨ks', ra, of_nums N' mem o⟩) | walk_at "s1")
end
end K07

set_option Elab.async false
set_option linter.all false
set_option maxRecDepth 100000
set_option maxHeartbeats 4000000
namespace K07
open PySem L2 Sx
local macro_rules | `(tactic| walk_at "cond") => `(tactic| first
  | assumption
  | decide
  | exact c_mul_r (by first | decide | omega) (by first | decide | omega)
  | exact c_mul_l (by first | decide | omega) (by first | decide | omega)
  | exact c_div (by first | decide | omega) (by first | decide | omega)
  | exact c_pow (by first | decide | omega) (by first | decide | omega) (by first | decide | omega)
  | omega)
local macro_rules | `(tactic| walk_at "ne") => `(tactic| first
  | assumption
  | (refine Ne.symm ?_; assumption)
  | (refine' Flow.ne ?nh ?nn; (case nn => assumption); (case nh => walk_at "fl"))
  | (refine Ne.symm ?_; refine' Flow.ne ?nh ?nn; (case nn => assumption); (case nh => walk_at "fl"))
  | (refine' ne_of_none ?nh ?nn; (case nn => assumption); (case nh => walk_at "at"))
  | (refine Ne.symm ?_; refine' ne_of_none ?nh ?nn; (case nn => assumption); (case nh => walk_at "at")))
local macro_rules | `(tactic| walk_at "at") => `(tactic| first
  | assumption
  | (refine Same.up (by assumption) ?_; walk_at "at")
  | (refine Keep.up (by assumption) (by walk_at "ne") ?_; walk_at "at"))
local macro_rules | `(tactic| walk_at "fl") => `(tactic| first
  | assumption
  | (refine Flow.same (by assumption) ?_; walk_at "fl")
  | (refine Flow.keep (by assumption) (by walk_at "ne") ?_; walk_at "fl"))
local macro_rules | `(tactic| walk_at "fr") => `(tactic| first
  | assumption
  | (refine same_free (by assumption) ?_; walk_at "fr")
  | (refine Keep.free (by assumption) (by walk_at "ne") ?_; walk_at "fr"))
local macro_rules | `(tactic| walk_at "kp") => `(tactic| first
  | assumption
  | exact Keep.refl _ _
  | (refine Keep.trans ?_ (by assumption); walk_at "kp")
  | (refine Keep.trans ?_ (Keep.same (by assumption)); walk_at "kp"))
local macro_rules | `(tactic| walk_at "sm") => `(tactic| first
  | assumption
  | exact L2.Same.refl _
  | (refine L2.Same.trans ?_ (by assumption); walk_at "sm"))
local macro_rules | `(tactic| walk_at "sz") => `(tactic| first | exact Nat.le_of_ble_eq_true rfl | omega)
local macro_rules | `(tactic| walk_at "new") => `(tactic| (intro p np; generalize hE : upd _ p _ = H2; have s2 := new_same np hE; have h2 := new_at hE; clear hE))
local macro_rules | `(tactic| walk_at "newx") => `(tactic| (intro e d na nd hda; generalize hE : upd (upd _ d _) e _ = H2; have s2 := newx_same na nd hE; have h2 := newx_at hE; have h3 := newx_d hda hE; clear hE))
local macro_rules | `(tactic| walk_at "s1") => `(tactic| first
  | with_reducible refine s_seq ?_
  | with_reducible refine s_asg ?_
  | with_reducible refine s_name ?_
  | with_reducible refine s_ret ?_
  | with_reducible refine s_c ?_
  | ((with_reducible refine' s_var ?hv ?_); (case hv => rfl))
  | with_reducible refine s_op ?_
  | with_reducible refine s_un ?_
  | with_reducible refine s_ifS ?_
  | with_reducible refine s_cb ?_
  | with_reducible refine s_cons ?_
  | with_reducible refine s_nil ?_
  | with_reducible refine s_call ?_
  | with_reducible refine s_test ?_
  | with_reducible refine s_tB ?_
  | with_reducible refine s_bl ?_
  | with_reducible refine s_and ?_
  | with_reducible refine s_or ?_
  | with_reducible refine s_not ?_
  | with_reducible refine s_andV ?_
  | with_reducible refine s_orV ?_
  | with_reducible refine s_notV ?_
  | with_reducible refine s_blV ?_
  | with_reducible refine s_if ?_
  | with_reducible refine s_tup ?_
  | with_reducible refine s_lst ?_
  | with_reducible refine s_drop ?_
  | with_reducible refine s_next ?_
  | with_reducible refine s_sub ?_
  | with_reducible refine s_bm ?_
  | with_reducible refine s_callK ?_
  | with_reducible refine s_brk ?_
  | with_reducible refine s_cont ?_
  | with_reducible refine r_I0 ?_
  | with_reducible refine r_U ?_
  | with_reducible refine r_eqI ?_
  | with_reducible refine r_neI ?_
  | with_reducible refine r_isB ?_
  | with_reducible refine r_notB ?_
  | with_reducible refine i_t ?_
  | with_reducible refine i_f ?_
  | with_reducible refine i_nt ?_
  | with_reducible refine i_nf ?_
  | ((with_reducible refine' r_I ?hc ?_); (case hc => walk_at "cond"))
  | (with_reducible refine .inl ⟨_, rfl, ?_⟩)
  | (with_reducible refine ⟨_, rfl, ?_⟩)
  | ((with_reducible refine' r_ixL ?hx ?ha ?_); (case hx => walk_at "at"); (case ha => rfl))
  | ((with_reducible refine' r_ixT ?hx ?ha ?_); (case hx => walk_at "at"); (case ha => rfl))
  | ((with_reducible refine' r_setL ?hx ?ha ?_); (case hx => walk_at "at"); (case ha => rfl); intro H2 k2 h2; (try dsimp only [List.set, Int.toNat] at h2))
  | ((with_reducible refine' r_app ?hx ?hl ?_); (case hx => walk_at "at"); (case hl => first | exact Nat.lt_of_ble_eq_true rfl | omega); intro H2 k2 h2)
  | ((with_reducible refine' ty_list ?hx ?_); (case hx => walk_at "at"))
  | (refine And.intro (by (with_reducible show _ ≤ sizeLine); walk_at "sz") ?_; walk_at "new")
  | with_reducible refine s_exv ?_
  | walk_at "newx")
local macro_rules | `(tactic| walk_at "sx") => `(tactic| repeat (walk_at "s1"))
local macro_rules | `(tactic| walk_at "s2") => `(tactic| first
  | ((with_reducible refine' r_ixG ?hx ?hn ?_); (case hx => walk_at "at"); (case hn => omega))
  | ((with_reducible refine' r_ixGT ?hx ?hn ?_); (case hx => walk_at "at"); (case hn => omega))
  | (with_reducible refine ig_cons (fun hix => ?_) (fun hix => ?_))
  | ((with_reducible refine ig_nil ?_); omega)
  | ((with_reducible refine' i_T ?hc ?_); (case hc => omega))
  | ((with_reducible refine' i_F ?hc ?_); (case hc => omega))
  | (with_reducible refine i_2 (fun hc => ?_) (fun hc => ?_))
  | (with_reducible refine i_n2 (fun hc => ?_) (fun hc => ?_)))
local macro_rules | `(tactic| walk_at "go") => `(tactic| repeat' (first | walk_at "s1" | walk_at "s2"))

local macro_rules | `(tactic| walk_at "s1") => `(tactic| first
  | with_reducible refine s_chain ?_
  | with_reducible refine s_fldS ?_
  | with_reducible refine s_fld ?_
  | with_reducible refine s_dIn ?_
  | with_reducible refine s_dNotIn ?_
  | with_reducible refine s_sl ?_
  | with_reducible refine s_noPart ?_
  | with_reducible refine s_part ?_
  | with_reducible refine s_meth ?_
  | with_reducible refine s_make ?_)

section
variable {P : Program} {w : World} {K : PySem.W.Frag} {mg : Str → Option Value} {base : Heap} {A : Ad}
theorem ix10 {d : Int} (l : 0 ≤ d) (u : d < 10) : ∃ s : Nat, s ≤ 4 ∧ atI [V.int 4, .int 3, .int 2, .int 4, .int 3, .int 1, .int 4, .int 3, .int 2, .int 0] d = some (.int s) := by
  have h : d = 0 ∨ d = 1 ∨ d = 2 ∨ d = 3 ∨ d = 4 ∨ d = 5 ∨ d = 6 ∨ d = 7 ∨ d = 8 ∨ d = 9 := by omega
  rcases h with rfl | rfl | rfl | rfl | rfl | rfl | rfl | rfl | rfl | rfl
  · exact ⟨4, by decide, rfl⟩
  · exact ⟨3, by decide, rfl⟩
  · exact ⟨2, by decide, rfl⟩
  · exact ⟨4, by decide, rfl⟩
  · exact ⟨3, by decide, rfl⟩
  · exact ⟨1, by decide, rfl⟩
  · exact ⟨4, by decide, rfl⟩
  · exact ⟨3, by decide, rfl⟩
  · exact ⟨2, by decide, rfl⟩
  · exact ⟨0, by decide, rfl⟩
/-- the places of what is true, among the first i -/
def trues (bs : List Bool) (i : Nat) : List Nat := (List.range i).filter fun k => bs[k]? == some true
theorem trues_succ (bs : List Bool) (i : Nat) : trues bs (i + 1) = trues bs i ++ (if bs[i]? == some true then [i] else []) := by
  unfold trues
  rw [List.range_succ, List.filter_append, List.filter_cons, List.filter_nil]
theorem trues_le (bs : List Bool) (i : Nat) : (trues bs i).length ≤ i := by
  have := List.length_filter_le (fun k => bs[k]? == some true) (List.range i)
  rw [List.length_range] at this
  exact this
theorem trues_lt {bs : List Bool} {i x : Nat} (h : x ∈ trues bs i) : x < i := List.mem_range.mp (List.mem_filter.mp h).1
theorem trues_asc (bs : List Bool) (i : Nat) : (trues bs i).Pairwise (· < ·) := List.Pairwise.filter _ List.pairwise_lt_range
theorem trues_len (bs : List Bool) : ∀ i, (trues bs i).length = (bs.take i).count true
  | 0 => rfl
  | i + 1 => by
    rw [trues_succ, List.length_append, trues_len bs i, List.take_succ, List.count_append]
    cases h : bs[i]? with
    | none => simp
    | some b => cases b <;> simp
theorem count_set : ∀ (bs : List Bool) (e : Nat), (bs.set e true).count true ≤ bs.count true + 1
  | [], _ => by simp
  | b :: bs, 0 => by
    rw [List.set_cons_zero, List.count_cons, List.count_cons]
    simp
  | b :: bs, e + 1 => by
    rw [List.set_cons_succ, List.count_cons, List.count_cons]
    have := count_set bs e
    omega
theorem ix_in {n j : Nat} (h : j < n) : ixN n (j : Int) = some j := by
  unfold ixN
  rw [if_pos (Int.natCast_nonneg j), if_pos (by omega), Int.toNat_natCast]
theorem keep_new {a D : Addr} {H H8 H9 : Hp} (k : Keep a H H8) (n : H D = none) (k9 : Keep D H8 H9) : Keep a H H9 := fun b o hb h => k9 b o (ne_of_none h n) (k b o hb h)
/-- one bool more in the list at D -/
theorem bools_step {a D : Addr} {H H' H2 : Hp} {bs : List Bool} {b : Bool} {i : Nat} (hDa : a ≠ D) (hD : H D = none) (hD' : H' D = some (.lst (bs.map V.bl))) (F : Flow H2 a) (K' : Keep a H H') (K2 : Keep a H' H2) (lb : bs.length = i) (sz : i < 1000) :
    ∃ acc, H2 D = some (.lst acc) ∧ acc.length < sizeLine ∧ Flow (upd H2 D (.lst (acc ++ [V.bl b]))) a ∧ Keep a H (upd H2 D (.lst (acc ++ [V.bl b]))) ∧ ∃ bs' : List Bool, upd H2 D (.lst (acc ++ [V.bl b])) D = some (.lst (bs'.map V.bl)) ∧ bs'.length = i + 1 := by
  refine ⟨_, K2 _ _ hDa.symm hD', ?_, F.keep (put_keep rfl) hDa, keep_new (K'.trans K2) hD (put_keep rfl), bs ++ [b], ?_, ?_⟩
  · rw [List.length_map, lb]
    show i < 16777216
    omega
  · rw [upd_same, List.map_append]
    rfl
  · rw [List.length_append, lb]
    rfl
def spListed : Sp := fun vs H Q _ => ∃ a, vs = [.ref a] ∧ Flow H a ∧ ∀ (q l : Addr) (n : Nat) (ns : List Nat) (ls : List (Addr × List Int)) H', Flow H' a → Keep a H H' → H' q = some (.lst [.int n, .ref l]) → H' l = some (.lst (ls.map rf)) → RowsAt H' n ls → ls.map (·.2) = ns.map (bitsOf n) → Nums n ns → ns.length < 50 → n ≤ 8 → Q (.ref q) H'
theorem ix9 {n : Nat} (h : n ≤ 8) : atI [V.int 1, .int 2, .int 4, .int 8, .int 16, .int 32, .int 64, .int 128, .int 256] (n : Int) = some (.int (2 ^ n : Nat)) := by
  have hn : n = 0 ∨ n = 1 ∨ n = 2 ∨ n = 3 ∨ n = 4 ∨ n = 5 ∨ n = 6 ∨ n = 7 ∨ n = 8 := by omega
  rcases hn with rfl | rfl | rfl | rfl | rfl | rfl | rfl | rfl | rfl <;> rfl
theorem ok_listed (T : Txt P K mg A) : FnOk P w K mg base CX0 2 A.a__law_listed A.d__law_listed ["flow"] spListed := by
  refine T.F__law_listed.ok sc__law_listed (fun vs H Q E h => ?_) (fun cdv A' outer s H vs Q E hr h => ?_)
  · obtain ⟨a, rfl, _⟩ := h
    rfl
  · obtain ⟨a, rfl, hF, k⟩ := h
    have G__law_take := ok_take (w := w) (base := base) T
    have G__law_row := ok_rowOf (w := w) (base := base) T
    have fin2 : ∀ (n : Nat) (pn : Addr) (ns : List Nat) (H6 : Hp) (v2 v3 v4 v5 v7 : Option V), n ≤ 8 → Nums n ns → ns.length < 50 → Flow H6 a → Keep a H H6 → H6 pn = some (.lst (ns.map nv)) →
        (tRet (tLst (tCons (tVar 1) (tCons (tLc (iList K (tVar 6)) (gName 7) tYes (tCall spRowOf [] E0 (tCons (tVar 7) (tCons (tVar 1) tNil))) (List.map (fun x => x.snd) [(Str.ofString "number", 7)])) tNil))))
          { nx := fun _ H' => Q V.non H', rt := Q } [some (.ref a), some (.int n), v2, v3, v4, v5, some (.ref pn), v7] H6 := by
      intro n pn ns H6 v2 v3 v4 v5 v7 sn N few5 F6 K6 h6
      walk_at "sx"
      refine ⟨_, rfl, pn, rfl, ⟨_, SqL.of h6⟩, fun D hD => lc_list (K := K) (a := pn) (xs := ns.map nv) (fun i H' => Same H6 H' ∧ ∃ ls : List (Addr × List Int), H' D = some (.lst (ls.map rf)) ∧ RowsAt H' n ls ∧ ls.map (·.2) = (ns.take i).map (bitsOf n))
        ⟨Same.new hD, [], upd_same, rows_nil, rfl⟩ (fun i H' _ ⟨s, _⟩ => SqL.of (s _ _ h6)) ?_ ?_⟩
      · rintro i y H' hy ⟨s', ls, hD', rl, el⟩
        obtain ⟨m, hm, rfl⟩ : ∃ m, ns[i]? = some m ∧ nv m = y := by
          rw [List.getElem?_map] at hy
          exact Option.map_eq_some_iff.mp hy
        refine s_name ⟨rfl, ?_⟩
        refine s_yes (i_t ?_)
        walk_at "sx"
        refine ⟨m, n, rfl, by omega, fun p H2 s2 hp2 => ?_⟩
        exact rows_step hD hD' s' s2 rl hp2 (bitsOf_bits n m) (by
          have e := congrArg List.length el
          simp only [List.length_map, List.length_take] at e
          have := N.few
          omega) (by rw [el, List.take_succ, hm]; simp)
      · rintro H' ⟨s', ls, hD', rl, el⟩
        rw [List.length_map, List.take_length] at el
        walk_at "sx"
        rename_i p9 np9 H9 s9 h9
        exact k p9 D n ns ls H9 (F6.same (s'.trans s9)) (K6.trans (Keep.same (s'.trans s9))) h9 (s9 _ _ hD') (rl.same s9) el N few5 sn
    have fin : ∀ (n pp : Nat) (pk : Addr) (bs : List Bool) (H6 : Hp) (v2 v4 v6 v7 : Option V), n ≤ 8 → pp = 2 ^ n → bs.length = pp → bs.count true < 50 → Flow H6 a → Keep a H H6 → H6 pk = some (.lst (bs.map V.bl)) →
        (tSeq (tAsg (tLc (iRng1 (tCons (tVar 3) tNil)) (gName 4) (tB (tOp (rIx K) (tVar 5) (tVar 4))) (tVar 4) (List.map (fun x => x.snd) [(Str.ofString "k", 4)])) (gName 6))
          (tSeq (tIfS (tTest (tOp rEq (tCB (fun xs H_1 Q => ∃ x n, xs = [x] ∧ LenV K x H_1 n ∧ Q (V.int (n : Nat)) H_1) (tCons (tVar 6) tNil)) (tC (V.int 0))))
              (tAsg (tLst (tCons (tCall spTake [] E0 (tCons (tVar 0) (tCons (tVar 3) tNil))) tNil)) (gName 6)) tNext)
            (tRet (tLst (tCons (tVar 1) (tCons (tLc (iList K (tVar 6)) (gName 7) tYes (tCall spRowOf [] E0 (tCons (tVar 7) (tCons (tVar 1) tNil))) (List.map (fun x => x.snd) [(Str.ofString "number", 7)])) tNil)))))
          { nx := fun _ H' => Q V.non H', rt := Q }) [some (.ref a), some (.int n), v2, some (.int pp), v4, some (.ref pk), v6, v7] H6 := by
      intro n pp pk bs H6 v2 v4 v6 v7 sn epp lb cb F6 K6 h60
      have h6 : True → H6 pk = some (.lst (bs.map V.bl)) := fun _ => h60
      clear h60
      have p8 : pp ≤ 256 := by
        rw [epp]
        exact Nat.pow_le_pow_right (n := 2) (by decide) sn
      have p1 : 0 < pp := by
        rw [epp]
        exact Nat.pow_pos (by decide)
      walk_at "sx"
      refine ⟨_, rfl, _, rfl, by omega, by omega, fun D hD => lc_range (lo := 0) (n := pp) (fun i H' => Same H6 H' ∧ H' D = some (.lst ((trues bs i).map nv))) ⟨Same.new hD, upd_same⟩ ?_ ?_⟩
      · rintro i H' hi ⟨s', hD'⟩
        have hx : bs[i]? = some bs[i] := List.getElem?_eq_getElem (by omega)
        refine s_name ⟨rfl, ?_⟩
        walk_at "s1"
        walk_at "s1"
        refine s_var rfl ?_
        refine s_var rfl ?_
        refine r_ixL (s' _ _ (h6 trivial)) (v := .bl bs[i]) (by rw [Int.zero_add]; exact atI_nat (by rw [List.getElem?_map, hx]; rfl)) ?_
        refine ⟨_, rfl, ?_⟩
        refine i_b2 (fun hb => ?_) (fun hb => ?_)
        · refine s_var rfl ?_
          rw [Int.zero_add]
          refine ⟨_, hD', ?_, Sx.Same.put s' hD, ?_⟩
          · rw [List.length_map]
            have := trues_le bs i
            show (trues bs i).length < 16777216
            omega
          · rw [upd_same, trues_succ, hx, hb]
            simp
        · refine ⟨s', ?_⟩
          rw [hD', trues_succ, hx, hb]
          simp
      · rintro H' ⟨s', hD'⟩
        have F' := F6.same s'
        have K' : Keep a H H' := K6.trans (Keep.same s')
        walk_at "sx"
        refine ⟨_, _, rfl, .inl ⟨_, SqL.of hD', rfl⟩, ?_⟩
        walk_at "sx"
        refine i_2 (fun c => ?_) (fun c => ?_)
        · walk_at "sx"
          refine c_take F' (by omega) (by omega) (fun d H7 l7 u7 F7 K7 => ?_)
          obtain ⟨m, rfl⟩ := Int.eq_ofNat_of_zero_le l7
          refine s_nil ?_
          refine And.intro (by (with_reducible show _ ≤ sizeLine); walk_at "sz") ?_
          walk_at "new"
          rename_i p np H8 s2 h2
          refine s_name ?_
          exact fin2 n p [m] _ _ _ _ _ _ sn ⟨List.pairwise_singleton _ _, fun x hx => by rw [List.mem_singleton.mp hx, ← epp]; omega, by simp, by simp⟩ (by simp) (F7.same s2) (K'.trans (K7.trans (Keep.same s2))) h2
        · exact fin2 n D _ H' _ _ _ _ _ sn ⟨trues_asc bs _, fun x hx => by rw [← epp]; exact trues_lt hx, fun e => c (by rw [e]; rfl), by rw [trues_len, ← lb, List.take_length]; omega⟩ (by rw [trues_len, ← lb, List.take_length]; exact cb) F' K' hD'
    refine ⟨_, (pss_cons (ps_set (i := 1) sc__law_listed.nd rfl (Or.inr rfl) (pe_ix ix_seq (pe_lst (pa_cons pe_int (pa_cons pe_int (pa_cons pe_int (pa_cons pe_int (pa_cons pe_int (pa_cons pe_int (pa_cons pe_int (pa_cons pe_int (pa_cons pe_int (pa_cons pe_int pa_nil))))))))))) (pe_call G__law_take (hr.mono (by decide)) rfl T.g__law_take T.F__law_take.kp (B__law_take T) .nil pass0 (pa_cons (pv 0) (pa_cons pe_int pa_nil))) (fun _ _ => rfl)))
  (pss_cons (ps_set (i := 2) sc__law_listed.nd rfl (Or.inl rfl) (pe_call G__law_take (hr.mono (by decide)) rfl T.g__law_take T.F__law_take.kp (B__law_take T) .nil pass0 (pa_cons (pv 0) (pa_cons pe_int pa_nil))))
  (pss_cons (ps_if (pt_cmpR op_eq (pv 2) pe_int (nomark _)) (pss_one (ps_set (i := 1) sc__law_listed.nd rfl (Or.inr rfl) (pe_op op_add pe_int (pe_call G__law_take (hr.mono (by decide)) rfl T.g__law_take T.F__law_take.kp (B__law_take T) .nil pass0 (pa_cons (pv 0) (pa_cons pe_int pa_nil)))))) pss_nil)
  (pss_cons (ps_set (i := 3) sc__law_listed.nd rfl (Or.inl rfl) (pe_ix ix_seq (pe_lst (pa_cons pe_int (pa_cons pe_int (pa_cons pe_int (pa_cons pe_int (pa_cons pe_int (pa_cons pe_int (pa_cons pe_int (pa_cons pe_int (pa_cons pe_int pa_nil)))))))))) (pv 1) (fun _ _ => rfl)))
  (pss_cons (ps_set (i := 5) sc__law_listed.nd rfl (Or.inr rfl) (pe_lc (own := [("k", 4)]) (g := (gName 4)) (by rfl) sc__law_listed.nd (pi_range1 rfl T.n_range (pa_cons (pv 3) pa_nil)) (blkOk_by (own := [("k", 4)]) (N := ["flow", "size", "shape", "full", "k", "kept", "numbers", "number"]) (sc := defScope s__law_listed) (by decide +kernel)) (fun _ _ _ _ _ => (pg_name (i := 4) sc__law_listed.nd rfl (Or.inl rfl))) (fun _ _ _ _ _ => pts_nil) (fun _ _ _ _ _ => pe_bl)))
  (pss_cons (ps_if (pt_cmpR op_eq (pv 2) pe_int (nomark _)) (pss_one (ps_for PassesOwn.never rfl (pi_range1 rfl T.n_range (pa_cons (pe_op op_add pe_int (pe_call G__law_take (hr.mono (by decide)) rfl T.g__law_take T.F__law_take.kp (B__law_take T) .nil pass0 (pa_cons (pv 0) (pa_cons pe_int pa_nil)))) pa_nil)) (pg_name (i := 4) sc__law_listed.nd rfl (Or.inl rfl))
  (pss_one (ps_asg pe_bl (pg_sub (pv 5) (pe_call G__law_take (hr.mono (by decide)) rfl T.g__law_take T.F__law_take.kp (B__law_take T) .nil pass0 (pa_cons (pv 0) (pa_cons (pv 3) pa_nil))) set_list))))) (pss_one (ps_if (pt_cmpR op_eq (pv 2) pe_int (nomark _)) (pss_one (ps_set (i := 5) sc__law_listed.nd rfl (Or.inr rfl) (pe_lc (own := [("k", 4)]) (g := (gName 4)) (by rfl) sc__law_listed.nd (pi_range1 rfl T.n_range (pa_cons (pv 3) pa_nil)) (blkOk_by (own := [("k", 4)]) (N := ["flow", "size", "shape", "full", "k", "kept", "numbers", "number"]) (sc := defScope s__law_listed) (by decide +kernel)) (fun _ _ _ _ _ => (pg_name (i := 4) sc__law_listed.nd rfl (Or.inl rfl))) (fun _ _ _ _ _ => pts_nil) (fun _ _ _ _ _ => pe_bl)))) (pss_one (ps_set (i := 5) sc__law_listed.nd rfl (Or.inr rfl) (pe_lc (own := [("k", 4)]) (g := (gName 4)) (by rfl) sc__law_listed.nd (pi_range1 rfl T.n_range (pa_cons (pv 3) pa_nil)) (blkOk_by (own := [("k", 4)]) (N := ["flow", "size", "shape", "full", "k", "kept", "numbers", "number"]) (sc := defScope s__law_listed) (by decide +kernel)) (fun _ _ _ _ _ => (pg_name (i := 4) sc__law_listed.nd rfl (Or.inl rfl))) (fun _ _ _ _ _ => pts_nil) (fun _ _ _ _ _ => (pe_cmpR op_eq (pe_call G__law_take (hr.mono (by decide)) rfl T.g__law_take T.F__law_take.kp (B__law_take T) .nil pass0 (pa_cons (pv 0) (pa_cons pe_int pa_nil))) pe_int (nomark _)))))))))
  (pss_cons (ps_setLc (i := 6) (own := [("k", 4)]) (g := (gName 4)) (by rfl) sc__law_listed.nd rfl rfl (sw_true rfl rfl rfl (by decide +kernel)) (pi_range1 rfl T.n_range (pa_cons (pv 3) pa_nil)) (blkOk_by (own := [("k", 4)]) (N := ["flow", "size", "shape", "full", "k", "kept", "numbers", "number"]) (sc := defScope s__law_listed) (by decide +kernel)) (fun _ _ _ _ _ => (pg_name (i := 4) sc__law_listed.nd rfl (Or.inl rfl))) (fun _ _ _ _ _ => pts_one (pt_val (pe_ix (r := rIx K) ix_seq (pv 5) (pv 4) (fun _ _ => rfl)))) (fun _ _ _ _ _ => (pv 4)))
  (pss_cons (ps_if (pt_cmpR op_eq (pe_callB call_len (by rfl) T.n_len (by decide +kernel) (pa_cons (pv 6) pa_nil)) pe_int (nomark _)) (pss_one (ps_set (i := 6) sc__law_listed.nd rfl (Or.inl rfl) (pe_lst (pa_cons (pe_call G__law_take (hr.mono (by decide)) rfl T.g__law_take T.F__law_take.kp (B__law_take T) .nil pass0 (pa_cons (pv 0) (pa_cons (pv 3) pa_nil))) pa_nil)))) pss_nil)
  (pss_one (ps_ret (pe_lst (pa_cons (pv 1) (pa_cons (pe_lc (own := [("number", 7)]) (g := (gName 7)) (by rfl) sc__law_listed.nd (pi_list (pv 6)) (blkOk_by (own := [("number", 7)]) (N := ["flow", "size", "shape", "full", "k", "kept", "numbers", "number"]) (sc := defScope s__law_listed) (by decide +kernel)) (fun _ _ _ _ _ => (pg_name (i := 7) sc__law_listed.nd rfl (Or.inl rfl))) (fun _ _ _ _ _ => pts_nil) (fun _ _ _ _ _ => (pe_call G__law_row (hr.mono (by decide)) rfl T.g__law_row T.F__law_row.kp (B__law_row T) .nil pass0 (pa_cons (pv 7) (pa_cons (pv 1) pa_nil))))) pa_nil))))))))))))), ?_⟩
    walk_at "sx"
    rename_i p2 np2 H2 s2 h2
    refine c_take (hF.same s2) (by decide) (by decide) (fun d1 H3 l1 u1 F3 K3 => ?_)
    obtain ⟨z, hz, ez⟩ := ix10 l1 u1
    have h3 := K3 p2 _ (hF.ne np2).symm h2
    refine r_ixL h3 ez ?_
    have K03 : Keep a H H3 := (Keep.same s2).trans K3
    clear h2 h3
    walk_at "sx"
    refine c_take F3 (by decide) (by decide) (fun d2 H4 l2 u2 F4 K4 => ?_)
    have K04 : Keep a H H4 := K03.trans K4
    walk_at "sx"
    refine i_2 (fun c1 => ?_) (fun c1 => ?_)
    · walk_at "sx"
      refine c_take F4 (by decide) (by decide) (fun d4 H5 l4 u4 F5 K5 => ?_)
      obtain ⟨m, rfl⟩ := Int.eq_ofNat_of_zero_le l4
      have e5 : (5 : Int) + (m : Int) = ((5 + m : Nat) : Int) := by omega
      have K05 : Keep a H H5 := K04.trans K5
      obtain ⟨n, hn⟩ : ∃ n, n = 5 + m := ⟨_, rfl⟩
      have sn : n ≤ 8 := by omega
      obtain ⟨pp, epp⟩ : ∃ pp, pp = 2 ^ n := ⟨_, rfl⟩
      have p8 : pp ≤ 256 := by
        rw [epp]
        exact Nat.pow_le_pow_right (n := 2) (by decide) sn
      have p1 : 0 < pp := by
        rw [epp]
        exact Nat.pow_pos (by decide)
      refine r_I0 ?_
      rw [e5, ← hn]
      walk_at "sx"
      rename_i p6 np6 H6 s6 h6
      refine r_ixL h6 (ix9 sn) ?_
      rw [← epp]
      clear h6
      have F5' := F5.same s6
      have K5' : Keep a H H6 := K05.trans (Keep.same s6)
      walk_at "sx"
      refine ⟨_, rfl, _, rfl, by omega, by omega, fun D hD => lc_range (lo := 0) (n := pp) (fun i H' => Same H6 H' ∧ H' D = some (.lst ((List.replicate i false).map V.bl))) ⟨Same.new hD, upd_same⟩ ?_ ?_⟩
      · rintro i H' hi ⟨s', hD'⟩
        refine s_name ⟨rfl, ?_⟩
        refine s_yes (i_t ?_)
        refine s_c ⟨_, hD', ?_, Sx.Same.put s' hD, ?_⟩
        · rw [List.length_map, List.length_replicate]
          show i < 16777216
          omega
        · rw [upd_same, List.replicate_succ', List.map_append]
          rfl
      rintro H' ⟨s', hD'⟩
      have hDa : a ≠ D := (F5').ne hD
      have F6 : Flow H' a := (F5').same s'
      have K6 : Keep a H H' := (K5').trans (Keep.same s')
      have hD0 : H D = none := Keep.free K5' hDa.symm hD
      have hDt : True → H' D = some (.lst ((List.replicate pp false).map V.bl)) := fun _ => hD'
      clear hD'
      walk_at "sx"
      refine i_T c1 ?_
      unfold tFor iRng1
      walk_at "sx"
      refine c_take F6 (by decide) (by decide) (fun d6 H7 l6 u6 F7 K7 => ?_)
      obtain ⟨c, rfl⟩ := Int.eq_ofNat_of_zero_le l6
      walk_at "sx"
      refine ⟨by omega, by omega, for_range (lo := 0) (n := 1 + c) (fun i σ H8 => Flow H8 a ∧ Keep a H H8 ∧ (∃ bs : List Bool, (True → H8 D = some (.lst (bs.map V.bl))) ∧ bs.length = pp ∧ bs.count true ≤ i) ∧ ∃ v4, σ = [some (.ref a), some (.int n), some (.int d2), some (.int pp), v4, some (.ref D), none, none]) ?_ ?_ ?_⟩
      · exact ⟨F7, K6.trans K7, ⟨_, fun _ => K7 _ _ hDa.symm (hDt trivial), List.length_replicate, by rw [List.count_replicate]; simp⟩, none, rfl⟩
      · rintro i σ H8 hi ⟨F8, K8, ⟨bs, hb, lb, cb⟩, v4, rfl⟩
        walk_at "sx"
        refine c_take F8 (by omega) (by omega) (fun d8 H9 l8 u8 F9 K9 => ?_)
        obtain ⟨e, rfl⟩ := Int.eq_ofNat_of_zero_le l8
        have h9 := K9 _ _ hDa.symm (hb trivial)
        have he : e < bs.length := by omega
        refine r_setL h9 (ix_in (by rw [List.length_map]; exact he)) (fun H10 k10 h10 => ?_)
        exact ⟨F9.keep k10 hDa, keep_new (K8.trans K9) hD0 k10, ⟨bs.set e true, fun _ => by rw [h10, List.map_set], by rw [List.length_set]; exact lb, Nat.le_trans (count_set bs e) (by omega)⟩, _, rfl⟩
      · rintro σ H8 ⟨F8, K8, ⟨bs, hb, lb, cb⟩, v4, rfl⟩
        exact fin n pp D bs H8 _ _ _ _ sn epp lb (by omega) F8 K8 (hb trivial)
    · walk_at "sx"
      obtain ⟨pp, epp⟩ : ∃ pp, pp = 2 ^ z := ⟨_, rfl⟩
      have p8 : pp ≤ 16 := by
        rw [epp]
        exact Nat.pow_le_pow_right (n := 2) (by decide) (show z ≤ 4 by omega)
      have p1 : 0 < pp := by
        rw [epp]
        exact Nat.pow_pos (by decide)
      rename_i p6 np6 H6 s6 h6
      refine r_ixL h6 (ix9 (by omega)) ?_
      rw [← epp]
      clear h6
      have F5' := F4.same s6
      have K5' : Keep a H H6 := K04.trans (Keep.same s6)
      walk_at "sx"
      refine ⟨_, rfl, _, rfl, by omega, by omega, fun D hD => lc_range (lo := 0) (n := pp) (fun i H' => Same H6 H' ∧ H' D = some (.lst ((List.replicate i false).map V.bl))) ⟨Same.new hD, upd_same⟩ ?_ ?_⟩
      · rintro i H' hi ⟨s', hD'⟩
        refine s_name ⟨rfl, ?_⟩
        refine s_yes (i_t ?_)
        refine s_c ⟨_, hD', ?_, Sx.Same.put s' hD, ?_⟩
        · rw [List.length_map, List.length_replicate]
          show i < 16777216
          omega
        · rw [upd_same, List.replicate_succ', List.map_append]
          rfl
      rintro H' ⟨s', hD'⟩
      have hDa : a ≠ D := (F5').ne hD
      have F6 : Flow H' a := (F5').same s'
      have K6 : Keep a H H' := (K5').trans (Keep.same s')
      have hD0 : H D = none := Keep.free K5' hDa.symm hD
      have hDt : True → H' D = some (.lst ((List.replicate pp false).map V.bl)) := fun _ => hD'
      clear hD'
      walk_at "sx"
      refine i_F c1 ?_
      walk_at "sx"
      refine i_2 (fun c2 => ?_) (fun c2 => ?_)
      · refine s_asg ?_
        walk_at "sx"
        refine ⟨_, rfl, _, rfl, by omega, by omega, fun D' hD' => lc_range (lo := 0) (n := pp) (fun i H9 => Same H' H9 ∧ H9 D' = some (.lst ((List.replicate i true).map V.bl))) ⟨Same.new hD', upd_same⟩ ?_ ?_⟩
        · rintro i H9 hi ⟨s9, h9⟩
          refine s_name ⟨rfl, ?_⟩
          refine s_yes (i_t ?_)
          refine s_c ⟨_, h9, ?_, Sx.Same.put s9 hD', ?_⟩
          · rw [List.length_map, List.length_replicate]
            show i < 16777216
            omega
          · rw [upd_same, List.replicate_succ', List.map_append]
            rfl
        · rintro H9 ⟨s9, h9⟩
          refine s_name ?_
          exact fin z pp D' _ H9 _ _ _ _ (by omega) epp List.length_replicate (by rw [List.count_replicate]; simp; omega) (F6.same s9) (K6.trans (Keep.same s9)) h9
      · walk_at "sx"
        refine ⟨_, rfl, _, rfl, by omega, by omega, fun D' hD' => lc_range (lo := 0) (n := pp) (fun i H9 => Flow H9 a ∧ Keep a H H9 ∧ ∃ bs : List Bool, H9 D' = some (.lst (bs.map V.bl)) ∧ bs.length = i) ?_ ?_ ?_⟩
        · exact ⟨F6.same (Same.new hD'), K6.trans (Keep.same (Same.new hD')), [], upd_same, rfl⟩
        · rintro i H9 hi ⟨F9, K9, bs, h9, lb⟩
          have hDa' : a ≠ D' := F6.ne hD'
          have hD0' : H D' = none := Keep.free K6 hDa'.symm hD'
          refine s_name ⟨rfl, ?_⟩
          refine s_yes (i_t ?_)
          walk_at "sx"
          refine c_take F9 (by omega) (by omega) (fun e1 H10 l10 u10 F10 K10 => ?_)
          walk_at "sx"
          exact bools_step hDa' hD0' h9 F10 K9 K10 lb (by omega)
        · rintro H9 ⟨F9, K9, bs, h9, lb⟩
          refine s_name ?_
          exact fin z pp D' bs H9 _ _ _ _ (by omega) epp lb (by have := List.count_le_length (a := true) (l := bs); omega) F9 K9 h9
end
end K07

set_option Elab.async false
set_option linter.all false
set_option maxRecDepth 100000
set_option maxHeartbeats 4000000
namespace K07
open PySem L2 Sx
local macro_rules | `(tactic| walk_at "cond") => `(tactic| first
  | assumption
  | decide
  | exact c_mul_r (by first | decide | omega) (by first | decide | omega)
  | exact c_mul_l (by first | decide | omega) (by first | decide | omega)
  | exact c_div (by first | decide | omega) (by first | decide | omega)
  | exact c_pow (by first | decide | omega) (by first | decide | omega) (by first | decide | omega)
  | omega)
local macro_rules | `(tactic| walk_at "ne") => `(tactic| first
  | assumption
  | (refine Ne.symm ?_; assumption)
  | (refine' Flow.ne ?nh ?nn; (case nn => assumption); (case nh => walk_at "fl"))
  | (refine Ne.symm ?_; refine' Flow.ne ?nh ?nn; (case nn => assumption); (case nh => walk_at "fl"))
  | (refine' ne_of_none ?nh ?nn; (case nn => assumption); (case nh => walk_at "at"))
  | (refine Ne.symm ?_; refine' ne_of_none ?nh ?nn; (case nn => assumption); (case nh => walk_at "at")))
local macro_rules | `(tactic| walk_at "at") => `(tactic| first
  | assumption
  | (refine Same.up (by assumption) ?_; walk_at "at")
  | (refine Keep.up (by assumption) (by walk_at "ne") ?_; walk_at "at"))
local macro_rules | `(tactic| walk_at "fl") => `(tactic| first
  | assumption
  | (refine Flow.same (by assumption) ?_; walk_at "fl")
  | (refine Flow.keep (by assumption) (by walk_at "ne") ?_; walk_at "fl"))
local macro_rules | `(tactic| walk_at "fr") => `(tactic| first
  | assumption
  | (refine same_free (by assumption) ?_; walk_at "fr")
  | (refine Keep.free (by assumption) (by walk_at "ne") ?_; walk_at "fr"))
local macro_rules | `(tactic| walk_at "kp") => `(tactic| first
  | assumption
  | exact Keep.refl _ _
  | (refine Keep.trans ?_ (by assumption); walk_at "kp")
  | (refine Keep.trans ?_ (Keep.same (by assumption)); walk_at "kp"))
local macro_rules | `(tactic| walk_at "sm") => `(tactic| first
  | assumption
  | exact L2.Same.refl _
  | (refine L2.Same.trans ?_ (by assumption); walk_at "sm"))
local macro_rules | `(tactic| walk_at "sz") => `(tactic| first | exact Nat.le_of_ble_eq_true rfl | omega)
local macro_rules | `(tactic| walk_at "new") => `(tactic| (intro p np; generalize hE : upd _ p _ = H2; have s2 := new_same np hE; have h2 := new_at hE; clear hE))
local macro_rules | `(tactic| walk_at "newx") => `(tactic| (intro e d na nd hda; generalize hE : upd (upd _ d _) e _ = H2; have s2 := newx_same na nd hE; have h2 := newx_at hE; have h3 := newx_d hda hE; clear hE))
local macro_rules | `(tactic| walk_at "s1") => `(tactic| first
  | with_reducible refine s_seq ?_
  | with_reducible refine s_asg ?_
  | with_reducible refine s_name ?_
  | with_reducible refine s_ret ?_
  | with_reducible refine s_c ?_
  | ((with_reducible refine' s_var ?hv ?_); (case hv => rfl))
  | with_reducible refine s_op ?_
  | with_reducible refine s_un ?_
  | with_reducible refine s_ifS ?_
  | with_reducible refine s_cb ?_
  | with_reducible refine s_cons ?_
  | with_reducible refine s_nil ?_
  | with_reducible refine s_call ?_
  | with_reducible refine s_test ?_
  | with_reducible refine s_tB ?_
  | with_reducible refine s_bl ?_
  | with_reducible refine s_and ?_
  | with_reducible refine s_or ?_
  | with_reducible refine s_not ?_
  | with_reducible refine s_andV ?_
  | with_reducible refine s_orV ?_
  | with_reducible refine s_notV ?_
  | with_reducible refine s_blV ?_
  | with_reducible refine s_if ?_
  | with_reducible refine s_tup ?_
  | with_reducible refine s_lst ?_
  | with_reducible refine s_drop ?_
  | with_reducible refine s_next ?_
  | with_reducible refine s_sub ?_
  | with_reducible refine s_bm ?_
  | with_reducible refine s_callK ?_
  | with_reducible refine s_brk ?_
  | with_reducible refine s_cont ?_
  | with_reducible refine r_I0 ?_
  | with_reducible refine r_U ?_
  | with_reducible refine r_eqI ?_
  | with_reducible refine r_neI ?_
  | with_reducible refine r_isB ?_
  | with_reducible refine r_notB ?_
  | with_reducible refine i_t ?_
  | with_reducible refine i_f ?_
  | with_reducible refine i_nt ?_
  | with_reducible refine i_nf ?_
  | ((with_reducible refine' r_I ?hc ?_); (case hc => walk_at "cond"))
  | (with_reducible refine .inl ⟨_, rfl, ?_⟩)
  | (with_reducible refine ⟨_, rfl, ?_⟩)
  | ((with_reducible refine' r_ixL ?hx ?ha ?_); (case hx => walk_at "at"); (case ha => rfl))
  | ((with_reducible refine' r_ixT ?hx ?ha ?_); (case hx => walk_at "at"); (case ha => rfl))
  | ((with_reducible refine' r_setL ?hx ?ha ?_); (case hx => walk_at "at"); (case ha => rfl); intro H2 k2 h2; (try dsimp only [List.set, Int.toNat] at h2))
  | ((with_reducible refine' r_app ?hx ?hl ?_); (case hx => walk_at "at"); (case hl => first | exact Nat.lt_of_ble_eq_true rfl | omega); intro H2 k2 h2)
  | ((with_reducible refine' ty_list ?hx ?_); (case hx => walk_at "at"))
  | (refine And.intro (by (with_reducible show _ ≤ sizeLine); walk_at "sz") ?_; walk_at "new")
  | with_reducible refine s_exv ?_
  | walk_at "newx")
local macro_rules | `(tactic| walk_at "sx") => `(tactic| repeat (walk_at "s1"))
local macro_rules | `(tactic| walk_at "s2") => `(tactic| first
  | ((with_reducible refine' r_ixG ?hx ?hn ?_); (case hx => walk_at "at"); (case hn => omega))
  | ((with_reducible refine' r_ixGT ?hx ?hn ?_); (case hx => walk_at "at"); (case hn => omega))
  | (with_reducible refine ig_cons (fun hix => ?_) (fun hix => ?_))
  | ((with_reducible refine ig_nil ?_); omega)
  | ((with_reducible refine' i_T ?hc ?_); (case hc => omega))
  | ((with_reducible refine' i_F ?hc ?_); (case hc => omega))
  | (with_reducible refine i_2 (fun hc => ?_) (fun hc => ?_))
  | (with_reducible refine i_n2 (fun hc => ?_) (fun hc => ?_)))
local macro_rules | `(tactic| walk_at "go") => `(tactic| repeat' (first | walk_at "s1" | walk_at "s2"))

local macro_rules | `(tactic| walk_at "s1") => `(tactic| first
  | with_reducible refine s_chain ?_
  | with_reducible refine s_fldS ?_
  | with_reducible refine s_fld ?_
  | with_reducible refine s_dIn ?_
  | with_reducible refine s_dNotIn ?_
  | with_reducible refine s_sl ?_
  | with_reducible refine s_noPart ?_
  | with_reducible refine s_part ?_
  | with_reducible refine s_meth ?_
  | with_reducible refine s_make ?_)

section
variable {P : Program} {w : World} {K : PySem.W.Frag} {mg : Str → Option Value} {base : Heap} {A : Ad}
theorem al_rows {H : Hp} {n : Nat} {t u : Addr} {ks ls : List (Addr × List Int)} (ht : H t = some (.tup (ks.map rf))) (hu : H u = some (.tup (ls.map rf))) (rk : RowsAt H n ks) (rl : RowsAt H n ls) (e : ks.map (·.2) = ls.map (·.2)) (sz : ls.length < 1000) (sn : n < 1000) : Al H 2 (.ref t) (.ref u) := by
  have le := congrArg List.length e
  rw [List.length_map, List.length_map] at le
  refine .tup ht hu (by rw [List.length_map, List.length_map, le]) (by rw [List.length_map]; exact sz) fun i x y hx hy => ?_
  rw [List.getElem?_map] at hx hy
  obtain ⟨p, hp, rfl⟩ := Option.map_eq_some_iff.mp hx
  obtain ⟨q, hq, rfl⟩ := Option.map_eq_some_iff.mp hy
  have e2 : p.2 = q.2 := by
    have z := congrArg (fun l => l[i]?) e
    simp only [List.getElem?_map, hp, hq, Option.map_some] at z
    injection z
  have a := (rk p (List.mem_of_getElem? hp)).1
  have b := rl q (List.mem_of_getElem? hq)
  rw [e2] at a
  exact al_ints a b.1 (by rw [b.2.1]; exact sn)
theorem al_kn {H : Hp} {d : Nat} {x y : V} (h : Al H d x y) : Kn K H All x := by
  cases h with
  | non => exact .non
  | bl b => exact .bl b
  | int i => exact .int i
  | str s => exact .str s
  | tup hp _ _ _ _ => exact .tup hp trivial
  | lst hp _ _ _ _ => exact .lst hp trivial
theorem al_ni {H : Hp} {d : Nat} {x y : V} (h : Al H d x y) : NI K H x := ni_kn (al_kn h)
theorem al_pt {H : Hp} {d : Nat} {x y : V} (h : Al H d x y) : ∃ p, PtOk K H x p := by
  cases h with
  | non => exact ⟨none, .inl ⟨rfl, in_tK (al_kn (K := K) (.non (H := H) (d := 0)))⟩⟩
  | bl b => exact ⟨none, .inl ⟨rfl, in_tK (al_kn (K := K) (.bl (H := H) (d := 0) b))⟩⟩
  | int i => exact ⟨none, .inl ⟨rfl, in_tK (al_kn (K := K) (.int (H := H) (d := 0) i))⟩⟩
  | str s => exact ⟨none, .inl ⟨rfl, in_tK (al_kn (K := K) (.str (H := H) (d := 0) s))⟩⟩
  | lst hp _ _ _ _ => exact ⟨none, .inl ⟨rfl, in_lst_t hp⟩⟩
  | tup hp hq l sz a =>
    refine ⟨some _, .inr ⟨_, _, rfl, rfl, hp, fun x hx => ?_, by omega⟩⟩
    obtain ⟨i, hi⟩ := List.mem_iff_getElem?.mp hx
    obtain ⟨y, hy⟩ : ∃ y, (_ : List V)[i]? = some y := ⟨_, List.getElem?_eq_getElem (by rw [← l]; exact (List.getElem?_eq_some_iff.mp hi).1)⟩
    exact al_ni (a i x y hi hy)
theorem zip_of {H : Hp} : ∀ xs : List V, (∀ x ∈ xs, ∃ p, PtOk K H x p) → ∃ zs : List (V × Option (List V)), zs.map (·.1) = xs ∧ ∀ z ∈ zs, PtOk K H z.1 z.2
  | [], _ => ⟨[], rfl, fun z hz => nomatch hz⟩
  | x :: xs, h => by
    obtain ⟨zs, e, m⟩ := zip_of xs fun y hy => h y (List.mem_cons_of_mem _ hy)
    obtain ⟨p, hp⟩ := h x List.mem_cons_self
    refine ⟨(x, p) :: zs, by rw [List.map_cons, e], fun z hz => ?_⟩
    rcases List.mem_cons.mp hz with rfl | hz
    · exact hp
    · exact m z hz
/-- an alike value is a value one may ask of -/
theorem al_vl {H : Hp} {d : Nat} {x y : V} (h : Al H d x y) : ∃ q, VlOk K H x q := by
  cases h with
  | non => exact ⟨none, .inl ⟨rfl, in_tK (al_kn (K := K) (.non (H := H) (d := 0)))⟩⟩
  | bl b => exact ⟨none, .inl ⟨rfl, in_tK (al_kn (K := K) (.bl (H := H) (d := 0) b))⟩⟩
  | int i => exact ⟨none, .inl ⟨rfl, in_tK (al_kn (K := K) (.int (H := H) (d := 0) i))⟩⟩
  | str s => exact ⟨none, .inl ⟨rfl, in_tK (al_kn (K := K) (.str (H := H) (d := 0) s))⟩⟩
  | lst hp _ _ _ _ => exact ⟨none, .inl ⟨rfl, in_lst_t hp⟩⟩
  | tup hp hq l sz a =>
    obtain ⟨zs, e, m⟩ := zip_of (K := K) (H := H) _ fun x hx => by
      obtain ⟨i, hi⟩ := List.mem_iff_getElem?.mp hx
      obtain ⟨y, hy⟩ : ∃ y, (_ : List V)[i]? = some y := ⟨_, List.getElem?_eq_getElem (by rw [← l]; exact (List.getElem?_eq_some_iff.mp hi).1)⟩
      exact al_pt (a i x y hi hy)
    exact ⟨some (zs.map (·.2)), .inr ⟨_, zs, rfl, rfl, by rw [e]; exact hp, m, by rw [← List.length_map (f := (·.1)), e]; omega⟩⟩
def spIs (C : Addr) : Sp := fun vs H Q _ => ∃ (x l : Addr) (n : Nat) (ns : List Nat) (ls : List (Addr × List Int)), vs = [.ref x, .int n, .ref l] ∧ Rn C H x n ns ∧ H l = some (.lst (ls.map rf)) ∧ RowsAt H n ls ∧ ls.map (·.2) = ns.map (bitsOf n) ∧ ns.length < 64 ∧ n ≤ 8 ∧ ∀ H', Same H H' → Q (.bl true) H'
theorem ok_is (T : Txt P K mg A) : FnOk P w K mg base CX0 4 A.a__law_is A.d__law_is ["rules", "size", "listed"] (spIs A.c_Rules) := by
  refine T.F__law_is.ok sc__law_is (fun vs H Q E h => ?_) (fun cdv A' outer s H vs Q E hr h => ?_)
  · obtain ⟨x, l, n, ns, ls, rfl, _⟩ := h
    rfl
  · obtain ⟨x, l, n, ns, ls, rfl, ⟨ks, ru, ek⟩, hl0, rl, el, few, sn, k⟩ := h
    have G__law_same := ok_same (w := w) (base := base) T 2
    have G_Rules____len__ := ok_len (w := w) (base := base) T
    have hl : True → H l = some (.lst (ls.map rf)) := fun _ => hl0
    clear hl0
    obtain ⟨dx, t, kn, h1, h2, h3, rows, asc, ne, sz⟩ := id ru
    have ht : True → H t = some (.tup (ks.map rf)) := fun _ => h2
    clear h2 h3
    have lk : ks.length = ns.length := by simpa using congrArg List.length ek
    have ll : ls.length = ns.length := by simpa using congrArg List.length el
    refine ⟨_, (pss_cons (ps_if (PW.pt (pw_or (pt_not (pt_val (pe_callB (id := "isinstance") (r := rIsiV K) call_isiV (by rfl) T.n_isinstance (by decide +kernel) (pa_cons (pv 0) (pa_cons (pe_glob (v := .ref A.c_Rules) rfl T.g_Rules rfl) pa_nil))))) (pw_or1 (pt_not (pt_val (pe_call G__law_same (hr.mono (by decide)) rfl T.g__law_same T.F__law_same.kp (B__law_same T) .nil pass0 (pa_cons (pe_fld (pv 0) rfl) (pa_cons (pv 1) pa_nil)))))))) (pss_one (ps_ret pe_bl)) pss_nil)
  (pss_one (ps_ret (pe_and (pe_call G__law_same (hr.mono (by decide)) rfl T.g__law_same T.F__law_same.kp (B__law_same T) .nil pass0 (pa_cons (pe_fld (pv 0) rfl) (pa_cons (pe_callTy call_tuple_of (by rfl) T.n_tuple (by decide +kernel) (pa_cons (pv 2) pa_nil)) pa_nil))) (pe_one (pe_call G__law_same (hr.mono (by decide)) rfl T.g__law_same T.F__law_same.kp (B__law_same T) .nil pass0 (pa_cons (pe_callB (call_lenO G_Rules____len__ (hr.mono (by decide)) T.sp_Rules___len__.1 T.sp_Rules___len__.2 (B_Rules____len__ T) pass0) (by rfl) T.n_len (by decide +kernel) (pa_cons (pv 0) pa_nil)) (pa_cons (pe_callB call_len (by rfl) T.n_len (by decide +kernel) (pa_cons (pv 2) pa_nil)) pa_nil)))))))), ?_⟩
    walk_at "sx"
    refine T.o_Rules.own h1 ?_
    walk_at "sx"
    refine r_get rfl h1 T.cl_Rules T.no_Rules_size rfl ?_
    walk_at "sx"
    refine ⟨_, _, rfl, .int _, fun H1 s1 => ?_⟩
    have h1' := s1 _ _ h1
    walk_at "sx"
    refine r_get rfl h1' T.cl_Rules T.no_Rules_rows rfl ?_
    walk_at "sx"
    refine ⟨l, _, rfl, .inl ⟨SqL.of (s1 _ _ (hl trivial)), fun p9 np9 => ?_⟩⟩
    obtain ⟨H2, e2, s2, h9⟩ : ∃ H2, upd H1 p9 (.tup (ls.map rf)) = H2 ∧ Same H1 H2 ∧ H2 p9 = some (.tup (ls.map rf)) := ⟨_, rfl, Same.new np9, upd_same⟩
    rw [e2]
    clear e2
    have S2 := s1.trans s2
    have h9' : True → H2 p9 = some (.tup (ls.map rf)) := fun _ => h9
    clear h9
    walk_at "sx"
    refine ⟨_, _, rfl, al_rows (S2 _ _ (ht trivial)) (h9' trivial) (rows.same S2) (rl.same S2) (ek.trans el.symm) (by omega) (by omega), fun H3 s3 => ?_⟩
    have S3 := S2.trans s3
    walk_at "sx"
    refine ⟨x, dx, _, rfl, S3 _ _ h1, x, n, ks, rfl, ru.same S3, ks.length, rfl, by omega, ?_⟩
    walk_at "sx"
    refine ⟨_, _, rfl, .inl ⟨_, SqL.of (S3 _ _ (hl trivial)), rfl⟩, ?_⟩
    walk_at "sx"
    refine ⟨_, _, rfl, ?_, fun H4 s4 => k H4 (S3.trans s4)⟩
    rw [List.length_map, ll, lk]
    exact .int _
theorem ok_isint (T : Txt P K mg A) : FnOk P w K mg base CX0 1 A.a__law_is_integer A.d__law_is_integer ["value"] (spT1 K isI) := by
  refine T.F__law_is_integer.ok sc__law_is_integer (fun vs H Q E h => ?_) (fun cdv A' outer s H vs Q E hr h => ?_)
  · obtain ⟨v, rfl, _⟩ := h
    rfl
  · obtain ⟨v, rfl, ⟨b, c, hb, hc, e⟩, k⟩ := h
    refine ⟨_, (pss_one (ps_ret (pe_and (pe_callB (id := "isinstance") (r := rIsiV K) call_isiV (by rfl) T.n_isinstance (by decide +kernel) (pa_cons (pv 0) (pa_cons (pe_bltn (v := .ty "int") (u := .type "int") (by rfl) T.n_int (by decide +kernel) rfl) pa_nil))) (pe_one (pe_not (pe_callB (id := "isinstance") (r := rIsiV K) call_isiV (by rfl) T.n_isinstance (by decide +kernel) (pa_cons (pv 0) (pa_cons (pe_bltn (v := .ty "bool") (u := .type "bool") (by rfl) T.n_bool (by decide +kernel) rfl) pa_nil)))))))), ?_⟩
    rw [← e] at k
    walk_at "sx"
    refine isi_in hb ?_
    cases b
    · walk_at "sx"
      exact k
    · walk_at "sx"
      refine isi_in hc ?_
      walk_at "sx"
      exact k
end
end K07

set_option Elab.async false
set_option linter.all false
set_option maxRecDepth 100000
set_option maxHeartbeats 4000000
namespace K07
open PySem L2 Sx
local macro_rules | `(tactic| walk_at "cond") => `(tactic| first
  | assumption
  | decide
  | exact c_mul_r (by first | decide | omega) (by first | decide | omega)
  | exact c_mul_l (by first | decide | omega) (by first | decide | omega)
  | exact c_div (by first | decide | omega) (by first | decide | omega)
  | exact c_pow (by first | decide | omega) (by first | decide | omega) (by first | decide | omega)
  | omega)
local macro_rules | `(tactic| walk_at "ne") => `(tactic| first
  | assumption
  | (refine Ne.symm ?_; assumption)
  | (refine' Flow.ne ?nh ?nn; (case nn => assumption); (case nh => walk_at "fl"))
  | (refine Ne.symm ?_; refine' Flow.ne ?nh ?nn; (case nn => assumption); (case nh => walk_at "fl"))
  | (refine' ne_of_none ?nh ?nn; (case nn => assumption); (case nh => walk_at "at"))
  | (refine Ne.symm ?_; refine' ne_of_none ?nh ?nn; (case nn => assumption); (case nh => walk_at "at")))
local macro_rules | `(tactic| walk_at "at") => `(tactic| first
  | assumption
  | (refine Same.up (by assumption) ?_; walk_at "at")
  | (refine Keep.up (by assumption) (by walk_at "ne") ?_; walk_at "at"))
local macro_rules | `(tactic| walk_at "fl") => `(tactic| first
  | assumption
  | (refine Flow.same (by assumption) ?_; walk_at "fl")
  | (refine Flow.keep (by assumption) (by walk_at "ne") ?_; walk_at "fl"))
local macro_rules | `(tactic| walk_at "fr") => `(tactic| first
  | assumption
  | (refine same_free (by assumption) ?_; walk_at "fr")
  | (refine Keep.free (by assumption) (by walk_at "ne") ?_; walk_at "fr"))
local macro_rules | `(tactic| walk_at "kp") => `(tactic| first
  | assumption
  | exact Keep.refl _ _
  | (refine Keep.trans ?_ (by assumption); walk_at "kp")
  | (refine Keep.trans ?_ (Keep.same (by assumption)); walk_at "kp"))
local macro_rules | `(tactic| walk_at "sm") => `(tactic| first
  | assumption
  | exact L2.Same.refl _
  | (refine L2.Same.trans ?_ (by assumption); walk_at "sm"))
local macro_rules | `(tactic| walk_at "sz") => `(tactic| first | exact Nat.le_of_ble_eq_true rfl | omega)
local macro_rules | `(tactic| walk_at "new") => `(tactic| (intro p np; generalize hE : upd _ p _ = H2; have s2 := new_same np hE; have h2 := new_at hE; clear hE))
local macro_rules | `(tactic| walk_at "newx") => `(tactic| (intro e d na nd hda; generalize hE : upd (upd _ d _) e _ = H2; have s2 := newx_same na nd hE; have h2 := newx_at hE; have h3 := newx_d hda hE; clear hE))
local macro_rules | `(tactic| walk_at "s1") => `(tactic| first
  | with_reducible refine s_seq ?_
  | with_reducible refine s_asg ?_
  | with_reducible refine s_name ?_
  | with_reducible refine s_ret ?_
  | with_reducible refine s_c ?_
  | ((with_reducible refine' s_var ?hv ?_); (case hv => rfl))
  | with_reducible refine s_op ?_
  | with_reducible refine s_un ?_
  | with_reducible refine s_ifS ?_
  | with_reducible refine s_cb ?_
  | with_reducible refine s_cons ?_
  | with_reducible refine s_nil ?_
  | with_reducible refine s_call ?_
  | with_reducible refine s_test ?_
  | with_reducible refine s_tB ?_
  | with_reducible refine s_bl ?_
  | with_reducible refine s_and ?_
  | with_reducible refine s_or ?_
  | with_reducible refine s_not ?_
  | with_reducible refine s_andV ?_
  | with_reducible refine s_orV ?_
  | with_reducible refine s_notV ?_
  | with_reducible refine s_blV ?_
  | with_reducible refine s_if ?_
  | with_reducible refine s_tup ?_
  | with_reducible refine s_lst ?_
  | with_reducible refine s_drop ?_
  | with_reducible refine s_next ?_
  | with_reducible refine s_sub ?_
  | with_reducible refine s_bm ?_
  | with_reducible refine s_callK ?_
  | with_reducible refine s_brk ?_
  | with_reducible refine s_cont ?_
  | with_reducible refine r_I0 ?_
  | with_reducible refine r_U ?_
  | with_reducible refine r_eqI ?_
  | with_reducible refine r_neI ?_
  | with_reducible refine r_isB ?_
  | with_reducible refine r_notB ?_
  | with_reducible refine i_t ?_
  | with_reducible refine i_f ?_
  | with_reducible refine i_nt ?_
  | with_reducible refine i_nf ?_
  | ((with_reducible refine' r_I ?hc ?_); (case hc => walk_at "cond"))
  | (with_reducible refine .inl ⟨_, rfl, ?_⟩)
  | (with_reducible refine ⟨_, rfl, ?_⟩)
  | ((with_reducible refine' r_ixL ?hx ?ha ?_); (case hx => walk_at "at"); (case ha => rfl))
  | ((with_reducible refine' r_ixT ?hx ?ha ?_); (case hx => walk_at "at"); (case ha => rfl))
  | ((with_reducible refine' r_setL ?hx ?ha ?_); (case hx => walk_at "at"); (case ha => rfl); intro H2 k2 h2; (try dsimp only [List.set, Int.toNat] at h2))
  | ((with_reducible refine' r_app ?hx ?hl ?_); (case hx => walk_at "at"); (case hl => first | exact Nat.lt_of_ble_eq_true rfl | omega); intro H2 k2 h2)
  | ((with_reducible refine' ty_list ?hx ?_); (case hx => walk_at "at"))
  | (refine And.intro (by (with_reducible show _ ≤ sizeLine); walk_at "sz") ?_; walk_at "new")
  | with_reducible refine s_exv ?_
  | walk_at "newx")
local macro_rules | `(tactic| walk_at "sx") => `(tactic| repeat (walk_at "s1"))
local macro_rules | `(tactic| walk_at "s2") => `(tactic| first
  | ((with_reducible refine' r_ixG ?hx ?hn ?_); (case hx => walk_at "at"); (case hn => omega))
  | ((with_reducible refine' r_ixGT ?hx ?hn ?_); (case hx => walk_at "at"); (case hn => omega))
  | (with_reducible refine ig_cons (fun hix => ?_) (fun hix => ?_))
  | ((with_reducible refine ig_nil ?_); omega)
  | ((with_reducible refine' i_T ?hc ?_); (case hc => omega))
  | ((with_reducible refine' i_F ?hc ?_); (case hc => omega))
  | (with_reducible refine i_2 (fun hc => ?_) (fun hc => ?_))
  | (with_reducible refine i_n2 (fun hc => ?_) (fun hc => ?_)))
local macro_rules | `(tactic| walk_at "go") => `(tactic| repeat' (first | walk_at "s1" | walk_at "s2"))

local macro_rules | `(tactic| walk_at "s1") => `(tactic| first
  | with_reducible refine s_chain ?_
  | with_reducible refine s_fldS ?_
  | with_reducible refine s_fld ?_
  | with_reducible refine s_dIn ?_
  | with_reducible refine s_dNotIn ?_
  | with_reducible refine s_sl ?_
  | with_reducible refine s_noPart ?_
  | with_reducible refine s_part ?_
  | with_reducible refine s_meth ?_
  | with_reducible refine s_make ?_)

theorem nv_inj {a b : Nat} (h : nv a = nv b) : a = b := by
  have h' : V.int (a : Int) = V.int (b : Int) := h
  injection h' with h'
  omega
/-- what stands at a place of shown answers -/
theorem sh_i {n : Nat} {ps : List (Option (List V))} {js ws : List Nat} (h : Sh n (some ps) js ws) {i : Nat} {p : Option (List V)} (hp : ps[i]? = some p) :
    ∃ j w : Nat, p = some [nv j, nv w] ∧ j < n ∧ w ≤ 1 ∧ js[i]? = some j := by
  have e := Option.some.inj h.1
  rw [e, List.getElem?_map] at hp
  obtain ⟨z, hz, rfl⟩ := Option.map_eq_some_iff.mp hp
  obtain ⟨h1, h2⟩ := List.getElem?_zip_eq_some.mp hz
  exact ⟨z.1, z.2, rfl, h.2.2.2.1 _ (List.mem_of_getElem? h1), h.2.2.2.2 _ (List.mem_of_getElem? h2), h1⟩
theorem sh_up {n : Nat} {q : Option (List (Option (List V)))} {js ws : List Nat} (h : Sh n q js ws) {i k a b : Nat} (lt : k < i) (h1 : js[k]? = some a) (h2 : js[i]? = some b) : a < b := by
  obtain ⟨l1, e1⟩ := List.getElem?_eq_some_iff.mp h1
  obtain ⟨l2, e2⟩ := List.getElem?_eq_some_iff.mp h2
  have := List.pairwise_iff_getElem.mp h.2.2.1 k i l1 l2 lt
  rw [e1, e2] at this
  exact this
section
variable {P : Program} {w : World} {K : PySem.W.Frag} {mg : Str → Option Value} {base : Heap} {A : Ad}
def spLSh (K : PySem.W.Frag) : Sp := fun vs H Q _ => ∃ (v : V) (n : Nat) (q : Option (List (Option (List V)))), vs = [v, .int n] ∧ VlOk K H v q ∧
  (∀ js ws, Sh n q js ws → Q (.bl true) H) ∧ ((∀ js ws, ¬ Sh n q js ws) → Q (.bl false) H)
theorem ok_lsh (T : Txt P K mg A) : FnOk P w K mg base CX0 2 A.a__law_is_shown A.d__law_is_shown ["value", "size"] (spLSh K) := by
  refine T.F__law_is_shown.ok sc__law_is_shown (fun vs H Q E h => ?_) (fun cdv A' outer s H vs Q E hr h => ?_)
  · obtain ⟨v, n, q, rfl, _⟩ := h
    rfl
  · obtain ⟨v, n, q, rfl, hv, k1, k0⟩ := h
    have G__law_is_integer := ok_isint (w := w) (base := base) T
    refine ⟨_, (pss_cons (ps_if (pt_not (pt_val (pe_callB (id := "isinstance") (r := rIsiV K) call_isiV (by rfl) T.n_isinstance (by decide +kernel) (pa_cons (pv 0) (pa_cons (pe_bltn (v := .ty "tuple") (u := .type "tuple") (by rfl) T.n_tuple (by decide +kernel) rfl) pa_nil))))) (pss_one (ps_ret pe_bl)) pss_nil)
  (pss_cons (ps_set (i := 2) sc__law_is_shown.nd rfl (Or.inl rfl) pe_int)
  (pss_cons (ps_for PassesOwn.never rfl (pi_tup (pv 0)) (pg_name (i := 3) sc__law_is_shown.nd rfl (Or.inl rfl))
  (pss_cons (ps_if (PW.pt (pw_or (pt_not (pt_val (pe_callB (id := "isinstance") (r := rIsiV K) call_isiV (by rfl) T.n_isinstance (by decide +kernel) (pa_cons (pv 3) (pa_cons (pe_bltn (v := .ty "tuple") (u := .type "tuple") (by rfl) T.n_tuple (by decide +kernel) rfl) pa_nil))))) (pw_or1 (pt_cmpR op_ne (pe_callB call_len (by rfl) T.n_len (by decide +kernel) (pa_cons (pv 3) pa_nil)) pe_int (nomark _))))) (pss_one (ps_ret pe_bl)) pss_nil)
  (pss_cons (ps_if (PW.pt (pw_or (pt_not (pt_val (pe_call G__law_is_integer (hr.mono (by decide)) rfl T.g__law_is_integer T.F__law_is_integer.kp (B__law_is_integer T) .nil pass0 (pa_cons (pe_ix ix_seq (pv 3) pe_int (fun _ _ => rfl)) pa_nil)))) (pw_or1 (pt_not (pt_val (pe_call G__law_is_integer (hr.mono (by decide)) rfl T.g__law_is_integer T.F__law_is_integer.kp (B__law_is_integer T) .nil pass0 (pa_cons (pe_ix ix_seq (pv 3) pe_int (fun _ _ => rfl)) pa_nil))))))) (pss_one (ps_ret pe_bl)) pss_nil)
  (pss_cons (ps_if (PW.pt (pw_or (pt_cmpR op_lt (pe_ix ix_seq (pv 3) pe_int (fun _ _ => rfl)) (pv 2) (nomark _)) (pw_or (pt_cmpR op_ge (pe_ix ix_seq (pv 3) pe_int (fun _ _ => rfl)) (pv 1) (nomark _)) (pw_or (pt_cmpR op_lt (pe_ix ix_seq (pv 3) pe_int (fun _ _ => rfl)) pe_int (nomark _)) (pw_or1 (pt_cmpR op_gt (pe_ix ix_seq (pv 3) pe_int (fun _ _ => rfl)) pe_int (nomark _))))))) (pss_one (ps_ret pe_bl)) pss_nil)
  (pss_one (ps_set (i := 2) sc__law_is_shown.nd rfl (Or.inl rfl) (pe_op op_add (pe_ix ix_seq (pv 3) pe_int (fun _ _ => rfl)) pe_int)))))))
  (pss_one (ps_ret pe_bl))))), ?_⟩
    walk_at "sx"
    rcases hv with ⟨rfl, no⟩ | ⟨a, zs, rfl, rfl, ha0, mem, sz⟩
    · refine isi_in no ?_
      walk_at "sx"
      exact k0 fun js ws h => nomatch h.1
    · refine isi_in (in_tup ha0) ?_
      have ha : True → H a = some (.tup (zs.map (·.1))) := fun _ => ha0
      clear ha0
      obtain ⟨ps, eps⟩ : ∃ ps, ps = zs.map (·.2) := ⟨_, rfl⟩
      rw [← eps] at k1 k0
      walk_at "sx"
      refine ⟨_, rfl, a, rfl, ⟨_, SqT.of (ha trivial)⟩, for_tup (K := K) (a := a) (xs := zs.map (·.1)) (fun i σ H' => H = H' ∧ ∃ (least : Nat) (v3 : Option V), (least = 0 ∨ ∃ j w0 : Nat, 1 ≤ i ∧ ps[i - 1]? = some (some [nv j, nv w0]) ∧ least = j + 1) ∧
        (∃ js ws : List Nat, js.length = i ∧ ws.length = i ∧ ps.take i = (js.zip ws).map pr ∧ js.Pairwise (· < ·) ∧ (∀ j ∈ js, j < n ∧ j < least) ∧ ∀ w ∈ ws, w ≤ 1) ∧ σ = [some (.ref a), some (.int n), some (.int least), v3]) ⟨rfl, 0, none, .inl rfl, ⟨[], [], rfl, rfl, rfl, .nil, (fun j h => by cases h), (fun j h => by cases h)⟩, rfl⟩ (fun i σ H' _ h => by rw [← h.1]; exact SqT.of (ha trivial)) ?_ ?_⟩
      · rintro i x σ H' hx ⟨rfl, least, v3, hle, ⟨js, ws, lj, lw, et, up, bj, bw⟩, rfl⟩
        obtain ⟨⟨zv, zp⟩, hz, rfl⟩ : ∃ z, zs[i]? = some z ∧ z.1 = x := by
          rw [List.getElem?_map] at hx
          exact Option.map_eq_some_iff.mp hx
        have hp : ps[i]? = some zp := by rw [eps, List.getElem?_map, hz]; rfl
        have mz := mem _ (List.mem_of_getElem? hz)
        simp only at mz
        have no : (∀ j w0 : Nat, zp = some [nv j, nv w0] → j < n → w0 ≤ 1 → least ≤ j → False) → Q (.bl false) H := fun h => k0 fun js' ws' sh => by
          obtain ⟨j, w0, e, l1, l2, hj⟩ := sh_i sh hp
          refine h j w0 e l1 l2 ?_
          rcases hle with rfl | ⟨j0, w1, i1, h1, rfl⟩
          · exact Nat.zero_le _
          · obtain ⟨j2, w2, e2, _, _, hj2⟩ := sh_i sh h1
            injection e2 with e2
            injection e2 with e2 _
            have := nv_inj e2
            have := sh_up sh (show i - 1 < i by omega) hj2 hj
            omega
        walk_at "sx"
        rcases mz with ⟨rfl, no'⟩ | ⟨b, xs, rfl, rfl, hb0, mx, sx⟩
        · refine isi_in no' ?_
          walk_at "sx"
          exact no fun _ _ e => nomatch e
        · refine isi_in (in_tup hb0) ?_
          have hb : True → H b = some (.tup xs) := fun _ => hb0
          clear hb0
          walk_at "sx"
          refine ⟨_, _, rfl, .inr ⟨xs, SqT.of (hb trivial), rfl⟩, ?_⟩
          walk_at "sx"
          refine i_n2 (fun c => ?_) (fun c => ?_)
          · walk_at "sx"
            exact no fun j w0 e _ _ _ => by
              cases e
              exact c rfl
          obtain ⟨x, y, rfl⟩ := len2 (xs := xs) (by omega)
          have hb1 := hb trivial
          walk_at "sx"
          refine c_t1 (mx x (by simp)) ?_
          rcases i_cases x with ⟨m, rfl⟩ | hx0
          rotate_left
          · rw [hx0]
            walk_at "sx"
            exact no fun j w0 e _ _ _ => by
              injection e with e
              injection e with e _
              rw [e] at hx0
              cases hx0
          rw [show isI (V.int m) = true from rfl]
          walk_at "sx"
          refine c_t1 (mx y (by simp)) ?_
          rcases i_cases y with ⟨o, rfl⟩ | hy0
          rotate_left
          · rw [hy0]
            walk_at "sx"
            exact no fun j w0 e _ _ _ => by
              injection e with e
              injection e with _ e
              injection e with e
              rw [e] at hy0
              cases hy0
          rw [show isI (V.int o) = true from rfl]
          have no2 : (∀ j w0 : Nat, m = j → o = w0 → j < n → w0 ≤ 1 → least ≤ j → False) → Q (.bl false) H := fun h => no fun j w0 e l1 l2 l3 => by
            injection e with e
            injection e with e1 e
            injection e with e2
            have e1' : V.int m = V.int (j : Int) := e1
            have e2' : V.int o = V.int (w0 : Int) := e2
            injection e1' with e1'
            injection e2' with e2'
            exact h j w0 e1' e2' l1 l2 l3
          walk_at "sx"
          refine i_2 (fun d1 => ?_) (fun d1 => ?_)
          · walk_at "sx"
            exact no2 fun j w0 e1 e2 _ _ _ => by omega
          walk_at "sx"
          refine i_2 (fun d2 => ?_) (fun d2 => ?_)
          · walk_at "sx"
            exact no2 fun j w0 e1 e2 _ _ _ => by omega
          walk_at "sx"
          refine i_2 (fun d3 => ?_) (fun d3 => ?_)
          · walk_at "sx"
            exact no2 fun j w0 e1 e2 _ _ _ => by omega
          walk_at "sx"
          refine i_2 (fun d4 => ?_) (fun d4 => ?_)
          · walk_at "sx"
            exact no2 fun j w0 e1 e2 _ _ _ => by omega
          walk_at "sx"
          obtain ⟨j, rfl⟩ := Int.eq_ofNat_of_zero_le (show 0 ≤ m by omega)
          obtain ⟨w0, rfl⟩ := Int.eq_ofNat_of_zero_le (show 0 ≤ o by omega)
          refine ⟨rfl, j + 1, _, .inr ⟨j, w0, by omega, by rw [Nat.add_sub_cancel]; exact hp, rfl⟩, ⟨js ++ [j], ws ++ [w0], by simp [lj], by simp [lw], ?_, ?_, ?_, ?_⟩, rfl⟩
          · rw [List.take_succ, hp, et, List.zip_append (by omega), List.map_append]
            rfl
          · rw [List.pairwise_append]
            exact ⟨up, List.pairwise_singleton _ _, fun a ha b hb => by rw [List.mem_singleton.mp hb]; have := bj a ha; omega⟩
          · intro a ha
            rcases List.mem_append.mp ha with ha | ha
            · have := bj a ha
              omega
            · rw [List.mem_singleton.mp ha]
              omega
          · intro a ha
            rcases List.mem_append.mp ha with ha | ha
            · exact bw a ha
            · rw [List.mem_singleton.mp ha]
              omega
      · rintro σ H' ⟨rfl, least, v3, hle, ⟨js, ws, lj, lw, et, up, bj, bw⟩, rfl⟩
        walk_at "sx"
        refine k1 js ws ⟨?_, by omega, up, fun j hj => (bj j hj).1, bw⟩
        rw [← et, eps, List.length_map, List.take_of_length_le (by rw [List.length_map]; exact Nat.le_refl _)]
end
end K07

set_option Elab.async false
set_option linter.all false
set_option maxRecDepth 100000
set_option maxHeartbeats 4000000
namespace K07
open PySem L2 Sx
local macro_rules | `(tactic| walk_at "cond") => `(tactic| first
  | assumption
  | decide
  | exact c_mul_r (by first | decide | omega) (by first | decide | omega)
  | exact c_mul_l (by first | decide | omega) (by first | decide | omega)
  | exact c_div (by first | decide | omega) (by first | decide | omega)
  | exact c_pow (by first | decide | omega) (by first | decide | omega) (by first | decide | omega)
  | omega)
local macro_rules | `(tactic| walk_at "ne") => `(tactic| first
  | assumption
  | (refine Ne.symm ?_; assumption)
  | (refine' Flow.ne ?nh ?nn; (case nn => assumption); (case nh => walk_at "fl"))
  | (refine Ne.symm ?_; refine' Flow.ne ?nh ?nn; (case nn => assumption); (case nh => walk_at "fl"))
  | (refine' ne_of_none ?nh ?nn; (case nn => assumption); (case nh => walk_at "at"))
  | (refine Ne.symm ?_; refine' ne_of_none ?nh ?nn; (case nn => assumption); (case nh => walk_at "at")))
local macro_rules | `(tactic| walk_at "at") => `(tactic| first
  | assumption
  | (refine Same.up (by assumption) ?_; walk_at "at")
  | (refine Keep.up (by assumption) (by walk_at "ne") ?_; walk_at "at"))
local macro_rules | `(tactic| walk_at "fl") => `(tactic| first
  | assumption
  | (refine Flow.same (by assumption) ?_; walk_at "fl")
  | (refine Flow.keep (by assumption) (by walk_at "ne") ?_; walk_at "fl"))
local macro_rules | `(tactic| walk_at "fr") => `(tactic| first
  | assumption
  | (refine same_free (by assumption) ?_; walk_at "fr")
  | (refine Keep.free (by assumption) (by walk_at "ne") ?_; walk_at "fr"))
local macro_rules | `(tactic| walk_at "kp") => `(tactic| first
  | assumption
  | exact Keep.refl _ _
  | (refine Keep.trans ?_ (by assumption); walk_at "kp")
  | (refine Keep.trans ?_ (Keep.same (by assumption)); walk_at "kp"))
local macro_rules | `(tactic| walk_at "sm") => `(tactic| first
  | assumption
  | exact L2.Same.refl _
  | (refine L2.Same.trans ?_ (by assumption); walk_at "sm"))
local macro_rules | `(tactic| walk_at "sz") => `(tactic| first | exact Nat.le_of_ble_eq_true rfl | omega)
local macro_rules | `(tactic| walk_at "new") => `(tactic| (intro p np; generalize hE : upd _ p _ = H2; have s2 := new_same np hE; have h2 := new_at hE; clear hE))
local macro_rules | `(tactic| walk_at "newx") => `(tactic| (intro e d na nd hda; generalize hE : upd (upd _ d _) e _ = H2; have s2 := newx_same na nd hE; have h2 := newx_at hE; have h3 := newx_d hda hE; clear hE))
local macro_rules | `(tactic| walk_at "s1") => `(tactic| first
  | with_reducible refine s_seq ?_
  | with_reducible refine s_asg ?_
  | with_reducible refine s_name ?_
  | with_reducible refine s_ret ?_
  | with_reducible refine s_c ?_
  | ((with_reducible refine' s_var ?hv ?_); (case hv => rfl))
  | with_reducible refine s_op ?_
  | with_reducible refine s_un ?_
  | with_reducible refine s_ifS ?_
  | with_reducible refine s_cb ?_
  | with_reducible refine s_cons ?_
  | with_reducible refine s_nil ?_
  | with_reducible refine s_call ?_
  | with_reducible refine s_test ?_
  | with_reducible refine s_tB ?_
  | with_reducible refine s_bl ?_
  | with_reducible refine s_and ?_
  | with_reducible refine s_or ?_
  | with_reducible refine s_not ?_
  | with_reducible refine s_andV ?_
  | with_reducible refine s_orV ?_
  | with_reducible refine s_notV ?_
  | with_reducible refine s_blV ?_
  | with_reducible refine s_if ?_
  | with_reducible refine s_tup ?_
  | with_reducible refine s_lst ?_
  | with_reducible refine s_drop ?_
  | with_reducible refine s_next ?_
  | with_reducible refine s_sub ?_
  | with_reducible refine s_bm ?_
  | with_reducible refine s_callK ?_
  | with_reducible refine s_brk ?_
  | with_reducible refine s_cont ?_
  | with_reducible refine r_I0 ?_
  | with_reducible refine r_U ?_
  | with_reducible refine r_eqI ?_
  | with_reducible refine r_neI ?_
  | with_reducible refine r_isB ?_
  | with_reducible refine r_notB ?_
  | with_reducible refine i_t ?_
  | with_reducible refine i_f ?_
  | with_reducible refine i_nt ?_
  | with_reducible refine i_nf ?_
  | ((with_reducible refine' r_I ?hc ?_); (case hc => walk_at "cond"))
  | (with_reducible refine .inl ⟨_, rfl, ?_⟩)
  | (with_reducible refine ⟨_, rfl, ?_⟩)
  | ((with_reducible refine' r_ixL ?hx ?ha ?_); (case hx => walk_at "at"); (case ha => rfl))
  | ((with_reducible refine' r_ixT ?hx ?ha ?_); (case hx => walk_at "at"); (case ha => rfl))
  | ((with_reducible refine' r_setL ?hx ?ha ?_); (case hx => walk_at "at"); (case ha => rfl); intro H2 k2 h2; (try dsimp only [List.set, Int.toNat] at h2))
  | ((with_reducible refine' r_app ?hx ?hl ?_); (case hx => walk_at "at"); (case hl => first | exact Nat.lt_of_ble_eq_true rfl | omega); intro H2 k2 h2)
  | ((with_reducible refine' ty_list ?hx ?_); (case hx => walk_at "at"))
  | (refine And.intro (by (with_reducible show _ ≤ sizeLine); walk_at "sz") ?_; walk_at "new")
  | with_reducible refine s_exv ?_
  | walk_at "newx")
local macro_rules | `(tactic| walk_at "sx") => `(tactic| repeat (walk_at "s1"))
local macro_rules | `(tactic| walk_at "s2") => `(tactic| first
  | ((with_reducible refine' r_ixG ?hx ?hn ?_); (case hx => walk_at "at"); (case hn => omega))
  | ((with_reducible refine' r_ixGT ?hx ?hn ?_); (case hx => walk_at "at"); (case hn => omega))
  | (with_reducible refine ig_cons (fun hix => ?_) (fun hix => ?_))
  | ((with_reducible refine ig_nil ?_); omega)
  | ((with_reducible refine' i_T ?hc ?_); (case hc => omega))
  | ((with_reducible refine' i_F ?hc ?_); (case hc => omega))
  | (with_reducible refine i_2 (fun hc => ?_) (fun hc => ?_))
  | (with_reducible refine i_n2 (fun hc => ?_) (fun hc => ?_)))
local macro_rules | `(tactic| walk_at "go") => `(tactic| repeat' (first | walk_at "s1" | walk_at "s2"))

local macro_rules | `(tactic| walk_at "s1") => `(tactic| first
  | with_reducible refine s_chain ?_
  | with_reducible refine s_fldS ?_
  | with_reducible refine s_fld ?_
  | with_reducible refine s_dIn ?_
  | with_reducible refine s_dNotIn ?_
  | with_reducible refine s_sl ?_
  | with_reducible refine s_noPart ?_
  | with_reducible refine s_part ?_
  | with_reducible refine s_meth ?_
  | with_reducible refine s_make ?_)

/-- pairs of ints, at their places -/
def PtsAt (H : Hp) (c : Nat) (qs : List (Addr × List Int)) : Prop := ∀ q ∈ qs, H q.1 = some (.tup (q.2.map V.int)) ∧ q.2.length = c ∧ (q.2.headD 0).natAbs < 100
theorem PtsAt.same {H H' : Hp} {c : Nat} {qs : List (Addr × List Int)} (s : Same H H') (h : PtsAt H c qs) : PtsAt H' c qs := fun q hq => ⟨s _ _ (h q hq).1, (h q hq).2⟩
theorem ne_tl {H : Hp} {a b : Addr} {xs ys : List V} (h : H a = some (.tup xs)) (g : H b = some (.lst ys)) : a ≠ b := ne_of h g fun e => nomatch e
theorem PtsAt.keep {H H' : Hp} {a : Addr} {c : Nat} {xs : List V} {qs : List (Addr × List Int)} (k : Keep a H H') (ha : H a = some (.lst xs)) (h : PtsAt H c qs) : PtsAt H' c qs := fun q hq => ⟨k _ _ (ne_tl (h q hq).1 ha) (h q hq).1, (h q hq).2⟩
theorem PtsAt.flow {H H' : Hp} {a : Addr} {c : Nat} {qs : List (Addr × List Int)} (k : Keep a H H') (ha : Flow H a) (h : PtsAt H c qs) : PtsAt H' c qs := by
  obtain ⟨_, _, _, _, e⟩ := ha
  exact h.keep k e
theorem fl_ne {H : Hp} {a b : Addr} {xs : List V} (f : Flow H a) (h : H b = some (.tup xs)) : b ≠ a := by
  obtain ⟨_, _, _, _, e⟩ := f
  exact ne_tl h e
theorem RowsAt.flow {H H' : Hp} {a : Addr} {n : Nat} {ls : List (Addr × List Int)} (k : Keep a H H') (ha : Flow H a) (h : RowsAt H n ls) : RowsAt H' n ls := fun q hq => ⟨k _ _ (fl_ne ha (h q hq).1) (h q hq).1, (h q hq).2⟩
/-- one pair more in the list at D -/
theorem pts_step {H' H2 : Hp} {D p : Addr} {ts : List (Addr × List Int)} {x y : Int} (hD : H' D = some (.lst (ts.map rf))) (pt : PtsAt H' 2 ts) (k : Keep D H' H2) (h2 : H2 D = some (.lst (ts.map rf ++ [.ref p]))) (hp : H' p = some (.tup [.int x, .int y])) (hx : x.natAbs < 100) :
    ∃ ts', H2 D = some (.lst (ts'.map rf)) ∧ PtsAt H2 2 ts' ∧ ts'.length = ts.length + 1 := by
  refine ⟨ts ++ [(p, [x, y])], by rw [h2, List.map_append]; rfl, fun q hq => ?_, by rw [List.length_append]; rfl⟩
  rcases List.mem_append.mp hq with h | h
  · exact pt.keep k hD q h
  · rw [List.mem_singleton.mp h]
    exact ⟨k _ _ (ne_tl hp hD) hp, rfl, hx⟩
section
variable {P : Program} {w : World} {K : PySem.W.Frag} {mg : Str → Option Value} {base : Heap} {A : Ad}
def spPairs : Sp := fun vs H Q _ => ∃ (a l : Addr) (n : Nat) (ls : List (Addr × List Int)), vs = [.ref a, .int n, .ref l] ∧ Flow H a ∧ n ≤ 8 ∧ H l = some (.lst (ls.map rf)) ∧ l ≠ a ∧ RowsAt H n ls ∧ ls ≠ [] ∧ ls.length < 64 ∧
  ∀ p ts H', Flow H' a → Keep a H H' → H' p = some (.tup (ts.map rf)) → PtsAt H' 2 ts → ts.length ≤ 8 → Q (.ref p) H'
theorem ok_pairs (T : Txt P K mg A) : FnOk P w K mg base CX0 2 A.a__law_pairs A.d__law_pairs ["flow", "size", "listed"] spPairs := by
  refine T.F__law_pairs.ok sc__law_pairs (fun vs H Q E h => ?_) (fun cdv A' outer s H vs Q E hr h => ?_)
  · obtain ⟨a, l, n, ls, rfl, _⟩ := h
    rfl
  · obtain ⟨a, l, n, ls, rfl, hF, n8, hl0, la, rl, ne, few, k⟩ := h
    have hl : True → H l = some (.lst (ls.map rf)) := fun _ => hl0
    clear hl0
    have G__law_take := ok_take (w := w) (base := base) T
    refine ⟨_, (pss_cons (ps_setLc (i := 3) (own := [("point", 7)]) (g := (gName 7)) (by rfl) sc__law_pairs.nd rfl rfl (sw_true rfl rfl rfl (by decide +kernel)) (pi_range1 rfl T.n_range (pa_cons (pv 1) pa_nil)) (blkOk_by (own := [("point", 7)]) (N := ["flow", "size", "listed", "lot", "row", "pairs", "at", "point"]) (sc := defScope s__law_pairs) (by decide +kernel)) (fun _ _ _ _ _ => (pg_name (i := 7) sc__law_pairs.nd rfl (Or.inl rfl))) (fun _ _ _ _ _ => pts_one (pt_cmpR op_eq (pe_call G__law_take (hr.mono (by decide)) rfl T.g__law_take T.F__law_take.kp (B__law_take T) .nil pass0 (pa_cons (pv 0) (pa_cons pe_int pa_nil))) pe_int (nomark _))) (fun _ _ _ _ _ => (pv 7)))
  (pss_cons (ps_if (pt_cmpR op_eq (pe_call G__law_take (hr.mono (by decide)) rfl T.g__law_take T.F__law_take.kp (B__law_take T) .nil pass0 (pa_cons (pv 0) (pa_cons pe_int pa_nil))) pe_int (nomark _)) (pss_one (ps_ret (pe_callTy call_tuple_of (by rfl) T.n_tuple (by decide +kernel) (pa_cons (pe_lc (own := [("point", 7)]) (g := (gName 7)) (by rfl) sc__law_pairs.nd (pi_list (pv 3)) (blkOk_by (own := [("point", 7)]) (N := ["flow", "size", "listed", "lot", "row", "pairs", "at", "point"]) (sc := defScope s__law_pairs) (by decide +kernel)) (fun _ _ _ _ _ => (pg_name (i := 7) sc__law_pairs.nd rfl (Or.inl rfl))) (fun _ _ _ _ _ => pts_nil) (fun _ _ _ _ _ => (pe_tup (pa_cons (pv 7) (pa_cons (pe_call G__law_take (hr.mono (by decide)) rfl T.g__law_take T.F__law_take.kp (B__law_take T) .nil pass0 (pa_cons (pv 0) (pa_cons pe_int pa_nil))) pa_nil))))) pa_nil)))) pss_nil)
  (pss_cons (ps_set (i := 4) sc__law_pairs.nd rfl (Or.inr rfl) (pe_ix ix_seq (pv 2) (pe_call G__law_take (hr.mono (by decide)) rfl T.g__law_take T.F__law_take.kp (B__law_take T) .nil pass0 (pa_cons (pv 0) (pa_cons (pe_callB call_len (by rfl) T.n_len (by decide +kernel) (pa_cons (pv 2) pa_nil)) pa_nil))) (fun _ _ => rfl)))
  (pss_cons (ps_setLc (i := 5) (own := [("point", 7)]) (g := (gName 7)) (by rfl) sc__law_pairs.nd rfl rfl (sw_true rfl rfl rfl (by decide +kernel)) (pi_list (pv 3)) (blkOk_by (own := [("point", 7)]) (N := ["flow", "size", "listed", "lot", "row", "pairs", "at", "point"]) (sc := defScope s__law_pairs) (by decide +kernel)) (fun _ _ _ _ _ => (pg_name (i := 7) sc__law_pairs.nd rfl (Or.inl rfl))) (fun _ _ _ _ _ => pts_nil) (fun _ _ _ _ _ => (pe_tup (pa_cons (pv 7) (pa_cons (pe_ix (r := rIx K) ix_seq (pv 4) (pv 7) (fun _ _ => rfl)) pa_nil)))))
  (pss_cons (ps_if (PW.pt (pw_and (pt_cmpR op_gt (pe_callB call_len (by rfl) T.n_len (by decide +kernel) (pa_cons (pv 5) pa_nil)) pe_int (nomark _)) (pw_and1 (pt_cmpR op_eq (pe_call G__law_take (hr.mono (by decide)) rfl T.g__law_take T.F__law_take.kp (B__law_take T) .nil pass0 (pa_cons (pv 0) (pa_cons pe_int pa_nil))) pe_int (nomark _))))) (pss_cons (ps_set (i := 6) sc__law_pairs.nd rfl (Or.inl rfl) (pe_call G__law_take (hr.mono (by decide)) rfl T.g__law_take T.F__law_take.kp (B__law_take T) .nil pass0 (pa_cons (pv 0) (pa_cons (pe_callB call_len (by rfl) T.n_len (by decide +kernel) (pa_cons (pv 5) pa_nil)) pa_nil))))
  (pss_one (ps_asg (pe_tup (pa_cons (pe_ix ix_seq (pe_ix ix_seq (pv 5) (pv 6) (fun _ _ => rfl)) pe_int (fun _ _ => rfl)) (pa_cons (pe_op op_sub pe_int (pe_ix ix_seq (pe_ix ix_seq (pv 5) (pv 6) (fun _ _ => rfl)) pe_int (fun _ _ => rfl))) pa_nil))) (pg_sub (pv 5) (pv 6) set_list)))) pss_nil)
  (pss_one (ps_ret (pe_callTy call_tuple_of (by rfl) T.n_tuple (by decide +kernel) (pa_cons (pv 5) pa_nil))))))))), ?_⟩
    walk_at "sx"
    refine ⟨_, rfl, _, rfl, by omega, by omega, fun D hD => lc_range (lo := 0) (n := n) (fun i H' => Flow H' a ∧ Keep a H H' ∧ ∃ lot : List Nat, H' D = some (.lst (lot.map nv)) ∧ lot.length ≤ i ∧ ∀ p ∈ lot, p < n) ⟨hF.same (Same.new hD), Keep.same (Same.new hD), [], upd_same, Nat.le_refl _, fun p h => by cases h⟩ ?_ ?_⟩
    · rintro i H' hi ⟨F', K', lot, hD', ll, lt⟩
      have aD := hF.ne hD
      refine s_name ⟨rfl, ?_⟩
      walk_at "sx"
      refine c_take F' (by decide) (by decide) (fun d H2 l2 u2 F2 K2 => ?_)
      have h2 := K2 _ _ aD.symm hD'
      walk_at "sx"
      refine i_2 (fun c => ?_) (fun c => ?_)
      · walk_at "sx"
        refine ⟨_, h2, by rw [List.length_map, sizeLine_eq]; omega, F2.keep (put_keep rfl) aD, fun b o hb h => put_keep rfl b o (ne_of_none h hD) ((K'.trans K2) b o hb h), lot ++ [i], ?_, by rw [List.length_append]; show _ + 1 ≤ _; omega, fun p hp => ?_⟩
        · rw [upd_same, List.map_append, Int.zero_add]
          rfl
        · rcases List.mem_append.mp hp with h | h
          · exact lt p h
          · rw [List.mem_singleton.mp h]
            exact hi
      · exact ⟨F2, K'.trans K2, lot, h2, by omega, lt⟩
    · rintro H1 ⟨F1, K1, lot, hD1, ll, lt⟩
      have aD := hF.ne hD
      have hL : True → H1 D = some (.lst (lot.map nv)) := fun _ => hD1
      clear hD1
      walk_at "sx"
      refine c_take F1 (by decide) (by decide) (fun d H2 l2 u2 F2 K2 => ?_)
      have K12 := K1.trans K2
      have hL2 : True → H2 D = some (.lst (lot.map nv)) := fun _ => K2 _ _ aD.symm (hL trivial)
      walk_at "sx"
      refine i_2 (fun c => ?_) (fun c => ?_)
      · walk_at "sx"
        refine ⟨_, rfl, D, rfl, ⟨_, SqL.of (hL2 trivial)⟩, fun D2 hD2 => lc_list (K := K) (a := D) (xs := lot.map nv) (fun i H' => Flow H' a ∧ Keep a H2 H' ∧ ∃ ts, H' D2 = some (.lst (ts.map rf)) ∧ PtsAt H' 2 ts ∧ ts.length = i) ⟨F2.same (Same.new hD2), Keep.same (Same.new hD2), [], upd_same, (fun q h => by cases h), rfl⟩ (fun i H' _ h => SqL.of (h.2.1 _ _ aD.symm (hL2 trivial))) ?_ ?_⟩
        · rintro i y H' hy ⟨F', K', ts, hD', pt, lts⟩
          obtain ⟨j, hj, rfl⟩ : ∃ j, lot[i]? = some j ∧ nv j = y := by
            rw [List.getElem?_map] at hy
            exact Option.map_eq_some_iff.mp hy
          have li := (List.getElem?_eq_some_iff.mp hj).1
          have aD2 := F2.ne hD2
          refine s_name ⟨rfl, ?_⟩
          refine s_yes (i_t ?_)
          walk_at "sx"
          refine c_take F' (by decide) (by decide) (fun d5 H3 l5 u5 F3 K3 => ?_)
          walk_at "sx"
          rename_i p np H4 s4 h4
          have hD4 := s4 _ _ (K3 _ _ aD2.symm hD')
          obtain ⟨ts', e1, e2, e3⟩ := pts_step (H2 := upd H4 D2 (.lst (ts.map rf ++ [.ref p]))) hD4 ((pt.flow K3 F').same s4) (put_keep rfl) upd_same h4 (by have := lt j (List.mem_of_getElem? hj); show ((j : Nat) : Int).natAbs < 100; omega)
          exact ⟨_, hD4, by rw [List.length_map, sizeLine_eq]; omega, (F3.same s4).keep (put_keep rfl) aD2, fun b o hb h => put_keep rfl b o (ne_of_none h hD2) (s4 _ _ (K3 b o hb (K' b o hb h))), ts', e1, e2, by omega⟩
        · rintro H3 ⟨F3, K3, ts, hD3, pt, lts⟩
          rw [List.length_map] at lts
          walk_at "sx"
          refine ⟨D2, _, rfl, .inl ⟨SqL.of hD3, fun p np => ?_⟩⟩
          generalize hE : upd H3 p _ = H4
          have s4 := new_same np hE
          have h4 := new_at hE
          clear hE
          walk_at "sx"
          exact k p ts H4 (F3.same s4) (K12.trans (K3.trans (Keep.same s4))) h4 (pt.same s4) (by omega)
      · have hl2 : True → H2 l = some (.lst (ls.map rf)) := fun _ => K12 _ _ la (hl trivial)
        walk_at "sx"
        refine ⟨_, _, rfl, .inl ⟨_, SqL.of (hl2 trivial), rfl⟩, ?_⟩
        have lpos := List.length_pos_iff.mpr ne
        walk_at "sx"
        rw [List.length_map]
        refine c_take F2 (by omega) (by omega) (fun d5 H3 l5 u5 F3 K3 => ?_)
        obtain ⟨e, rfl⟩ := Int.eq_ofNat_of_zero_le l5
        have he : e < ls.length := by omega
        obtain ⟨⟨rp, r⟩, hrow⟩ : ∃ z, ls[e]? = some z := ⟨_, List.getElem?_eq_getElem he⟩
        refine r_ixL (K3 _ _ la (hl2 trivial)) (v := .ref rp) (atI_nat (by rw [List.getElem?_map, hrow]; rfl)) ?_
        have rr := (RowsAt.flow (K12.trans K3) hF rl) _ (List.mem_of_getElem? hrow)
        simp only at rr
        have hr0 : True → H3 rp = some (.tup (r.map V.int)) := fun _ => rr.1
        have br := rr.2
        clear rr
        have hL3 : True → H3 D = some (.lst (lot.map nv)) := fun _ => K3 _ _ aD.symm (hL2 trivial)
        have K13 := K12.trans K3
        walk_at "sx"
        refine ⟨_, rfl, D, rfl, ⟨_, SqL.of (hL3 trivial)⟩, fun D2 hD2 => lc_list (K := K) (a := D) (xs := lot.map nv) (fun i H' => Same H3 H' ∧ ∃ ts, H' D2 = some (.lst (ts.map rf)) ∧ PtsAt H' 2 ts ∧ ts.length = i) ⟨Same.new hD2, [], upd_same, (fun q h => by cases h), rfl⟩ (fun i H' _ h => SqL.of (h.1 _ _ (hL3 trivial))) ?_ ?_⟩
        · rintro i y H' hy ⟨s', ts, hD', pt, lts⟩
          obtain ⟨j, hj, rfl⟩ : ∃ j, lot[i]? = some j ∧ nv j = y := by
            rw [List.getElem?_map] at hy
            exact Option.map_eq_some_iff.mp hy
          have li := (List.getElem?_eq_some_iff.mp hj).1
          have lj := lt j (List.mem_of_getElem? hj)
          have hrj : r[j]? = some (r.getD j 0) := by
            rw [List.getD_eq_getElem?_getD, List.getElem?_eq_getElem (by rw [br.1]; exact lj)]
            rfl
          refine s_name ⟨rfl, ?_⟩
          refine s_yes (i_t ?_)
          refine s_tup (s_cons (s_var rfl (s_cons (s_op (s_var rfl (s_var rfl ?_))))))
          refine r_ixT (s' _ _ (hr0 trivial)) (v := .int (r.getD j 0)) (atI_nat (by rw [List.getElem?_map, hrj]; rfl)) ?_
          walk_at "sx"
          rename_i p np H4 s4 h4
          have hD4 := s4 _ _ hD'
          obtain ⟨ts', e1, e2, e3⟩ := pts_step (H2 := upd H4 D2 (.lst (ts.map rf ++ [.ref p]))) hD4 (pt.same s4) (put_keep rfl) upd_same h4 (by have := lt j (List.mem_of_getElem? hj); show ((j : Nat) : Int).natAbs < 100; omega)
          exact ⟨_, hD4, by rw [List.length_map, sizeLine_eq]; omega, Sx.Same.put (s'.trans s4) hD2, ts', e1, e2, by omega⟩
        · rintro H4 ⟨s4, ts, hD4, pt, lts⟩
          rw [List.length_map] at lts
          have hT : True → H4 D2 = some (.lst (ts.map rf)) := fun _ => hD4
          clear hD4
          have F4 := F3.same s4
          have K14 : Keep a H H4 := K13.trans (Keep.same s4)
          have aD2 : a ≠ D2 := F3.ne hD2
          have fin : ∀ (H5 : Hp) (ts : List (Addr × List Int)), Flow H5 a → Keep a H H5 → H5 D2 = some (.lst (ts.map rf)) → PtsAt H5 2 ts → ts.length ≤ 8 → ∀ p, H5 p = none → Q (.ref p) (upd H5 p (.tup (ts.map rf))) := by
            intro H5 ts F5 K5 h5 p5 l5 p np
            have s5 : Same H5 (upd H5 p (.tup (ts.map rf))) := Same.new np
            exact k p ts _ (F5.same s5) (K5.trans (Keep.same s5)) upd_same (p5.same s5) l5
          walk_at "sx"
          refine ⟨_, _, rfl, .inl ⟨_, SqL.of (hT trivial), rfl⟩, ?_⟩
          walk_at "sx"
          rw [List.length_map]
          refine i_2 (fun g1 => ?_) (fun g1 => ?_)
          rotate_left
          · walk_at "sx"
            exact ⟨D2, _, rfl, .inl ⟨SqL.of (hT trivial), fin H4 ts F4 K14 (hT trivial) pt (by omega)⟩⟩
          walk_at "sx"
          refine c_take F4 (by decide) (by decide) (fun d6 H5 l6 u6 F5 K5 => ?_)
          have hT5 : True → H5 D2 = some (.lst (ts.map rf)) := fun _ => K5 _ _ aD2.symm (hT trivial)
          have pt5 := pt.flow K5 F4
          have K15 := K14.trans K5
          walk_at "sx"
          refine i_2 (fun g2 => ?_) (fun g2 => ?_)
          rotate_left
          · walk_at "sx"
            exact ⟨D2, _, rfl, .inl ⟨SqL.of (hT5 trivial), fin H5 ts F5 K15 (hT5 trivial) pt5 (by omega)⟩⟩
          walk_at "sx"
          refine ⟨_, _, rfl, .inl ⟨_, SqL.of (hT5 trivial), rfl⟩, ?_⟩
          walk_at "sx"
          rw [List.length_map]
          refine c_take F5 (by omega) (by omega) (fun d7 H6 l7 u7 F6 K6 => ?_)
          obtain ⟨e', rfl⟩ := Int.eq_ofNat_of_zero_le l7
          have he' : e' < ts.length := by omega
          obtain ⟨⟨q, qv⟩, hq⟩ : ∃ z, ts[e']? = some z := ⟨_, List.getElem?_eq_getElem he'⟩
          have hT6 := K6 _ _ aD2.symm (hT5 trivial)
          have pt6 := pt5.flow K6 F5
          have K16 := K15.trans K6
          have zq := pt6 _ (List.mem_of_getElem? hq)
          simp only at zq
          obtain ⟨x, y, rfl⟩ : ∃ x y, qv = [x, y] := by
            match qv, zq.2.1 with
            | [x, y], _ => exact ⟨x, y, rfl⟩
          have aq : atI (ts.map rf) (e' : Int) = some (.ref q) := atI_nat (by rw [List.getElem?_map, hq]; rfl)
          have zq1 := zq.1
          refine s_name ?_
          dsimp only
          refine s_seq (s_asg (s_tup (s_cons (s_op (s_op (s_var rfl (s_var rfl ?_)))))))
          refine r_ixL hT6 aq ?_
          refine s_c ?_
          refine r_ixT zq1 (v := .int x) rfl ?_
          refine s_cons (s_op (s_c (s_op (s_op (s_var rfl (s_var rfl ?_))))))
          refine r_ixL hT6 aq ?_
          refine s_c ?_
          refine r_ixT zq1 (v := .int y) rfl ?_
          have hT6' : True → H6 D2 = some (.lst (ts.map rf)) := fun _ => hT6
          clear hT6
          walk_at "sx"
          rename_i pn npn H7 s7 h7
          have hT7 := s7 _ _ (hT6' trivial)
          refine r_setL hT7 (ix_in (by rw [List.length_map]; exact he')) (fun H8 k8 h8 => ?_)
          have h8' : H8 D2 = some (.lst ((ts.set e' (pn, [x, 1 - y])).map rf)) := by rw [h8, List.map_set]
          have pt8 : PtsAt H8 2 (ts.set e' (pn, [x, 1 - y])) := fun z hz => by
            rcases List.mem_or_eq_of_mem_set hz with h | h
            · exact (pt6.same s7).keep k8 hT7 z h
            · rw [h]
              exact ⟨k8 _ _ (ne_tl h7 hT7) h7, rfl, zq.2.2⟩
          have aD8 := aD2
          clear h8 h7
          walk_at "sx"
          refine ⟨D2, _, rfl, .inl ⟨SqL.of h8', fin H8 _ ((F6.same s7).keep k8 aD2) (fun b o hb h => k8 b o (ne_of_none h (Keep.free K13 aD2.symm hD2)) (s7 _ _ (K16 b o hb h))) h8' pt8 (by rw [List.length_set]; omega)⟩⟩
end
end K07

set_option Elab.async false
set_option linter.all false
set_option maxRecDepth 100000
set_option maxHeartbeats 4000000
namespace K07
open PySem L2 Sx
local macro_rules | `(tactic| walk_at "cond") => `(tactic| first
  | assumption
  | decide
  | exact c_mul_r (by first | decide | omega) (by first | decide | omega)
  | exact c_mul_l (by first | decide | omega) (by first | decide | omega)
  | exact c_div (by first | decide | omega) (by first | decide | omega)
  | exact c_pow (by first | decide | omega) (by first | decide | omega) (by first | decide | omega)
  | omega)
local macro_rules | `(tactic| walk_at "ne") => `(tactic| first
  | assumption
  | (refine Ne.symm ?_; assumption)
  | (refine' Flow.ne ?nh ?nn; (case nn => assumption); (case nh => walk_at "fl"))
  | (refine Ne.symm ?_; refine' Flow.ne ?nh ?nn; (case nn => assumption); (case nh => walk_at "fl"))
  | (refine' ne_of_none ?nh ?nn; (case nn => assumption); (case nh => walk_at "at"))
  | (refine Ne.symm ?_; refine' ne_of_none ?nh ?nn; (case nn => assumption); (case nh => walk_at "at")))
local macro_rules | `(tactic| walk_at "at") => `(tactic| first
  | assumption
  | (refine Same.up (by assumption) ?_; walk_at "at")
  | (refine Keep.up (by assumption) (by walk_at "ne") ?_; walk_at "at"))
local macro_rules | `(tactic| walk_at "fl") => `(tactic| first
  | assumption
  | (refine Flow.same (by assumption) ?_; walk_at "fl")
  | (refine Flow.keep (by assumption) (by walk_at "ne") ?_; walk_at "fl"))
local macro_rules | `(tactic| walk_at "fr") => `(tactic| first
  | assumption
  | (refine same_free (by assumption) ?_; walk_at "fr")
  | (refine Keep.free (by assumption) (by walk_at "ne") ?_; walk_at "fr"))
local macro_rules | `(tactic| walk_at "kp") => `(tactic| first
  | assumption
  | exact Keep.refl _ _
  | (refine Keep.trans ?_ (by assumption); walk_at "kp")
  | (refine Keep.trans ?_ (Keep.same (by assumption)); walk_at "kp"))
local macro_rules | `(tactic| walk_at "sm") => `(tactic| first
  | assumption
  | exact L2.Same.refl _
  | (refine L2.Same.trans ?_ (by assumption); walk_at "sm"))
local macro_rules | `(tactic| walk_at "sz") => `(tactic| first | exact Nat.le_of_ble_eq_true rfl | omega)
local macro_rules | `(tactic| walk_at "new") => `(tactic| (intro p np; generalize hE : upd _ p _ = H2; have s2 := new_same np hE; have h2 := new_at hE; clear hE))
local macro_rules | `(tactic| walk_at "newx") => `(tactic| (intro e d na nd hda; generalize hE : upd (upd _ d _) e _ = H2; have s2 := newx_same na nd hE; have h2 := newx_at hE; have h3 := newx_d hda hE; clear hE))
local macro_rules | `(tactic| walk_at "s1") => `(tactic| first
  | with_reducible refine s_seq ?_
  | with_reducible refine s_asg ?_
  | with_reducible refine s_name ?_
  | with_reducible refine s_ret ?_
  | with_reducible refine s_c ?_
  | ((with_reducible refine' s_var ?hv ?_); (case hv => rfl))
  | with_reducible refine s_op ?_
  | with_reducible refine s_un ?_
  | with_reducible refine s_ifS ?_
  | with_reducible refine s_cb ?_
  | with_reducible refine s_cons ?_
  | with_reducible refine s_nil ?_
  | with_reducible refine s_call ?_
  | with_reducible refine s_test ?_
  | with_reducible refine s_tB ?_
  | with_reducible refine s_bl ?_
  | with_reducible refine s_and ?_
  | with_reducible refine s_or ?_
  | with_reducible refine s_not ?_
  | with_reducible refine s_andV ?_
  | with_reducible refine s_orV ?_
  | with_reducible refine s_notV ?_
  | with_reducible refine s_blV ?_
  | with_reducible refine s_if ?_
  | with_reducible refine s_tup ?_
  | with_reducible refine s_lst ?_
  | with_reducible refine s_drop ?_
  | with_reducible refine s_next ?_
  | with_reducible refine s_sub ?_
  | with_reducible refine s_bm ?_
  | with_reducible refine s_callK ?_
  | with_reducible refine s_brk ?_
  | with_reducible refine s_cont ?_
  | with_reducible refine r_I0 ?_
  | with_reducible refine r_U ?_
  | with_reducible refine r_eqI ?_
  | with_reducible refine r_neI ?_
  | with_reducible refine r_isB ?_
  | with_reducible refine r_notB ?_
  | with_reducible refine i_t ?_
  | with_reducible refine i_f ?_
  | with_reducible refine i_nt ?_
  | with_reducible refine i_nf ?_
  | ((with_reducible refine' r_I ?hc ?_); (case hc => walk_at "cond"))
  | (with_reducible refine .inl ⟨_, rfl, ?_⟩)
  | (with_reducible refine ⟨_, rfl, ?_⟩)
  | ((with_reducible refine' r_ixL ?hx ?ha ?_); (case hx => walk_at "at"); (case ha => rfl))
  | ((with_reducible refine' r_ixT ?hx ?ha ?_); (case hx => walk_at "at"); (case ha => rfl))
  | ((with_reducible refine' r_setL ?hx ?ha ?_); (case hx => walk_at "at"); (case ha => rfl); intro H2 k2 h2; (try dsimp only [List.set, Int.toNat] at h2))
  | ((with_reducible refine' r_app ?hx ?hl ?_); (case hx => walk_at "at"); (case hl => first | exact Nat.lt_of_ble_eq_true rfl | omega); intro H2 k2 h2)
  | ((with_reducible refine' ty_list ?hx ?_); (case hx => walk_at "at"))
  | (refine And.intro (by (with_reducible show _ ≤ sizeLine); walk_at "sz") ?_; walk_at "new")
  | with_reducible refine s_exv ?_
  | walk_at "newx")
local macro_rules | `(tactic| walk_at "sx") => `(tactic| repeat (walk_at "s1"))
local macro_rules | `(tactic| walk_at "s2") => `(tactic| first
  | ((with_reducible refine' r_ixG ?hx ?hn ?_); (case hx => walk_at "at"); (case hn => omega))
  | ((with_reducible refine' r_ixGT ?hx ?hn ?_); (case hx => walk_at "at"); (case hn => omega))
  | (with_reducible refine ig_cons (fun hix => ?_) (fun hix => ?_))
  | ((with_reducible refine ig_nil ?_); omega)
  | ((with_reducible refine' i_T ?hc ?_); (case hc => omega))
  | ((with_reducible refine' i_F ?hc ?_); (case hc => omega))
  | (with_reducible refine i_2 (fun hc => ?_) (fun hc => ?_))
  | (with_reducible refine i_n2 (fun hc => ?_) (fun hc => ?_)))
local macro_rules | `(tactic| walk_at "go") => `(tactic| repeat' (first | walk_at "s1" | walk_at "s2"))

local macro_rules | `(tactic| walk_at "s1") => `(tactic| first
  | with_reducible refine s_chain ?_
  | with_reducible refine s_fldS ?_
  | with_reducible refine s_fld ?_
  | with_reducible refine s_dIn ?_
  | with_reducible refine s_dNotIn ?_
  | with_reducible refine s_sl ?_
  | with_reducible refine s_noPart ?_
  | with_reducible refine s_part ?_
  | with_reducible refine s_meth ?_
  | with_reducible refine s_make ?_)

theorem al_tup {H : Hp} {d : Nat} {p : Addr} {xs : List V} (h : H p = some (.tup xs)) (sz : xs.length < 1000) (e : ∀ x ∈ xs, Al H d x x) : Al H (d + 1) (.ref p) (.ref p) := by
  refine .tup h h rfl sz fun i x y hx hy => ?_
  rw [hx] at hy
  cases hy
  exact e x (List.mem_of_getElem? hx)
theorem al_lst {H : Hp} {d : Nat} {p : Addr} {xs : List V} (h : H p = some (.lst xs)) (sz : xs.length < 1000) (e : ∀ x ∈ xs, Al H d x x) : Al H (d + 1) (.ref p) (.ref p) := by
  refine .lst h h rfl sz fun i x y hx hy => ?_
  rw [hx] at hy
  cases hy
  exact e x (List.mem_of_getElem? hx)
theorem pts_al {H : Hp} {d c : Nat} {ts : List (Addr × List Int)} (h : PtsAt H c ts) (c9 : c ≤ 9) : ∀ x ∈ ts.map rf, Al H (d + 1) x x := fun x hx => by
  obtain ⟨q, hq, rfl⟩ := List.mem_map.mp hx
  obtain ⟨h1, h2⟩ := h q hq
  exact al_tup h1 (by rw [List.length_map, h2.1]; omega) fun y hy => by
    obtain ⟨i, _, rfl⟩ := List.mem_map.mp hy
    exact .int i
theorem mem_app {M : V → Prop} {ys zs : List V} (h1 : ∀ x ∈ ys, M x) (h2 : ∀ x ∈ zs, M x) : ∀ x ∈ ys ++ zs, M x := fun x hx => by
  rcases List.mem_append.mp hx with h | h
  · exact h1 x h
  · exact h2 x h
theorem mem_1 {M : V → Prop} {y : V} (h : M y) : ∀ x ∈ [y], M x := fun x hx => by
  rw [List.mem_singleton.mp hx]
  exact h
theorem mem_2 {M : V → Prop} {y z : V} (h : M y) (h2 : M z) : ∀ x ∈ [y, z], M x := fun x hx => by
  simp only [List.mem_cons, List.not_mem_nil, or_false] at hx
  rcases hx with rfl | rfl
  · exact h
  · exact h2
theorem r_cut {K : PySem.W.Frag} {H : Hp} {Q : VK} {p : Addr} {xs : List V} {lo hi : Option Int} (h : H p = some (.tup xs)) (q : ∀ p' H2 ys, Same H H2 → H2 p' = some (.tup ys) → (∀ y ∈ ys, y ∈ xs) → ys.length ≤ xs.length → Q (.ref p') H2) : rSlA K (.ref p) lo hi H Q := by
  have sub : ∀ y ∈ cutV xs lo hi, y ∈ xs := fun y hy => List.mem_of_mem_drop (List.mem_of_mem_take hy)
  refine ⟨p, xs, rfl, SqT.of h, fun z => q p H xs (L2.Same.refl H) h (fun y hy => hy) (Nat.le_refl _), fun _ p' np => q p' _ _ (Sx.Same.new np) upd_same sub (cutV_length xs lo hi)⟩
section
variable {P : Program} {w : World} {K : PySem.W.Frag} {mg : Str → Option Value} {base : Heap} {A : Ad}
def spSpoilt : Sp := fun vs H Q _ => ∃ (a p : Addr) (n : Nat) (ts : List (Addr × List Int)), vs = [.ref a, .ref p, .int n] ∧ Flow H a ∧ n ≤ 8 ∧ H p = some (.tup (ts.map rf)) ∧ PtsAt H 2 ts ∧ ts.length ≤ 8 ∧
  ∀ v H', Flow H' a → Keep a H H' → Al H' 4 v v → Q v H'
theorem ok_spoilt (T : Txt P K mg A) : FnOk P w K mg base CX0 2 A.a__law_spoilt A.d__law_spoilt ["flow", "value", "size"] spSpoilt := by
  refine T.F__law_spoilt.ok sc__law_spoilt (fun vs H Q E h => ?_) (fun cdv A' outer s H vs Q E hr h => ?_)
  · obtain ⟨a, p, n, ts, rfl, _⟩ := h
    rfl
  · obtain ⟨a, p, n, ts, rfl, hF, n8, hp0, pt, t8, k⟩ := h
    have hp : True → H p = some (.tup (ts.map rf)) := fun _ => hp0
    clear hp0
    have G__law_take := ok_take (w := w) (base := base) T
    refine ⟨_, (pss_cons (ps_set (i := 3) sc__law_spoilt.nd rfl (Or.inl rfl) (pe_call G__law_take (hr.mono (by decide)) rfl T.g__law_take T.F__law_take.kp (B__law_take T) .nil pass0 (pa_cons (pv 0) (pa_cons pe_int pa_nil))))
  (pss_cons (ps_if (pt_cmpR op_eq (pv 3) pe_int (nomark _)) (pss_one (ps_ret (pe_callTy call_list_of (by rfl) T.n_list (by decide +kernel) (pa_cons (pv 1) pa_nil)))) pss_nil)
  (pss_cons (ps_if (pt_cmpR op_eq (pv 3) pe_int (nomark _)) (pss_one (ps_ret (pe_ix ix_seq (pe_lst (pa_cons pe_non (pa_cons pe_int (pa_cons pe_bl (pa_cons pe_str (pa_cons pe_str (pa_cons (pe_lst pa_nil) (pa_cons (pe_tup (pa_cons pe_int (pa_cons pe_int pa_nil))) (pa_cons (pe_tup (pa_cons (pe_tup (pa_cons pe_int pa_nil)) pa_nil)) (pa_cons (pe_tup (pa_cons (pe_tup (pa_cons (pe_tup (pa_cons pe_int (pa_cons pe_int pa_nil))) pa_nil)) pa_nil)) pa_nil)))))))))) (pe_call G__law_take (hr.mono (by decide)) rfl T.g__law_take T.F__law_take.kp (B__law_take T) .nil pass0 (pa_cons (pv 0) (pa_cons pe_int pa_nil))) (fun _ _ => rfl)))) pss_nil)
  (pss_cons (ps_if (pt_cmpR op_eq (pv 3) pe_int (nomark _)) (pss_one (ps_ret (pe_op op_catA (pv 1) (pe_tup (pa_cons (pe_tup (pa_cons (pv 2) (pa_cons pe_int pa_nil))) pa_nil))))) pss_nil)
  (pss_cons (ps_if (pt_cmpR op_eq (pv 3) pe_int (nomark _)) (pss_one (ps_ret (pe_op op_catA (pe_tup (pa_cons (pe_tup (pa_cons (pe_un un_neg pe_int) (pa_cons pe_int pa_nil))) pa_nil)) (pv 1)))) pss_nil)
  (pss_cons (ps_if (pt_cmpR op_eq (pe_callB call_len (by rfl) T.n_len (by decide +kernel) (pa_cons (pv 1) pa_nil)) pe_int (nomark _)) (pss_one (ps_ret (pe_ix ix_seq (pe_lst (pa_cons (pe_tup (pa_cons (pe_tup (pa_cons pe_int (pa_cons pe_int pa_nil))) pa_nil)) (pa_cons (pe_tup (pa_cons (pe_tup (pa_cons pe_bl (pa_cons pe_int pa_nil))) pa_nil)) (pa_cons (pe_tup (pa_cons (pe_lst (pa_cons pe_int (pa_cons pe_int pa_nil))) pa_nil)) (pa_cons (pe_tup (pa_cons (pe_tup (pa_cons pe_int (pa_cons pe_int pa_nil))) pa_nil)) pa_nil))))) (pe_call G__law_take (hr.mono (by decide)) rfl T.g__law_take T.F__law_take.kp (B__law_take T) .nil pass0 (pa_cons (pv 0) (pa_cons pe_int pa_nil))) (fun _ _ => rfl)))) pss_nil)
  (pss_cons (ps_if (pt_cmpR op_eq (pv 3) pe_int (nomark _)) (pss_one (ps_ret (pe_revT (pv 1)))) pss_nil)
  (pss_cons (ps_set (i := 4) sc__law_spoilt.nd rfl (Or.inl rfl) (pe_call G__law_take (hr.mono (by decide)) rfl T.g__law_take T.F__law_take.kp (B__law_take T) .nil pass0 (pa_cons (pv 0) (pa_cons (pe_callB call_len (by rfl) T.n_len (by decide +kernel) (pa_cons (pv 1) pa_nil)) pa_nil))))
  (pss_cons (ps_set (i := 5) sc__law_spoilt.nd rfl (Or.inl rfl) (pe_ix ix_seq (pe_ix ix_seq (pv 1) (pv 4) (fun _ _ => rfl)) pe_int (fun _ _ => rfl)))
  (pss_cons (ps_set (i := 6) sc__law_spoilt.nd rfl (Or.inl rfl) (pe_ix ix_seq (pe_ix ix_seq (pv 1) (pv 4) (fun _ _ => rfl)) pe_int (fun _ _ => rfl)))
  (pss_cons (ps_if (pt_cmpR op_eq (pv 3) pe_int (nomark _)) (pss_one (ps_ret (pe_op op_catA (pe_op op_catA (pe_slice sl_tupA (pv 1) po_none (po_some (pv 4))) (pe_tup (pa_cons (pe_ix ix_seq (pv 1) (pv 4) (fun _ _ => rfl)) (pa_cons (pe_tup (pa_cons (pv 5) (pa_cons (pe_op op_sub pe_int (pv 6)) pa_nil))) pa_nil)))) (pe_slice sl_tupA (pv 1) (po_some (pe_op op_add (pv 4) pe_int)) po_none)))) pss_nil)
  (pss_cons (ps_if (pt_cmpR op_eq (pv 3) pe_int (nomark _)) (pss_one (ps_ret (pe_op op_catA (pe_slice sl_tupA (pv 1) po_none (po_some (pe_op op_add (pv 4) pe_int))) (pe_slice sl_tupA (pv 1) (po_some (pv 4)) po_none)))) pss_nil)
  (pss_cons (ps_set (i := 7) sc__law_spoilt.nd rfl (Or.inl rfl) (pe_lst (pa_cons (pe_tup (pa_cons (pv 5) (pa_cons (pe_cmpR op_eq (pv 6) pe_int (nomark _)) pa_nil))) (pa_cons (pe_tup (pa_cons (pv 5) (pa_cons pe_int pa_nil))) (pa_cons (pe_tup (pa_cons (pv 5) (pa_cons (pe_un un_neg pe_int) pa_nil))) (pa_cons (pe_tup (pa_cons (pv 5) (pa_cons pe_non pa_nil))) (pa_cons (pe_tup (pa_cons (pv 5) (pa_cons pe_str pa_nil))) (pa_cons (pe_tup (pa_cons (pv 5) pa_nil)) pa_nil))))))))
  (pss_cons (ps_set (i := 7) sc__law_spoilt.nd rfl (Or.inl rfl) (pe_op op_cat (pv 7) (pe_lst (pa_cons (pe_tup (pa_cons (pv 5) (pa_cons (pv 6) (pa_cons pe_int pa_nil)))) (pa_cons (pe_lst (pa_cons (pv 5) (pa_cons (pv 6) pa_nil))) (pa_cons (pv 5) (pa_cons pe_non (pa_cons (pe_tup (pa_cons (pe_tup (pa_cons (pv 5) (pa_cons (pv 6) pa_nil))) pa_nil)) (pa_cons (pe_tup (pa_cons (pe_callTy call_str_int (by rfl) T.n_str (by decide +kernel) (pa_cons (pv 5) pa_nil)) (pa_cons (pv 6) pa_nil))) (pa_cons (pe_tup pa_nil) pa_nil))))))))))
  (pss_cons (ps_set (i := 7) sc__law_spoilt.nd rfl (Or.inl rfl) (pe_op op_cat (pv 7) (pe_lst (pa_cons (pe_tup (pa_cons (pe_cmpR op_eq (pv 5) pe_int (nomark _)) (pa_cons (pv 6) pa_nil))) (pa_cons (pe_tup (pa_cons pe_non (pa_cons (pv 6) pa_nil))) (pa_cons (pe_tup (pa_cons (pv 6) (pa_cons (pv 5) pa_nil))) (pa_cons (pe_tup (pa_cons (pe_op op_add (pv 2) (pv 5)) (pa_cons (pv 6) pa_nil))) (pa_cons (pe_tup (pa_cons (pe_op op_sub (pe_un un_neg pe_int) (pv 5)) (pa_cons (pv 6) pa_nil))) pa_nil))))))))
  (pss_one (ps_ret (pe_op op_catA (pe_op op_catA (pe_slice sl_tupA (pv 1) po_none (po_some (pv 4))) (pe_tup (pa_cons (pe_ix ix_seq (pv 7) (pe_call G__law_take (hr.mono (by decide)) rfl T.g__law_take T.F__law_take.kp (B__law_take T) .nil pass0 (pa_cons (pv 0) (pa_cons pe_int pa_nil))) (fun _ _ => rfl)) pa_nil))) (pe_slice sl_tupA (pv 1) (po_some (pe_op op_add (pv 4) pe_int)) po_none))))))))))))))))))), ?_⟩
    walk_at "sx"
    refine c_take hF (by decide) (by decide) (fun d1 H1 l1 u1 F1 K1 => ?_)
    have hp1 : True → H1 p = some (.tup (ts.map rf)) := fun _ => K1 _ _ (fl_ne hF (hp trivial)) (hp trivial)
    have pt1 := pt.flow K1 hF
    have fin : ∀ (G : Hp) (r : Addr) (xs : List V), Same H1 G → G r = some (.tup xs) → xs.length < 1000 → (∀ x ∈ xs, Al G 3 x x) → Q (.ref r) G := fun G r xs s h sz m => k (.ref r) G (F1.same s) (K1.trans (Keep.same s)) (al_tup h sz m)
    have mp : ∀ (G : Hp), Same H1 G → ∀ x ∈ ts.map rf, Al G 3 x x := fun G s => pts_al (pt1.same s) (by decide)
    have lt8 : (ts.map rf).length ≤ 8 := by rw [List.length_map]; exact t8
    walk_at "sx"
    refine i_2 (fun w0 => ?_) (fun w0 => ?_)
    · walk_at "sx"
      refine ⟨p, _, rfl, .inr (SqT.of (hp1 trivial)), fun l nl => ?_⟩
      generalize hE : upd H1 l _ = H4
      have s4 := new_same nl hE
      have h4 := new_at hE
      clear hE
      walk_at "sx"
      exact k (.ref l) H4 (F1.same s4) (K1.trans (Keep.same s4)) (al_lst h4 (by omega) (mp H4 s4))
    walk_at "sx"
    refine i_2 (fun w1 => ?_) (fun w1 => ?_)
    · walk_at "sx"
      rename_i p1 m1 G1 s1 h1 p2 m2 G2 s2 h2 p3 m3 G3 s3 h3 p4 m4 G4 s4 h4 p5 m5 G5 s5 h5 p6 m6 G6 s6 h6 p7 m7 G7 s7 h7 p8 m8 G8 s8 h8
      have S7 : Same H1 G7 := s1.trans (s2.trans (s3.trans (s4.trans (s5.trans (s6.trans s7)))))
      have S : Same H1 G8 := S7.trans s8
      refine c_take (F1.same S) (by decide) (by decide) (fun d2 H9 l2 u2 F9 K9 => ?_)
      have tl : ∀ {b : Addr} {xs : List V}, G8 b = some (.tup xs) → H9 b = some (.tup xs) := fun {b xs} h => K9 _ _ (fl_ne (F1.same S) h) h
      have g1 := K9 _ _ (F1.ne m1).symm (s8 _ _ (s7 _ _ (s6 _ _ (s5 _ _ (s4 _ _ (s3 _ _ (s2 _ _ h1)))))))
      have g2 := tl (s8 _ _ (s7 _ _ (s6 _ _ (s5 _ _ (s4 _ _ (s3 _ _ h2))))))
      have g3 := tl (s8 _ _ (s7 _ _ (s6 _ _ (s5 _ _ (s4 _ _ h3)))))
      have g4 := tl (s8 _ _ (s7 _ _ (s6 _ _ (s5 _ _ h4))))
      have g5 := tl (s8 _ _ (s7 _ _ (s6 _ _ h5)))
      have g6 := tl (s8 _ _ (s7 _ _ h6))
      have g7 := tl (s8 _ _ h7)
      have g8 := K9 _ _ ((F1.same S7).ne m8).symm h8
      have menu : ∃ v, atI [V.non, V.int 0, V.bl true, V.str (Str.ofString ""), V.str (Str.ofString "01"), V.ref p1, V.ref p2, V.ref p4, V.ref p7] d2 = some v ∧ Al H9 4 v v := by
        have h : d2 = 0 ∨ d2 = 1 ∨ d2 = 2 ∨ d2 = 3 ∨ d2 = 4 ∨ d2 = 5 ∨ d2 = 6 ∨ d2 = 7 ∨ d2 = 8 := by omega
        rcases h with rfl | rfl | rfl | rfl | rfl | rfl | rfl | rfl | rfl
        · exact ⟨_, rfl, .non⟩
        · exact ⟨_, rfl, .int _⟩
        · exact ⟨_, rfl, .bl _⟩
        · exact ⟨_, rfl, .str _⟩
        · exact ⟨_, rfl, .str _⟩
        · exact ⟨_, rfl, al_lst g1 (show 0 < 1000 by decide) fun x hx => nomatch hx⟩
        · exact ⟨_, rfl, al_tup g2 (show 2 < 1000 by decide) (mem_2 (.int _) (.int _))⟩
        · exact ⟨_, rfl, al_tup g4 (show 1 < 1000 by decide) (mem_1 (al_tup g3 (show 1 < 1000 by decide) (mem_1 (.int _))))⟩
        · exact ⟨_, rfl, al_tup g7 (show 1 < 1000 by decide) (mem_1 (al_tup g6 (show 1 < 1000 by decide) (mem_1 (al_tup g5 (show 2 < 1000 by decide) (mem_2 (.int _) (.int _))))))⟩
      obtain ⟨v, ev, vv⟩ := menu
      refine r_ixL g8 ev ?_
      exact k v H9 F9 (K1.trans ((Keep.same S).trans K9)) vv
    walk_at "sx"
    refine i_2 (fun w2 => ?_) (fun w2 => ?_)
    · walk_at "sx"
      rename_i p1 m1 G1 s1 h1 p2 m2 G2 s2 h2
      have S := s1.trans s2
      refine r_cat (S _ _ (hp1 trivial)) h2 (by rw [sizeLine_eq]; show _ + 1 ≤ _; omega) fun p3 G3 s3 h3 => ?_
      have S3 := S.trans s3
      exact fin G3 p3 _ S3 h3 (by rw [List.length_append]; show _ + 1 < _; omega) (mem_app (mp G3 S3) (mem_1 (al_tup (s3 _ _ (s2 _ _ h1)) (show 2 < 1000 by decide) (mem_2 (.int _) (.int _)))))
    walk_at "sx"
    refine i_2 (fun w3 => ?_) (fun w3 => ?_)
    · walk_at "sx"
      rename_i p1 m1 G1 s1 h1 p2 m2 G2 s2 h2
      have S := s1.trans s2
      refine r_cat h2 (S _ _ (hp1 trivial)) (by rw [sizeLine_eq]; show 1 + _ ≤ _; omega) fun p3 G3 s3 h3 => ?_
      have S3 := S.trans s3
      exact fin G3 p3 _ S3 h3 (by rw [List.length_append]; show 1 + _ < _; omega) (mem_app (mem_1 (al_tup (s3 _ _ (s2 _ _ h1)) (show 2 < 1000 by decide) (mem_2 (.int _) (.int _)))) (mp G3 S3))
    walk_at "sx"
    refine ⟨_, _, rfl, .inr ⟨_, SqT.of (hp1 trivial), rfl⟩, ?_⟩
    walk_at "sx"
    rw [List.length_map]
    refine i_2 (fun w4 => ?_) (fun w4 => ?_)
    · walk_at "sx"
      rename_i p1 m1 G1 s1 h1 p2 m2 G2 s2 h2 p3 m3 G3 s3 h3 p4 m4 G4 s4 h4 p5 m5 G5 s5 h5 p6 m6 G6 s6 h6 p7 m7 G7 s7 h7 p8 m8 G8 s8 h8 p9 m9 G9 s9 h9
      have S8 : Same H1 G8 := s1.trans (s2.trans (s3.trans (s4.trans (s5.trans (s6.trans (s7.trans s8))))))
      have S : Same H1 G9 := S8.trans s9
      refine c_take (F1.same S) (by decide) (by decide) (fun d2 Hz l2 u2 Fz Kz => ?_)
      have tl : ∀ {b : Addr} {xs : List V}, G9 b = some (.tup xs) → Hz b = some (.tup xs) := fun {b xs} h => Kz _ _ (fl_ne (F1.same S) h) h
      have g1 := tl (s9 _ _ (s8 _ _ (s7 _ _ (s6 _ _ (s5 _ _ (s4 _ _ (s3 _ _ (s2 _ _ h1))))))))
      have g2 := tl (s9 _ _ (s8 _ _ (s7 _ _ (s6 _ _ (s5 _ _ (s4 _ _ (s3 _ _ h2)))))))
      have g3 := tl (s9 _ _ (s8 _ _ (s7 _ _ (s6 _ _ (s5 _ _ (s4 _ _ h3))))))
      have g4 := tl (s9 _ _ (s8 _ _ (s7 _ _ (s6 _ _ (s5 _ _ h4)))))
      have g5 := Kz _ _ ((F1.same (s1.trans (s2.trans (s3.trans s4)))).ne m5).symm (s9 _ _ (s8 _ _ (s7 _ _ (s6 _ _ h5))))
      have g6 := tl (s9 _ _ (s8 _ _ (s7 _ _ h6)))
      have g7 := tl (s9 _ _ (s8 _ _ h7))
      have g8 := tl (s9 _ _ h8)
      have g9 := Kz _ _ ((F1.same S8).ne m9).symm h9
      have menu : ∃ v, atI [V.ref p2, V.ref p4, V.ref p6, V.ref p8] d2 = some v ∧ Al Hz 4 v v := by
        have h : d2 = 0 ∨ d2 = 1 ∨ d2 = 2 ∨ d2 = 3 := by omega
        rcases h with rfl | rfl | rfl | rfl
        · exact ⟨_, rfl, al_tup g2 (show 1 < 1000 by decide) (mem_1 (al_tup g1 (show 2 < 1000 by decide) (mem_2 (.int _) (.int _))))⟩
        · exact ⟨_, rfl, al_tup g4 (show 1 < 1000 by decide) (mem_1 (al_tup g3 (show 2 < 1000 by decide) (mem_2 (.bl _) (.int _))))⟩
        · exact ⟨_, rfl, al_tup g6 (show 1 < 1000 by decide) (mem_1 (al_lst g5 (show 2 < 1000 by decide) (mem_2 (.int _) (.int _))))⟩
        · exact ⟨_, rfl, al_tup g8 (show 1 < 1000 by decide) (mem_1 (al_tup g7 (show 2 < 1000 by decide) (mem_2 (.int _) (.int _))))⟩
      obtain ⟨v, ev, vv⟩ := menu
      refine r_ixL g9 ev ?_
      exact k v Hz Fz (K1.trans ((Keep.same S).trans Kz)) vv
    walk_at "sx"
    refine i_2 (fun w5 => ?_) (fun w5 => ?_)
    · walk_at "sx"
      refine ⟨_, rfl, p, _, rfl, SqT.of (hp1 trivial), fun p' np => ?_⟩
      have sl : Same H1 (upd H1 p' (.tup (ts.map rf).reverse)) := Same.new np
      exact fin _ p' _ sl upd_same (by rw [List.length_reverse]; omega) (fun x hx => mp _ sl x (List.mem_reverse.mp hx))
    walk_at "sx"
    refine ⟨_, _, rfl, .inr ⟨_, SqT.of (hp1 trivial), rfl⟩, ?_⟩
    walk_at "sx"
    rw [List.length_map]
    refine c_take F1 (by omega) (by omega) (fun d2 H2 l2 u2 F2 K2 => ?_)
    obtain ⟨e, rfl⟩ := Int.eq_ofNat_of_zero_le l2
    have he : e < ts.length := by omega
    obtain ⟨⟨z, zv⟩, hz⟩ : ∃ z, ts[e]? = some z := ⟨_, List.getElem?_eq_getElem he⟩
    have hp2 : True → H2 p = some (.tup (ts.map rf)) := fun _ => K2 _ _ (fl_ne F1 (hp1 trivial)) (hp1 trivial)
    have pt2 := pt1.flow K2 F1
    have zq := pt2 _ (List.mem_of_getElem? hz)
    simp only at zq
    obtain ⟨x, y, rfl⟩ : ∃ x y, zv = [x, y] := by
      match zv, zq.2.1 with
      | [x, y], _ => exact ⟨x, y, rfl⟩
    have hz2 : True → H2 z = some (.tup [.int x, .int y]) := fun _ => zq.1
    have hx100 : x.natAbs < 100 := zq.2.2
    clear zq
    have aq : atI (ts.map rf) (e : Int) = some (.ref z) := atI_nat (by rw [List.getElem?_map, hz]; rfl)
    have K12 := K1.trans K2
    have fin2 : ∀ (G : Hp) (r : Addr) (xs : List V), Flow G a → Keep a H2 G → G r = some (.tup xs) → xs.length < 1000 → (∀ x ∈ xs, Al G 3 x x) → Q (.ref r) G := fun G r xs f s h sz m => k (.ref r) G f (K12.trans s) (al_tup h sz m)
    have mp2 : ∀ (G : Hp), Keep a H2 G → ∀ x ∈ ts.map rf, Al G 3 x x := fun G s => pts_al (pt2.flow s F2) (by decide)
    refine s_name ?_
    dsimp only
    refine s_seq (s_asg (s_op (s_op (s_var rfl (s_var rfl ?_)))))
    refine r_ixT (hp2 trivial) aq ?_
    refine s_c ?_
    refine r_ixT (hz2 trivial) (v := .int x) rfl ?_
    refine s_name ?_
    dsimp only
    refine s_seq (s_asg (s_op (s_op (s_var rfl (s_var rfl ?_)))))
    refine r_ixT (hp2 trivial) aq ?_
    refine s_c ?_
    refine r_ixT (hz2 trivial) (v := .int y) rfl ?_
    walk_at "sx"
    refine i_2 (fun w6 => ?_) (fun w6 => ?_)
    · walk_at "sx"
      refine r_cut (hp2 trivial) fun p1 G1 ys s1 h1 m1 b1 => ?_
      refine s_tup (s_cons (s_op (s_var rfl (s_var rfl ?_))))
      refine r_ixT (s1 _ _ (hp2 trivial)) aq ?_
      walk_at "sx"
      rename_i p2 n2 G2 s2 h2 p3 n3 G3 s3 h3
      refine r_cat (s3 _ _ (s2 _ _ h1)) h3 (by rw [sizeLine_eq]; show _ + 2 ≤ _; omega) fun p4 G4 s4 h4 => ?_
      walk_at "sx"
      have S := s1.trans (s2.trans (s3.trans s4))
      refine r_cut (S _ _ (hp2 trivial)) fun p5 G5 zs s5 h5 m5 b5 => ?_
      refine r_cat (s5 _ _ h4) h5 (by rw [sizeLine_eq, List.length_append]; show (_ + 2) + _ ≤ _; omega) fun p6 G6 s6 h6 => ?_
      have S' := S.trans (s5.trans s6)
      have M := mp2 G6 (Keep.same S')
      exact fin2 G6 p6 _ (F2.same S') (Keep.same S') h6 (by rw [List.length_append, List.length_append]; show (_ + 2) + _ < _; omega) (mem_app (mem_app (fun x hx => M x (m1 x hx)) (mem_2 (M _ (by rw [List.mem_map]; exact ⟨_, List.mem_of_getElem? hz, rfl⟩)) (al_tup (s6 _ _ (s5 _ _ (s4 _ _ (s3 _ _ h2)))) (show 2 < 1000 by decide) (mem_2 (.int _) (.int _))))) fun x hx => M x (m5 x hx))
    walk_at "sx"
    refine i_2 (fun w7 => ?_) (fun w7 => ?_)
    · walk_at "sx"
      refine r_cut (hp2 trivial) fun p1 G1 ys s1 h1 m1 b1 => ?_
      walk_at "sx"
      refine r_cut (s1 _ _ (hp2 trivial)) fun p5 G5 zs s5 h5 m5 b5 => ?_
      refine r_cat (s5 _ _ h1) h5 (by rw [sizeLine_eq]; omega) fun p6 G6 s6 h6 => ?_
      have S' := s1.trans (s5.trans s6)
      have M := mp2 G6 (Keep.same S')
      exact fin2 G6 p6 _ (F2.same S') (Keep.same S') h6 (by rw [List.length_append]; omega) (mem_app (fun x hx => M x (m1 x hx)) fun x hx => M x (m5 x hx))
    walk_at "sx"
    refine ⟨?_, ?_⟩
    · exact Nat.lt_of_le_of_lt (Nat.log2_le_self _) (by omega)
    walk_at "sx"
    rename_i q1 m1 G1 s1 h1 q2 m2 G2 s2 h2 q3 m3 G3 s3 h3 q4 m4 G4 s4 h4 q5 m5 G5 s5 h5 q6 m6 G6 s6 h6 L1 mL1 GL1 sL1 hL1 q7 m7 G7 s7 h7 ql ml Gl sl hl q9 m9 G9 s9 h9 q10 m10 G10 s10 h10 q11 m11 G11 s11 h11 q12 m12 G12 s12 h12 L2 mL2 GL2 sL2 hL2
    have Sa : Same H2 GL1 := s1.trans (s2.trans (s3.trans (s4.trans (s5.trans (s6.trans sL1)))))
    have Sb : Same GL1 GL2 := s7.trans (sl.trans (s9.trans (s10.trans (s11.trans (s12.trans sL2)))))
    refine ⟨L1, L2, _, _, rfl, rfl, Sb _ _ hL1, hL2, by rw [sizeLine_eq]; show 6 + 7 ≤ _; omega, fun L3 nL3 => ?_⟩
    generalize hE : upd GL2 L3 _ = G13
    have s13 := new_same nL3 hE
    have h13 := new_at hE
    clear hE
    have al : (Flow G7 a) := F2.same (Sa.trans s7)
    have fl2 : ql ≠ a := (al.ne ml).symm
    have j1 := s13 _ _ (Sb _ _ (sL1 _ _ (s6 _ _ (s5 _ _ (s4 _ _ (s3 _ _ (s2 _ _ h1)))))))
    have j2 := s13 _ _ (Sb _ _ (sL1 _ _ (s6 _ _ (s5 _ _ (s4 _ _ (s3 _ _ h2))))))
    have j3 := s13 _ _ (Sb _ _ (sL1 _ _ (s6 _ _ (s5 _ _ (s4 _ _ h3)))))
    have j4 := s13 _ _ (Sb _ _ (sL1 _ _ (s6 _ _ (s5 _ _ h4))))
    have j5 := s13 _ _ (Sb _ _ (sL1 _ _ (s6 _ _ h5)))
    have j6 := s13 _ _ (Sb _ _ (sL1 _ _ h6))
    have j7 := s13 _ _ (sL2 _ _ (s12 _ _ (s11 _ _ (s10 _ _ (s9 _ _ (sl _ _ h7))))))
    have jl := s13 _ _ (sL2 _ _ (s12 _ _ (s11 _ _ (s10 _ _ (s9 _ _ hl)))))
    have j9 := s13 _ _ (sL2 _ _ (s12 _ _ (s11 _ _ (s10 _ _ h9))))
    have j10 := s13 _ _ (sL2 _ _ (s12 _ _ (s11 _ _ h10)))
    have j11 := s13 _ _ (sL2 _ _ (s12 _ _ h11))
    have j12 := s13 _ _ (sL2 _ _ h12)
    clear h1 h2 h3 h4 h5 h6 h7 hl h9 h10 h11 h12 hL1 hL2 m1 m2 m3 m4 m5 m6 m7 m9 m10 m11 m12
    have Sc : Same H2 G13 := Sa.trans (Sb.trans s13)
    walk_at "sx"
    rename_i r1 o1 E1 t1 g1 r2 o2 E2 t2 g2 r3 o3 E3 t3 g3 r4 o4 E4 t4 g4 r5 o5 E5 t5 g5 L4 oL4 E6 t6 g6
    have Sd : Same G13 E6 := t1.trans (t2.trans (t3.trans (t4.trans (t5.trans t6))))
    refine ⟨L3, L4, _, _, rfl, rfl, Sd _ _ h13, g6, by rw [sizeLine_eq]; show 13 + 5 ≤ _; omega, fun L5 nL5 => ?_⟩
    generalize hE : upd E6 L5 _ = E7
    have t7 := new_same nL5 hE
    have h5l := new_at hE
    clear hE
    have Se : Same H2 E7 := Sc.trans (Sd.trans t7)
    have fl5 : L5 ≠ a := ((F2.same (Sc.trans Sd)).ne nL5).symm
    walk_at "sx"
    refine r_cut (Se _ _ (hp2 trivial)) fun p1 G1 ys s1 h1 m1 b1 => ?_
    walk_at "sx"
    have F7 := F2.same (Se.trans s1)
    refine c_take F7 (by decide) (by decide) (fun d5 Hz l5 u5 Fz Kz => ?_)
    have tl : ∀ {b : Addr} {xs : List V}, G1 b = some (.tup xs) → Hz b = some (.tup xs) := fun {b xs} h => Kz _ _ (fl_ne F7 h) h
    have up : ∀ {b : Addr} {o : HO}, G13 b = some o → G1 b = some o := fun {b o} h => s1 _ _ (t7 _ _ (Sd _ _ h))
    have menu : ∃ v, atI ([V.ref q1, V.ref q2, V.ref q3, V.ref q4, V.ref q5, V.ref q6] ++ [V.ref q7, V.ref ql, V.int x, V.non, V.ref q10, V.ref q11, V.ref q12] ++ [V.ref r1, V.ref r2, V.ref r3, V.ref r4, V.ref r5]) d5 = some v ∧ Al Hz 3 v v := by
      have h : d5 = 0 ∨ d5 = 1 ∨ d5 = 2 ∨ d5 = 3 ∨ d5 = 4 ∨ d5 = 5 ∨ d5 = 6 ∨ d5 = 7 ∨ d5 = 8 ∨ d5 = 9 ∨ d5 = 10 ∨ d5 = 11 ∨ d5 = 12 ∨ d5 = 13 ∨ d5 = 14 ∨ d5 = 15 ∨ d5 = 16 ∨ d5 = 17 := by omega
      rcases h with rfl | rfl | rfl | rfl | rfl | rfl | rfl | rfl | rfl | rfl | rfl | rfl | rfl | rfl | rfl | rfl | rfl | rfl
      · exact ⟨_, rfl, (al_tup (tl (up j1)) (show 2 < 1000 by decide) (mem_2 (.int _) (.bl _)))⟩
      · exact ⟨_, rfl, (al_tup (tl (up j2)) (show 2 < 1000 by decide) (mem_2 (.int _) (.int _)))⟩
      · exact ⟨_, rfl, (al_tup (tl (up j3)) (show 2 < 1000 by decide) (mem_2 (.int _) (.int _)))⟩
      · exact ⟨_, rfl, (al_tup (tl (up j4)) (show 2 < 1000 by decide) (mem_2 (.int _) .non))⟩
      · exact ⟨_, rfl, (al_tup (tl (up j5)) (show 2 < 1000 by decide) (mem_2 (.int _) (.str _)))⟩
      · exact ⟨_, rfl, (al_tup (tl (up j6)) (show 1 < 1000 by decide) (mem_1 (.int _)))⟩
      · exact ⟨_, rfl, (al_tup (tl (up j7)) (show 3 < 1000 by decide) (mem_app (ys := [V.int x, V.int y]) (mem_2 (.int _) (.int _)) (mem_1 (.int _))))⟩
      · exact ⟨_, rfl, (al_lst (Kz _ _ fl2 (up jl)) (show 2 < 1000 by decide) (mem_2 (.int _) (.int _)))⟩
      · exact ⟨_, rfl, (.int _)⟩
      · exact ⟨_, rfl, .non⟩
      · exact ⟨_, rfl, (al_tup (tl (up j10)) (show 1 < 1000 by decide) (mem_1 (al_tup (tl (up j9)) (show 2 < 1000 by decide) (mem_2 (.int _) (.int _)))))⟩
      · exact ⟨_, rfl, (al_tup (tl (up j11)) (show 2 < 1000 by decide) (mem_2 (.str _) (.int _)))⟩
      · exact ⟨_, rfl, (al_tup (tl (up j12)) (show 0 < 1000 by decide) (fun x hx => nomatch hx))⟩
      · exact ⟨_, rfl, (al_tup (tl (s1 _ _ (t7 _ _ (t6 _ _ (t5 _ _ (t4 _ _ (t3 _ _ (t2 _ _ g1)))))))) (show 2 < 1000 by decide) (mem_2 (.bl _) (.int _)))⟩
      · exact ⟨_, rfl, (al_tup (tl (s1 _ _ (t7 _ _ (t6 _ _ (t5 _ _ (t4 _ _ (t3 _ _ g2))))))) (show 2 < 1000 by decide) (mem_2 .non (.int _)))⟩
      · exact ⟨_, rfl, (al_tup (tl (s1 _ _ (t7 _ _ (t6 _ _ (t5 _ _ (t4 _ _ g3)))))) (show 2 < 1000 by decide) (mem_2 (.int _) (.int _)))⟩
      · exact ⟨_, rfl, (al_tup (tl (s1 _ _ (t7 _ _ (t6 _ _ (t5 _ _ g4))))) (show 2 < 1000 by decide) (mem_2 (.int _) (.int _)))⟩
      · exact ⟨_, rfl, (al_tup (tl (s1 _ _ (t7 _ _ (t6 _ _ g5)))) (show 2 < 1000 by decide) (mem_2 (.int _) (.int _)))⟩
    obtain ⟨v, ev, vv⟩ := menu
    refine r_ixL (Kz _ _ fl5 (s1 _ _ h5l)) ev ?_
    have KG : Keep a H2 Hz := (Keep.same (Se.trans s1)).trans Kz
    have hp7 : True → Hz p = some (.tup (ts.map rf)) := fun _ => KG _ _ (fl_ne F2 (hp2 trivial)) (hp2 trivial)
    have h1z := tl h1
    clear h5l g1 g2 g3 g4 g5 g6 j1 j2 j3 j4 j5 j6 j7 jl j9 j10 j11 j12 h13
    walk_at "sx"
    rename_i p3 n3 G3 s3 h3
    refine r_cat (s3 _ _ h1z) h3 (by rw [sizeLine_eq]; show _ + 1 ≤ _; omega) fun p4 G4 s4 h4 => ?_
    walk_at "sx"
    have S := s3.trans s4
    refine r_cut (S _ _ (hp7 trivial)) fun p5 G5 zs s5 h5 m5 b5 => ?_
    refine r_cat (s5 _ _ h4) h5 (by rw [sizeLine_eq, List.length_append]; show (_ + 1) + _ ≤ _; omega) fun p6 G6 s6 h6 => ?_
    have S' := S.trans (s5.trans s6)
    have KG' : Keep a H2 G6 := KG.trans (Keep.same S')
    have M := mp2 G6 KG'
    exact fin2 G6 p6 _ (Fz.same S') KG' h6 (by rw [List.length_append, List.length_append]; show (_ + 1) + _ < _; omega) (mem_app (mem_app (fun x hx => M x (m1 x hx)) (mem_1 (vv.same S'))) fun x hx => M x (m5 x hx))
end
end K07

set_option Elab.async false
set_option linter.all false
set_option maxRecDepth 100000
set_option maxHeartbeats 4000000
namespace K07
open PySem L2 Sx
local macro_rules | `(tactic| walk_at "cond") => `(tactic| first
  | assumption
  | decide
  | exact c_mul_r (by first | decide | omega) (by first | decide | omega)
  | exact c_mul_l (by first | decide | omega) (by first | decide | omega)
  | exact c_div (by first | decide | omega) (by first | decide | omega)
  | exact c_pow (by first | decide | omega) (by first | decide | omega) (by first | decide | omega)
  | omega)
local macro_rules | `(tactic| walk_at "ne") => `(tactic| first
  | assumption
  | (refine Ne.symm ?_; assumption)
  | (refine' Flow.ne ?nh ?nn; (case nn => assumption); (case nh => walk_at "fl"))
  | (refine Ne.symm ?_; refine' Flow.ne ?nh ?nn; (case nn => assumption); (case nh => walk_at "fl"))
  | (refine' ne_of_none ?nh ?nn; (case nn => assumption); (case nh => walk_at "at"))
  | (refine Ne.symm ?_; refine' ne_of_none ?nh ?nn; (case nn => assumption); (case nh => walk_at "at")))
local macro_rules | `(tactic| walk_at "at") => `(tactic| first
  | assumption
  | (refine Same.up (by assumption) ?_; walk_at "at")
  | (refine Keep.up (by assumption) (by walk_at "ne") ?_; walk_at "at"))
local macro_rules | `(tactic| walk_at "fl") => `(tactic| first
  | assumption
  | (refine Flow.same (by assumption) ?_; walk_at "fl")
  | (refine Flow.keep (by assumption) (by walk_at "ne") ?_; walk_at "fl"))
local macro_rules | `(tactic| walk_at "fr") => `(tactic| first
  | assumption
  | (refine same_free (by assumption) ?_; walk_at "fr")
  | (refine Keep.free (by assumption) (by walk_at "ne") ?_; walk_at "fr"))
local macro_rules | `(tactic| walk_at "kp") => `(tactic| first
  | assumption
  | exact Keep.refl _ _
  | (refine Keep.trans ?_ (by assumption); walk_at "kp")
  | (refine Keep.trans ?_ (Keep.same (by assumption)); walk_at "kp"))
local macro_rules | `(tactic| walk_at "sm") => `(tactic| first
  | assumption
  | exact L2.Same.refl _
  | (refine L2.Same.trans ?_ (by assumption); walk_at "sm"))
local macro_rules | `(tactic| walk_at "sz") => `(tactic| first | exact Nat.le_of_ble_eq_true rfl | omega)
local macro_rules | `(tactic| walk_at "new") => `(tactic| (intro p np; generalize hE : upd _ p _ = H2; have s2 := new_same np hE; have h2 := new_at hE; clear hE))
local macro_rules | `(tactic| walk_at "newx") => `(tactic| (intro e d na nd hda; generalize hE : upd (upd _ d _) e _ = H2; have s2 := newx_same na nd hE; have h2 := newx_at hE; have h3 := newx_d hda hE; clear hE))
local macro_rules | `(tactic| walk_at "s1") => `(tactic| first
  | with_reducible refine s_seq ?_
  | with_reducible refine s_asg ?_
  | with_reducible refine s_name ?_
  | with_reducible refine s_ret ?_
  | with_reducible refine s_c ?_
  | ((with_reducible refine' s_var ?hv ?_); (case hv => rfl))
  | with_reducible refine s_op ?_
  | with_reducible refine s_un ?_
  | with_reducible refine s_ifS ?_
  | with_reducible refine s_cb ?_
  | with_reducible refine s_cons ?_
  | with_reducible refine s_nil ?_
  | with_reducible refine s_call ?_
  | with_reducible refine s_test ?_
  | with_reducible refine s_tB ?_
  | with_reducible refine s_bl ?_
  | with_reducible refine s_and ?_
  | with_reducible refine s_or ?_
  | with_reducible refine s_not ?_
  | with_reducible refine s_andV ?_
  | with_reducible refine s_orV ?_
  | with_reducible refine s_notV ?_
  | with_reducible refine s_blV ?_
  | with_reducible refine s_if ?_
  | with_reducible refine s_tup ?_
  | with_reducible refine s_lst ?_
  | with_reducible refine s_drop ?_
  | with_reducible refine s_next ?_
  | with_reducible refine s_sub ?_
  | with_reducible refine s_bm ?_
  | with_reducible refine s_callK ?_
  | with_reducible refine s_brk ?_
  | with_reducible refine s_cont ?_
  | with_reducible refine r_I0 ?_
  | with_reducible refine r_U ?_
  | with_reducible refine r_eqI ?_
  | with_reducible refine r_neI ?_
  | with_reducible refine r_isB ?_
  | with_reducible refine r_notB ?_
  | with_reducible refine i_t ?_
  | with_reducible refine i_f ?_
  | with_reducible refine i_nt ?_
  | with_reducible refine i_nf ?_
  | ((with_reducible refine' r_I ?hc ?_); (case hc => walk_at "cond"))
  | (with_reducible refine .inl ⟨_, rfl, ?_⟩)
  | (with_reducible refine ⟨_, rfl, ?_⟩)
  | ((with_reducible refine' r_ixL ?hx ?ha ?_); (case hx => walk_at "at"); (case ha => rfl))
  | ((with_reducible refine' r_ixT ?hx ?ha ?_); (case hx => walk_at "at"); (case ha => rfl))
  | ((with_reducible refine' r_setL ?hx ?ha ?_); (case hx => walk_at "at"); (case ha => rfl); intro H2 k2 h2; (try dsimp only [List.set, Int.toNat] at h2))
  | ((with_reducible refine' r_app ?hx ?hl ?_); (case hx => walk_at "at"); (case hl => first | exact Nat.lt_of_ble_eq_true rfl | omega); intro H2 k2 h2)
  | ((with_reducible refine' ty_list ?hx ?_); (case hx => walk_at "at"))
  | (refine And.intro (by (with_reducible show _ ≤ sizeLine); walk_at "sz") ?_; walk_at "new")
  | with_reducible refine s_exv ?_
  | walk_at "newx")
local macro_rules | `(tactic| walk_at "sx") => `(tactic| repeat (walk_at "s1"))
local macro_rules | `(tactic| walk_at "s2") => `(tactic| first
  | ((with_reducible refine' r_ixG ?hx ?hn ?_); (case hx => walk_at "at"); (case hn => omega))
  | ((with_reducible refine' r_ixGT ?hx ?hn ?_); (case hx => walk_at "at"); (case hn => omega))
  | (with_reducible refine ig_cons (fun hix => ?_) (fun hix => ?_))
  | ((with_reducible refine ig_nil ?_); omega)
  | ((with_reducible refine' i_T ?hc ?_); (case hc => omega))
  | ((with_reducible refine' i_F ?hc ?_); (case hc => omega))
  | (with_reducible refine i_2 (fun hc => ?_) (fun hc => ?_))
  | (with_reducible refine i_n2 (fun hc => ?_) (fun hc => ?_)))
local macro_rules | `(tactic| walk_at "go") => `(tactic| repeat' (first | walk_at "s1" | walk_at "s2"))

local macro_rules | `(tactic| walk_at "s1") => `(tactic| first
  | with_reducible refine s_chain ?_
  | with_reducible refine s_fldS ?_
  | with_reducible refine s_fld ?_
  | with_reducible refine s_dIn ?_
  | with_reducible refine s_dNotIn ?_
  | with_reducible refine s_sl ?_
  | with_reducible refine s_noPart ?_
  | with_reducible refine s_part ?_
  | with_reducible refine s_meth ?_
  | with_reducible refine s_make ?_)

local macro_rules | `(tactic| walk_at "s1") => `(tactic| first
  | with_reducible refine s_methK ?_
  | with_reducible refine s_mthS ?_)
theorem s_seqP {s rest : TS} {D : L2.Ends} {σ : L2.St} {H : Hp} (P : L2.St → Hp → Prop) (h1 : ∀ X : L2.St → Hp → Prop, (∀ σ' H', P σ' H' → X σ' H') → s { D with nx := X } σ H) (h2 : ∀ σ' H', P σ' H' → rest D σ' H') : tSeq s rest D σ H := h1 _ h2
/-- the places at which the row has not the shown value -/
def bads (r : List Int) (zs : List (Nat × Nat)) : List (Nat × Nat) := zs.filter fun z => !decide (r.getD z.1 0 = (z.2 : Int))
theorem bads_nil {r : List Int} {js ws : List Nat} : bads r (js.zip ws) = [] ↔ fitB r js ws = true := by
  unfold bads fitB
  rw [List.filter_eq_nil_iff, List.all_eq_true]
  constructor
  · intro h z hz
    have := h z hz
    simpa using this
  · intro h z hz
    have := h z hz
    simpa using this
def snd1 : Option (List V) → V
  | some [_, y] => y
  | _ => .non
theorem zip_snd : ∀ {js ws : List Nat}, js.length = ws.length → ((js.zip ws).map pr).map snd1 = ws.map nv
  | [], [], _ => rfl
  | [], _ :: _, h => by simp at h
  | _ :: _, [], h => by simp at h
  | j :: js, w :: ws, h => by
    rw [List.zip_cons_cons, List.map_cons, List.map_cons, zip_snd (by simpa using h)]
    rfl
theorem nvs_inj {as bs : List Nat} (h : as.map nv = bs.map nv) : as = bs := (List.map_inj_right (fun a b e => nv_inj e)).mp h
theorem sh_uniq {n : Nat} {q : Option (List (Option (List V)))} {js ws js' ws' : List Nat} (h : Sh n q js ws) (h' : Sh n q js' ws') : js = js' ∧ ws = ws' := by
  have e := Option.some.inj (h.1.symm.trans h'.1)
  exact ⟨nvs_inj (by rw [← zip_fst h.2.1, e, zip_fst h'.2.1]), nvs_inj (by rw [← zip_snd h.2.1, e, zip_snd h'.2.1])⟩
section
variable {P : Program} {w : World} {K : PySem.W.Frag} {mg : Str → Option Value} {base : Heap} {A : Ad}
/-- what is asked: a list of rules, its rows -/
structure Had (C : Addr) (H : Hp) (x l : Addr) (n : Nat) (ns : List Nat) (ls : List (Addr × List Int)) : Prop where
  ru : Rn C H x n ns
  hl : H l = some (.lst (ls.map rf))
  rl : RowsAt H n ls
  el : ls.map (·.2) = ns.map (bitsOf n)
  N : Nums n ns
  sn : n ≤ 8
theorem Had.same {C : Addr} {H H' : Hp} {x l : Addr} {n : Nat} {ns : List Nat} {ls : List (Addr × List Int)} (e : Same H H') (h : Had C H x l n ns ls) : Had C H' x l n ns ls := ⟨h.ru.same e, e _ _ h.hl, h.rl.same e, h.el, h.N, h.sn⟩
def spAsk (C : Addr) : Sp := fun vs H Q _ => ∃ (x l : Addr) (v : V) (b : Bool) (n : Nat) (ns : List Nat) (ls : List (Addr × List Int)), vs = [.ref x, .int n, .ref l, v, .bl b] ∧ Had C H x l n ns ls ∧ Al H 4 v v ∧ ∀ H', Same H H' → Q (.bl true) H'
theorem ok_ask (T : Txt P K mg A) : FnOk P w K mg base CX0 11 A.a__law_asked A.d__law_asked ["rules", "size", "listed", "value", "named"] (spAsk A.c_Rules) := by
  refine T.F__law_asked.ok sc__law_asked (fun vs H Q E h => ?_) (fun cdv A' outer s H vs Q E hr h => ?_)
  · obtain ⟨x, l, v, b, n, ns, ls, rfl, _⟩ := h
    rfl
  · obtain ⟨x, l, v, b, n, ns, ls, rfl, h0, al, k⟩ := h
    have G__law_is_shown := ok_lsh (w := w) (base := base) T
    have G_Rules__is_shown := ok_shown (w := w) (base := base) T
    have G_Rules__fitting := ok_fitting (w := w) (base := base) T
    have G__law_same := ok_same (w := w) (base := base) T 1
    have GH__law_same := ok_sameH (w := w) (base := base) T 4
    have G__law_is := ok_is (w := w) (base := base) T
    have hd : True → Had A.c_Rules H x l n ns ls := fun _ => h0
    clear h0
    have N := (hd trivial).N
    have sn := (hd trivial).sn
    obtain ⟨q, hv⟩ := al_vl (K := K) al
    obtain ⟨ks, ru, ek⟩ := (hd trivial).ru
    obtain ⟨dx, t, kn, hx, _⟩ := id ru
    have lkv : List.lookup ("value" : Str) [(("value" : Str), v)] = some v := by simp [List.lookup]
    have lkw : List.lookup ("what" : Str) [(("what" : Str), V.str (Str.ofString "rules"))] = some (V.str (Str.ofString "rules")) := by simp [List.lookup]
    refine ⟨_, (pss_cons (ps_set (i := 5) sc__law_asked.nd rfl (Or.inl rfl) (pe_call G__law_is_shown (hr.mono (by decide)) rfl T.g__law_is_shown T.F__law_is_shown.kp (B__law_is_shown T) .nil pass0 (pa_cons (pv 3) (pa_cons (pv 1) pa_nil))))
  (pss_cons (ps_if (pt_val (pv 4)) (pss_one (ps_set (i := 6) sc__law_asked.nd rfl (Or.inl rfl) (pe_methK (pv 0) T.cl_Rules T.me_Rules_is_shown G_Rules__is_shown (hr.mono (by decide)) (KB_Rules__is_shown_value T) pass0 (pk_cons (pv 3) pk_nil)))) (pss_one (ps_set (i := 6) sc__law_asked.nd rfl (Or.inl rfl) (pe_meth (pv 0) T.cl_Rules T.me_Rules_is_shown G_Rules__is_shown (hr.mono (by decide)) (B_Rules__is_shown T) .nil pass0 (pa_cons (pv 3) pa_nil)))))
  (pss_cons (ps_if (pt_not (pt_val (pe_call G__law_same (hr.mono (by decide)) rfl T.g__law_same T.F__law_same.kp (B__law_same T) .nil pass0 (pa_cons (pv 6) (pa_cons (pv 5) pa_nil))))) (pss_one (ps_ret pe_bl)) pss_nil)
  (pss_cons (ps_if (pt_not (pt_val (pv 5))) (pss_cons (L2N.ps_try_as (i := 7) rfl rfl sc__law_asked.nd rfl rfl ⟨rfl, by decide, .inl T.g_InvalidShown⟩ takesN0 (fun W pn xe tk _ => (pss_one (ps_expr (pe_mthS (pv 0) T.cl_Rules T.me_Rules_fitting G_Rules__fitting (hr.mono (by decide)) (B_Rules__fitting T) .nil (fun σ => L2N.passAt tk σ) (pa_cons (pv 3) pa_nil)))))
  (fun a oe cls d pn hz hf => (pss_one (ps_ret (L2H.pe_callH GH__law_same (roomS (hr.mono (by decide))) (hotS hz hf) rfl T.g__law_same T.F__law_same.kp (B__law_same T) (fun _ => L2.passH (E := E0)) (pa_cons (pe_xf T.X_InvalidShown.xf T.X_InvalidShown.noN hz.zc hf (pv 7)) (pa_cons (pv 3) pa_nil)))))))
  (pss_one (ps_ret pe_bl))) pss_nil)
  (pss_cons (ps_set (i := 8) sc__law_asked.nd rfl (Or.inl rfl) (pe_lst pa_nil))
  (pss_cons (ps_for PassesOwn.never rfl (pi_list (pv 2)) (pg_name (i := 9) sc__law_asked.nd rfl (Or.inr rfl))
  (pss_one (ps_if (pt_cmpR op_eq (pe_callB call_len (by rfl) T.n_len (by decide +kernel) (pa_cons (pe_lc (own := [("pair", 10)]) (g := (gName 10)) (by rfl) sc__law_asked.nd (pi_tup (pv 3)) (blkOk_by (own := [("pair", 10)]) (N := ["rules", "size", "listed", "value", "named", "right", "answer", "e", "due", "row", "pair"]) (sc := defScope s__law_asked) (by decide +kernel)) (fun _ _ _ _ _ => (pg_name (i := 10) sc__law_asked.nd rfl (Or.inl rfl))) (fun _ _ _ _ _ => pts_one (pt_cmpR op_ne (pe_ix (r := rIx K) ix_seq (pv 9) (pe_ix (r := rIx K) ix_seq (pv 10) pe_int (fun _ _ => rfl)) (fun _ _ => rfl)) (pe_ix (r := rIx K) ix_seq (pv 10) pe_int (fun _ _ => rfl)) (nomark _))) (fun _ _ _ _ _ => pe_int)) pa_nil)) pe_int (nomark _)) (pss_one (ps_expr (pe_bm PySem.F.plainAttrs_list PySem.F.slot_list_append PySem.F.type_list_append mt_append (pv 8) (pa_cons (pv 9) pa_nil)))) pss_nil)))
  (pss_cons (ps_if (pt_cmpR op_gt (pe_callB call_len (by rfl) T.n_len (by decide +kernel) (pa_cons (pv 8) pa_nil)) pe_int (nomark _)) (pss_cons (ps_if (pt_val (pv 4)) (pss_one (ps_ret (pe_call G__law_is (hr.mono (by decide)) rfl T.g__law_is T.F__law_is.kp (B__law_is T) .nil pass0 (pa_cons (pe_methK (pv 0) T.cl_Rules T.me_Rules_fitting G_Rules__fitting (hr.mono (by decide)) (KB_Rules__fitting_shown T) passN (pk_cons (pv 3) pk_nil)) (pa_cons (pv 1) (pa_cons (pv 8) pa_nil)))))) pss_nil)
  (pss_one (ps_ret (pe_call G__law_is (hr.mono (by decide)) rfl T.g__law_is T.F__law_is.kp (B__law_is T) .nil pass0 (pa_cons (pe_meth (pv 0) T.cl_Rules T.me_Rules_fitting G_Rules__fitting (hr.mono (by decide)) (B_Rules__fitting T) .nil passN (pa_cons (pv 3) pa_nil)) (pa_cons (pv 1) (pa_cons (pv 8) pa_nil))))))) pss_nil)
  (pss_cons (L2N.ps_try_as (i := 7) rfl rfl sc__law_asked.nd rfl rfl ⟨rfl, by decide, .inl T.g_Undefined⟩ takesN0 (fun W pn xe tk _ => (pss_one (ps_expr (pe_mthS (pv 0) T.cl_Rules T.me_Rules_fitting G_Rules__fitting (hr.mono (by decide)) (B_Rules__fitting T) .nil (fun σ => L2N.passAt tk σ) (pa_cons (pv 3) pa_nil)))))
  (fun a oe cls d pn hz hf => (pss_one (ps_ret (pe_and (pe_callB (id := "isinstance") (r := rIsiV K) call_isiV (by rfl) T.n_isinstance (by decide +kernel) (pa_cons (pe_xf T.X_Undefined.xf T.X_Undefined.noN hz.zc hf (pv 7)) (pa_cons (pe_bltn (v := .ty "str") (u := .type "str") (by rfl) T.n_str (by decide +kernel) rfl) pa_nil))) (pe_one (pe_cmpR op_eq (pe_xf T.X_Undefined.xf T.X_Undefined.noN hz.zc hf (pv 7)) pe_str (nomark _))))))))
  (pss_one (ps_ret pe_bl)))))))))), ?_⟩
    by_cases hs : ∃ js ws, Sh n q js ws
    · obtain ⟨js, ws, sh⟩ := hs
      refine s_seq (s_asg (s_call (s_cons (s_var rfl (s_cons (s_var rfl (s_nil ?_)))))))
      refine ⟨v, n, q, rfl, hv, fun _ _ _ => ?_, fun no => absurd sh (no js ws)⟩
      refine s_name ?_
      dsimp only
      refine s_seqP (fun σ' H' => Same H H' ∧ σ' = [some (.ref x), some (.int n), some (.ref l), some v, some (.bl b), some (.bl true), some (.bl true), none, none, none, none]) (fun X hX => ?_) ?_
      · walk_at "sx"
        refine i_b2 (fun hb => ?_) (fun hb => ?_)
        all_goals
          subst hb
          walk_at "sx"
          refine ⟨x, dx, _, rfl, hx, rfl, ?_⟩
          walk_at "sx"
          refine ⟨x, v, n, ks, q, rfl, ru, hv, fun _ _ _ H1 s1 => ?_, fun no => absurd sh (no js ws)⟩
          exact hX _ _ ⟨s1, rfl⟩
      rintro _ H1 ⟨s1, rfl⟩
      walk_at "sx"
      refine ⟨_, _, rfl, .bl _, fun H2 s2 => ?_⟩
      have s02 := s1.trans s2
      obtain ⟨a, rfl, sa⟩ := sh_at hv sh
      walk_at "sx"
      rename_i pd npd H3 s3 h3
      have s03 := s02.trans s3
      have npd0 : H pd = none := Same.free s02 npd
      have h3' : True → H3 pd = some (.lst (((ls.take 0).filter fun p => fitB p.2 js ws).map rf)) := fun _ => h3
      clear h3
      refine ⟨_, rfl, l, rfl, ⟨_, SqL.of ((hd trivial).same s03).hl⟩, for_list (K := K) (a := l) (xs := ls.map rf) (fun i σ H' => Same H H' ∧ (True → H' pd = some (.lst (((ls.take i).filter fun p => fitB p.2 js ws).map rf))) ∧ ∃ v9 : Option V, σ = [some (.ref x), some (.int n), some (.ref l), some (.ref a), some (.bl b), some (.bl true), some (.bl true), none, some (.ref pd), v9, none]) ⟨s03, h3', none, rfl⟩ (fun i σ H' _ h => SqL.of ((hd trivial).same h.1).hl) ?_ ?_⟩
      · rintro i y σ H' hy ⟨s', hpd, v9, rfl⟩
        obtain ⟨p, hp, rfl⟩ : ∃ p, ls[i]? = some p ∧ rf p = y := by
          rw [List.getElem?_map] at hy
          exact Option.map_eq_some_iff.mp hy
        have li := (List.getElem?_eq_some_iff.mp hp).1
        have rp := ((hd trivial).same s').rl p (List.mem_of_getElem? hp)
        have hrow : True → H' p.1 = some (.tup (p.2.map V.int)) := fun _ => rp.1
        have br := rp.2
        clear rp
        have few : ls.length < 64 := by
          have := congrArg List.length (hd trivial).el
          rw [List.length_map, List.length_map] at this
          have := N.few
          omega
        obtain ⟨bs, ha0, lb, lw, lt, bsz, at_⟩ := sa.same s'
        have ha : True → H' a = some (.tup (bs.map V.ref)) := fun _ => ha0
        clear ha0
        refine s_name ?_
        refine s_ifS (s_test (s_op (s_cb (s_cons ?_))))
        refine ⟨_, rfl, a, rfl, ⟨_, SqT.of (ha trivial)⟩, fun D hD => lc_tup (K := K) (a := a) (xs := bs.map V.ref) (fun j H9 => Same H' H9 ∧ H9 D = some (.lst ((bads p.2 ((js.zip ws).take j)).map fun _ => V.int 1))) ⟨Same.new hD, upd_same⟩ (fun j H9 _ h => SqT.of (h.1 _ _ (ha trivial))) ?_ ?_⟩
        · rintro j y H9 hy ⟨s9, hD9⟩
          obtain ⟨b', hb', rfl⟩ : ∃ b', bs[j]? = some b' ∧ V.ref b' = y := by
            rw [List.getElem?_map] at hy
            exact Option.map_eq_some_iff.mp hy
          obtain ⟨j', w', hj, hw, hB⟩ := at_ j b' hb'
          have lj := (List.getElem?_eq_some_iff.mp hb').1
          have hz : (js.zip ws)[j]? = some (j', w') := List.getElem?_zip_eq_some.mpr ⟨hj, hw⟩
          have hrj : p.2[j']? = some (p.2.getD j' 0) := by
            have := lt j' (List.mem_of_getElem? hj)
            rw [List.getD_eq_getElem?_getD, List.getElem?_eq_getElem (by rw [br.1]; exact this)]
            rfl
          have hB9 := s9 _ _ hB
          refine s_name ⟨rfl, ?_⟩
          refine s_test (s_op (s_op (s_var rfl (s_op (s_var rfl (s_c ?_))))))
          refine r_ixT hB9 (v := nv j') rfl ?_
          refine r_ixT (s9 _ _ (hrow trivial)) (v := .int (p.2.getD j' 0)) (atI_nat (by rw [List.getElem?_map, hrj]; rfl)) ?_
          refine s_op (s_var rfl (s_c ?_))
          refine r_ixT hB9 (v := nv w') rfl ?_
          walk_at "s1"
          refine ⟨_, rfl, ?_⟩
          refine i_n2 (fun hc => ?_) (fun hc => ?_)
          · walk_at "sx"
            refine ⟨_, hD9, ?_, Sx.Same.put s9 hD, ?_⟩
            · rw [List.length_map]
              exact Nat.lt_of_le_of_lt (List.length_filter_le _ _) (by rw [List.length_take]; exact Nat.lt_of_le_of_lt (Nat.min_le_left _ _) (by show j < 16777216; omega))
            · rw [upd_same, List.take_succ, hz]
              unfold bads
              rw [List.filter_append, List.map_append]
              congr 3
              show _ = List.map _ (List.filter _ [(j', w')])
              rw [List.filter_cons, if_pos (by rw [decide_eq_false hc]; rfl)]
              rfl
          · refine ⟨s9, ?_⟩
            rw [hD9, List.take_succ, hz]
            unfold bads
            rw [List.filter_append, List.map_append]
            congr 2
            show _ = _ ++ List.map _ (List.filter _ [(j', w')])
            rw [List.filter_cons, if_neg (by rw [decide_eq_true hc]; simp)]
            simp
        · rintro H9 ⟨s9, hD9⟩
          rw [List.length_map, List.take_of_length_le (by rw [List.length_zip]; omega)] at hD9
          have hpd9 := s9 _ _ (hpd trivial)
          have bn := bads_nil (r := p.2) (js := js) (ws := ws)
          walk_at "sx"
          refine ⟨_, _, rfl, .inl ⟨_, SqL.of hD9, rfl⟩, ?_⟩
          clear hD9
          walk_at "sx"
          rw [List.length_map]
          refine i_2 (fun c => ?_) (fun c => ?_)
          · have fb := bn.mp (List.eq_nil_of_length_eq_zero (by omega))
            walk_at "sx"
            refine r_app hpd9 (by rw [List.length_map]; exact Nat.lt_of_le_of_lt (List.length_filter_le _ _) (by rw [List.length_take, sizeLine_eq]; omega)) (fun H10 k10 h10 => ?_)
            refine ⟨Keep.toSame (s'.trans s9) npd0 k10, fun _ => ?_, _, rfl⟩
            rw [h10, List.take_succ, hp]
            simp [fb]
          · have fb : fitB p.2 js ws = false := by
              cases e : fitB p.2 js ws with
              | false => rfl
              | true => exact absurd (by rw [bn.mpr e]; rfl) c
            walk_at "sx"
            refine ⟨s'.trans s9, fun _ => ?_, _, rfl⟩
            rw [hpd9, List.take_succ, hp]
            simp [fb]
      · rintro σ H4 ⟨s4, hpd, v9, rfl⟩
        obtain ⟨fs, efs⟩ : ∃ fs, fs = ls.filter (fun p => fitB p.2 js ws) := ⟨_, rfl⟩
        have hpd4 : True → H4 pd = some (.lst (fs.map rf)) := fun _ => by
          have := hpd trivial
          rw [List.length_map, List.take_length, ← efs] at this
          exact this
        clear hpd
        have em := fit_map (js := js) (ws := ws) (hd trivial).el
        rw [← efs] at em
        have sub : ∀ p ∈ fs, p ∈ ls := fun p hp => by
          rw [efs] at hp
          exact (List.mem_filter.mp hp).1
        have lf : fs.length = (ns.filter (fitN n js ws)).length := by
          have := congrArg List.length em
          rw [List.length_map, List.length_map] at this
          exact this
        have hx4 := s4 _ _ hx
        have lfew : (ns.filter (fitN n js ws)).length < 64 := Nat.lt_of_le_of_lt (List.length_filter_le _ _) N.few
        dsimp only
        walk_at "sx"
        refine ⟨_, _, rfl, .inl ⟨_, SqL.of (hpd4 trivial), rfl⟩, ?_⟩
        walk_at "sx"
        rw [List.length_map]
        refine i_2 (fun c => ?_) (fun c => ?_)
        · have ne : ns.filter (fitN n js ws) ≠ [] := fun e => by
            rw [lf, e] at c
            exact absurd c (by decide)
          walk_at "sx"
          refine i_b2 (fun hb => ?_) (fun hb => ?_)
          all_goals
            walk_at "sx"
            refine ⟨x, dx, _, rfl, hx4, rfl, ?_⟩
            walk_at "sx"
            refine ⟨x, .ref a, n, ns, q, rfl, ((hd trivial).same s4).ru, N, sn, hv.same s4, fun no => absurd sh (no js ws), fun js' ws' sh' e => ?_, fun js' ws' sh' _ y H5 s5 ry => ?_⟩
            · obtain ⟨rfl, rfl⟩ := sh_uniq sh sh'
              exact absurd e ne
            · obtain ⟨rfl, rfl⟩ := sh_uniq sh sh'
              have s45 := s4.trans s5
              walk_at "sx"
              exact ⟨y, pd, n, _, fs, rfl, ry, s5 _ _ (hpd4 trivial), fun p hp => ((hd trivial).same s45).rl p (sub p hp), em, lfew, sn, fun H6 s6 => k H6 (s45.trans s6)⟩
        · have e0 : ns.filter (fitN n js ws) = [] := List.eq_nil_of_length_eq_zero (by omega)
          walk_at "sx"
          refine ⟨x, dx, _, rfl, hx4, rfl, ?_⟩
          walk_at "sx"
          refine ⟨x, .ref a, n, ns, q, rfl, ((hd trivial).same s4).ru, N, sn, hv.same s4, fun no => absurd sh (no js ws), fun js' ws' sh' _ e H5 s5 he => ?_, fun js' ws' sh' ne => ?_⟩
          · refine ⟨true, T.X_Undefined.te, fun _ z hz => ?_, fun z => Bool.noConfusion z⟩
            walk_at "sx"
            refine ⟨_, rfl, rfl, rfl, e, _, _, rfl, upd_same, lkw, ?_⟩
            walk_at "sx"
            refine isi_in (b := true) (in_sK (B := All) (.str _)) ?_
            walk_at "sx"
            refine ⟨_, rfl, rfl, rfl, e, _, _, rfl, upd_same, lkw, ?_⟩
            walk_at "sx"
            refine r_eq rfl ?_
            rw [decide_eq_true rfl]
            exact k _ (s4.trans (s5.trans (Same.new he)))
          · obtain ⟨rfl, rfl⟩ := sh_uniq sh sh'
            exact absurd e0 ne
    · have no : ∀ js ws, ¬ Sh n q js ws := fun js ws h => hs ⟨js, ws, h⟩
      refine s_seq (s_asg (s_call (s_cons (s_var rfl (s_cons (s_var rfl (s_nil ?_)))))))
      refine ⟨v, n, q, rfl, hv, fun js ws h => absurd h (no js ws), fun _ => ?_⟩
      refine s_name ?_
      dsimp only
      refine s_seqP (fun σ' H' => Same H H' ∧ σ' = [some (.ref x), some (.int n), some (.ref l), some v, some (.bl b), some (.bl false), some (.bl false), none, none, none, none]) (fun X hX => ?_) ?_
      · walk_at "sx"
        refine i_b2 (fun hb => ?_) (fun hb => ?_)
        all_goals
          subst hb
          walk_at "sx"
          refine ⟨x, dx, _, rfl, hx, rfl, ?_⟩
          walk_at "sx"
          refine ⟨x, v, n, ks, q, rfl, ru, hv, fun js ws h => absurd h (no js ws), fun _ H1 s1 => ?_⟩
          exact hX _ _ ⟨s1, rfl⟩
      rintro _ H1 ⟨s1, rfl⟩
      walk_at "sx"
      refine ⟨_, _, rfl, .bl _, fun H2 s2 => ?_⟩
      have s02 := s1.trans s2
      walk_at "sx"
      refine ⟨x, dx, _, rfl, s02 _ _ hx, rfl, ?_⟩
      walk_at "sx"
      refine ⟨x, v, n, ns, q, rfl, (hd trivial).ru.same s02, N, sn, hv.same s02, fun _ e H3 s3 he => ?_, fun js ws h => absurd h (no js ws), fun js ws h => absurd h (no js ws)⟩
      refine ⟨true, T.X_InvalidShown.te, fun _ z hz => ?_, fun z => Bool.noConfusion z⟩
      walk_at "sx"
      refine ⟨_, rfl, rfl, rfl, e, _, _, rfl, upd_same, lkv, ?_⟩
      walk_at "sx"
      have s04 : Same H (upd H3 e (.xd [("value", v)])) := s02.trans (s3.trans (Same.new he))
      exact ⟨_, _, rfl, al.same s04, fun H5 s5 => k H5 (s04.trans s5)⟩
end
end K07

set_option Elab.async false
set_option linter.all false
set_option maxRecDepth 100000
set_option maxHeartbeats 4000000
namespace K07
open PySem L2 Sx
local macro_rules | `(tactic| walk_at "cond") => `(tactic| first
  | assumption
  | decide
  | exact c_mul_r (by first | decide | omega) (by first | decide | omega)
  | exact c_mul_l (by first | decide | omega) (by first | decide | omega)
  | exact c_div (by first | decide | omega) (by first | decide | omega)
  | exact c_pow (by first | decide | omega) (by first | decide | omega) (by first | decide | omega)
  | omega)
local macro_rules | `(tactic| walk_at "ne") => `(tactic| first
  | assumption
  | (refine Ne.symm ?_; assumption)
  | (refine' Flow.ne ?nh ?nn; (case nn => assumption); (case nh => walk_at "fl"))
  | (refine Ne.symm ?_; refine' Flow.ne ?nh ?nn; (case nn => assumption); (case nh => walk_at "fl"))
  | (refine' ne_of_none ?nh ?nn; (case nn => assumption); (case nh => walk_at "at"))
  | (refine Ne.symm ?_; refine' ne_of_none ?nh ?nn; (case nn => assumption); (case nh => walk_at "at")))
local macro_rules | `(tactic| walk_at "at") => `(tactic| first
  | assumption
  | (refine Same.up (by assumption) ?_; walk_at "at")
  | (refine Keep.up (by assumption) (by walk_at "ne") ?_; walk_at "at"))
local macro_rules | `(tactic| walk_at "fl") => `(tactic| first
  | assumption
  | (refine Flow.same (by assumption) ?_; walk_at "fl")
  | (refine Flow.keep (by assumption) (by walk_at "ne") ?_; walk_at "fl"))
local macro_rules | `(tactic| walk_at "fr") => `(tactic| first
  | assumption
  | (refine same_free (by assumption) ?_; walk_at "fr")
  | (refine Keep.free (by assumption) (by walk_at "ne") ?_; walk_at "fr"))
local macro_rules | `(tactic| walk_at "kp") => `(tactic| first
  | assumption
  | exact Keep.refl _ _
  | (refine Keep.trans ?_ (by assumption); walk_at "kp")
  | (refine Keep.trans ?_ (Keep.same (by assumption)); walk_at "kp"))
local macro_rules | `(tactic| walk_at "sm") => `(tactic| first
  | assumption
  | exact L2.Same.refl _
  | (refine L2.Same.trans ?_ (by assumption); walk_at "sm"))
local macro_rules | `(tactic| walk_at "sz") => `(tactic| first | exact Nat.le_of_ble_eq_true rfl | omega)
local macro_rules | `(tactic| walk_at "new") => `(tactic| (intro p np; generalize hE : upd _ p _ = H2; have s2 := new_same np hE; have h2 := new_at hE; clear hE))
local macro_rules | `(tactic| walk_at "newx") => `(tactic| (intro e d na nd hda; generalize hE : upd (upd _ d _) e _ = H2; have s2 := newx_same na nd hE; have h2 := newx_at hE; have h3 := newx_d hda hE; clear hE))
local macro_rules | `(tactic| walk_at "s1") => `(tactic| first
  | with_reducible refine s_seq ?_
  | with_reducible refine s_asg ?_
  | with_reducible refine s_name ?_
  | with_reducible refine s_ret ?_
  | with_reducible refine s_c ?_
  | ((with_reducible refine' s_var ?hv ?_); (case hv => rfl))
  | with_reducible refine s_op ?_
  | with_reducible refine s_un ?_
  | with_reducible refine s_ifS ?_
  | with_reducible refine s_cb ?_
  | with_reducible refine s_cons ?_
  | with_reducible refine s_nil ?_
  | with_reducible refine s_call ?_
  | with_reducible refine s_test ?_
  | with_reducible refine s_tB ?_
  | with_reducible refine s_bl ?_
  | with_reducible refine s_and ?_
  | with_reducible refine s_or ?_
  | with_reducible refine s_not ?_
  | with_reducible refine s_andV ?_
  | with_reducible refine s_orV ?_
  | with_reducible refine s_notV ?_
  | with_reducible refine s_blV ?_
  | with_reducible refine s_if ?_
  | with_reducible refine s_tup ?_
  | with_reducible refine s_lst ?_
  | with_reducible refine s_drop ?_
  | with_reducible refine s_next ?_
  | with_reducible refine s_sub ?_
  | with_reducible refine s_bm ?_
  | with_reducible refine s_callK ?_
  | with_reducible refine s_brk ?_
  | with_reducible refine s_cont ?_
  | with_reducible refine r_I0 ?_
  | with_reducible refine r_U ?_
  | with_reducible refine r_eqI ?_
  | with_reducible refine r_neI ?_
  | with_reducible refine r_isB ?_
  | with_reducible refine r_notB ?_
  | with_reducible refine i_t ?_
  | with_reducible refine i_f ?_
  | with_reducible refine i_nt ?_
  | with_reducible refine i_nf ?_
  | ((with_reducible refine' r_I ?hc ?_); (case hc => walk_at "cond"))
  | (with_reducible refine .inl ⟨_, rfl, ?_⟩)
  | (with_reducible refine ⟨_, rfl, ?_⟩)
  | ((with_reducible refine' r_ixL ?hx ?ha ?_); (case hx => walk_at "at"); (case ha => rfl))
  | ((with_reducible refine' r_ixT ?hx ?ha ?_); (case hx => walk_at "at"); (case ha => rfl))
  | ((with_reducible refine' r_setL ?hx ?ha ?_); (case hx => walk_at "at"); (case ha => rfl); intro H2 k2 h2; (try dsimp only [List.set, Int.toNat] at h2))
  | ((with_reducible refine' r_app ?hx ?hl ?_); (case hx => walk_at "at"); (case hl => first | exact Nat.lt_of_ble_eq_true rfl | omega); intro H2 k2 h2)
  | ((with_reducible refine' ty_list ?hx ?_); (case hx => walk_at "at"))
  | (refine And.intro (by (with_reducible show _ ≤ sizeLine); walk_at "sz") ?_; walk_at "new")
  | with_reducible refine s_exv ?_
  | walk_at "newx")
local macro_rules | `(tactic| walk_at "sx") => `(tactic| repeat (walk_at "s1"))
local macro_rules | `(tactic| walk_at "s2") => `(tactic| first
  | ((with_reducible refine' r_ixG ?hx ?hn ?_); (case hx => walk_at "at"); (case hn => omega))
  | ((with_reducible refine' r_ixGT ?hx ?hn ?_); (case hx => walk_at "at"); (case hn => omega))
  | (with_reducible refine ig_cons (fun hix => ?_) (fun hix => ?_))
  | ((with_reducible refine ig_nil ?_); omega)
  | ((with_reducible refine' i_T ?hc ?_); (case hc => omega))
  | ((with_reducible refine' i_F ?hc ?_); (case hc => omega))
  | (with_reducible refine i_2 (fun hc => ?_) (fun hc => ?_))
  | (with_reducible refine i_n2 (fun hc => ?_) (fun hc => ?_)))
local macro_rules | `(tactic| walk_at "go") => `(tactic| repeat' (first | walk_at "s1" | walk_at "s2"))

local macro_rules | `(tactic| walk_at "s1") => `(tactic| first
  | with_reducible refine s_chain ?_
  | with_reducible refine s_fldS ?_
  | with_reducible refine s_fld ?_
  | with_reducible refine s_dIn ?_
  | with_reducible refine s_dNotIn ?_
  | with_reducible refine s_sl ?_
  | with_reducible refine s_noPart ?_
  | with_reducible refine s_part ?_
  | with_reducible refine s_meth ?_
  | with_reducible refine s_make ?_)

local macro_rules | `(tactic| walk_at "s1") => `(tactic| first
  | with_reducible refine s_methK ?_
  | with_reducible refine s_mthS ?_)
section
variable {P : Program} {w : World} {K : PySem.W.Frag} {mg : Str → Option Value} {base : Heap} {A : Ad}
def spObj (C : Addr) : Sp := fun vs H Q _ => ∃ (x : Addr) (n : Nat) (ns : List Nat), vs = [.ref x] ∧ Rn C H x n ns ∧ Nums n ns ∧ n ≤ 8 ∧ ∀ H', Same H H' → Q (.bl true) H'
theorem ok_obj (T : Txt P K mg A) : FnOk P w K mg base CX0 11 A.a__law_object_refused A.d__law_object_refused ["rules"] (spObj A.c_Rules) := by
  refine T.F__law_object_refused.ok sc__law_object_refused (fun vs H Q E h => ?_) (fun cdv A' outer s H vs Q E hr h => ?_)
  · obtain ⟨x, n, ns, rfl, _⟩ := h
    rfl
  · obtain ⟨x, n, ns, rfl, R, N, sn, k⟩ := h
    have G_Rules__is_shown := ok_shown (w := w) (base := base) T
    have G_Rules__fitting := ok_fitting (w := w) (base := base) T
    have GH_Rules____eq__ := ok_eqH (w := w) (base := base) T
    obtain ⟨ks, ru, ek⟩ := id R
    obtain ⟨dx, t, kn, hx, _⟩ := id ru
    have noT : ∀ {H' : Hp}, Same H H' → IsIn K H' (.ref x) "tuple" false := fun {H'} s => T.o_Rules.isin (s _ _ hx) T.o_Rules.nt (by decide +kernel)
    have v0 : ∀ {H' : Hp}, Same H H' → VlOk K H' (.ref x) none := fun {H'} s => .inl ⟨rfl, noT s⟩
    have n0 : ∀ js ws, ¬ Sh n none js ws := fun js ws h => nomatch h.1
    have lk : List.lookup ("value" : Str) [(("value" : Str), V.ref x)] = some (V.ref x) := by simp [List.lookup]
    refine ⟨_, (pss_cons (ps_if (PW.pt (pw_or (pt_cmpR op_notBl (pe_meth (pv 0) T.cl_Rules T.me_Rules_is_shown G_Rules__is_shown (hr.mono (by decide)) (B_Rules__is_shown T) .nil pass0 (pa_cons (pv 0) pa_nil)) pe_bl (nomark _)) (pw_or1 (pt_cmpR op_notBl (pe_meth (pv 0) T.cl_Rules T.me_Rules_is_shown G_Rules__is_shown (hr.mono (by decide)) (B_Rules__is_shown T) .nil pass0 (pa_cons (pe_tup (pa_cons (pe_tup (pa_cons pe_int (pa_cons (pv 0) pa_nil))) pa_nil)) pa_nil)) pe_bl (nomark _))))) (pss_one (ps_ret pe_bl)) pss_nil)
  (pss_cons (L2N.ps_try_as (i := 1) rfl rfl sc__law_object_refused.nd rfl rfl ⟨rfl, by decide, .inl T.g_InvalidShown⟩ takesN0 (fun W pn xe tk _ => (pss_one (ps_expr (pe_mthS (pv 0) T.cl_Rules T.me_Rules_fitting G_Rules__fitting (hr.mono (by decide)) (B_Rules__fitting T) .nil (fun σ => L2N.passAt tk σ) (pa_cons (pv 0) pa_nil)))))
  (fun a oe cls d pn hz hf => (pss_one (ps_ret (pe_and (pe_callB (id := "isinstance") (r := rIsiV K) call_isiV (by rfl) T.n_isinstance (by decide +kernel) (pa_cons (pe_xf T.X_InvalidShown.xf T.X_InvalidShown.noN hz.zc hf (pv 1)) (pa_cons (pe_glob (v := .ref A.c_Rules) rfl T.g_Rules rfl) pa_nil))) (pe_one (pe_cmpR (op_eqOwnH GH_Rules____eq__ (roomS (hr.mono (by decide))) (hotS hz hf) T.sp_Rules___eq__.1 T.sp_Rules___eq__.2 (B_Rules____eq__ T) (fun _ => passH (E := E0))) (pe_xf T.X_InvalidShown.xf T.X_InvalidShown.noN hz.zc hf (pv 1)) (pv 0) (nomark _))))))))
  (pss_one (ps_ret pe_bl)))), ?_⟩
    walk_at "sx"
    refine ⟨x, dx, _, rfl, hx, rfl, ?_⟩
    walk_at "sx"
    refine ⟨x, .ref x, n, ks, none, rfl, ru, v0 (L2.Same.refl _), fun js ws h => absurd h (n0 js ws), fun _ H1 s1 => ?_⟩
    walk_at "sx"
    refine i_n2 (fun c => absurd rfl c) (fun _ => ?_)
    walk_at "sx"
    refine ⟨x, dx, _, rfl, s1 _ _ hx, rfl, ?_⟩
    walk_at "sx"
    rename_i p1 m1 H2 s2 h2 p2 m2 H3 s3 h3
    have s03 := s1.trans (s2.trans s3)
    have nx : NI K H3 (.ref x) := T.o_Rules.ni' (s03 _ _ hx)
    have v1 : VlOk K H3 (.ref p2) (some [some [V.int 0, V.ref x]]) := .inr ⟨p2, [(.ref p1, some [V.int 0, V.ref x])], rfl, rfl, h3, fun z hz => by
      rw [List.mem_singleton.mp hz]
      exact .inr ⟨p1, _, rfl, rfl, s3 _ _ h2, fun y hy => by
        simp only [List.mem_cons, List.not_mem_nil, or_false] at hy
        rcases hy with rfl | rfl
        · exact ni_int _
        · exact nx, show 2 < 1000 by decide⟩, show 1 < 1000 by decide⟩
    have n1 : ∀ js ws, ¬ Sh n (some [some [V.int 0, V.ref x]]) js ws := fun js ws h => by
      have z := zip_ans (js := js) h.2.2.2.2
      rw [← Option.some.inj h.1] at z
      cases z
    refine ⟨x, .ref p2, n, ks, _, rfl, ru.same s03, v1, fun js ws h => absurd h (n1 js ws), fun _ H4 s4 => ?_⟩
    have s04 := s03.trans s4
    walk_at "sx"
    refine i_n2 (fun c => absurd rfl c) (fun _ => ?_)
    walk_at "sx"
    refine ⟨x, dx, _, rfl, s04 _ _ hx, rfl, ?_⟩
    walk_at "sx"
    refine ⟨x, .ref x, n, ns, none, rfl, R.same s04, N, sn, v0 s04, fun _ e H5 s5 he => ?_, fun js ws h => absurd h (n0 js ws), fun js ws h => absurd h (n0 js ws)⟩
    have s06 : Same H (upd H5 e (.xd [("value", .ref x)])) := s04.trans (s5.trans (Same.new he))
    refine ⟨true, T.X_InvalidShown.te, fun _ z hz => ?_, fun z => Bool.noConfusion z⟩
    walk_at "sx"
    refine ⟨_, rfl, rfl, rfl, e, _, _, rfl, upd_same, lk, ?_⟩
    walk_at "sx"
    refine T.o_Rules.own (s06 _ _ hx) ?_
    walk_at "sx"
    refine ⟨_, rfl, rfl, rfl, e, _, _, rfl, upd_same, lk, ?_⟩
    walk_at "sx"
    refine ⟨x, x, dx, dx, _, _, rfl, rfl, s06 _ _ hx, s06 _ _ hx, x, n, ks, rfl, ru.same s06, fun H7 s7 => ⟨rfl, k H7 (s06.trans s7)⟩⟩
end
end K07

set_option Elab.async false
set_option linter.all false
set_option maxRecDepth 100000
set_option maxHeartbeats 4000000
namespace K07
open PySem L2 Sx
local macro_rules | `(tactic| walk_at "cond") => `(tactic| first
  | assumption
  | decide
  | exact c_mul_r (by first | decide | omega) (by first | decide | omega)
  | exact c_mul_l (by first | decide | omega) (by first | decide | omega)
  | exact c_div (by first | decide | omega) (by first | decide | omega)
  | exact c_pow (by first | decide | omega) (by first | decide | omega) (by first | decide | omega)
  | omega)
local macro_rules | `(tactic| walk_at "ne") => `(tactic| first
  | assumption
  | (refine Ne.symm ?_; assumption)
  | (refine' Flow.ne ?nh ?nn; (case nn => assumption); (case nh => walk_at "fl"))
  | (refine Ne.symm ?_; refine' Flow.ne ?nh ?nn; (case nn => assumption); (case nh => walk_at "fl"))
  | (refine' ne_of_none ?nh ?nn; (case nn => assumption); (case nh => walk_at "at"))
  | (refine Ne.symm ?_; refine' ne_of_none ?nh ?nn; (case nn => assumption); (case nh => walk_at "at")))
local macro_rules | `(tactic| walk_at "at") => `(tactic| first
  | assumption
  | (refine Same.up (by assumption) ?_; walk_at "at")
  | (refine Keep.up (by assumption) (by walk_at "ne") ?_; walk_at "at"))
local macro_rules | `(tactic| walk_at "fl") => `(tactic| first
  | assumption
  | (refine Flow.same (by assumption) ?_; walk_at "fl")
  | (refine Flow.keep (by assumption) (by walk_at "ne") ?_; walk_at "fl"))
local macro_rules | `(tactic| walk_at "fr") => `(tactic| first
  | assumption
  | (refine same_free (by assumption) ?_; walk_at "fr")
  | (refine Keep.free (by assumption) (by walk_at "ne") ?_; walk_at "fr"))
local macro_rules | `(tactic| walk_at "kp") => `(tactic| first
  | assumption
  | exact Keep.refl _ _
  | (refine Keep.trans ?_ (by assumption); walk_at "kp")
  | (refine Keep.trans ?_ (Keep.same (by assumption)); walk_at "kp"))
local macro_rules | `(tactic| walk_at "sm") => `(tactic| first
  | assumption
  | exact L2.Same.refl _
  | (refine L2.Same.trans ?_ (by assumption); walk_at "sm"))
local macro_rules | `(tactic| walk_at "sz") => `(tactic| first | exact Nat.le_of_ble_eq_true rfl | omega)
local macro_rules | `(tactic| walk_at "new") => `(tactic| (intro p np; generalize hE : upd _ p _ = H2; have s2 := new_same np hE; have h2 := new_at hE; clear hE))
local macro_rules | `(tactic| walk_at "newx") => `(tactic| (intro e d na nd hda; generalize hE : upd (upd _ d _) e _ = H2; have s2 := newx_same na nd hE; have h2 := newx_at hE; have h3 := newx_d hda hE; clear hE))
local macro_rules | `(tactic| walk_at "s1") => `(tactic| first
  | with_reducible refine s_seq ?_
  | with_reducible refine s_asg ?_
  | with_reducible refine s_name ?_
  | with_reducible refine s_ret ?_
  | with_reducible refine s_c ?_
  | ((with_reducible refine' s_var ?hv ?_); (case hv => rfl))
  | with_reducible refine s_op ?_
  | with_reducible refine s_un ?_
  | with_reducible refine s_ifS ?_
  | with_reducible refine s_cb ?_
  | with_reducible refine s_cons ?_
  | with_reducible refine s_nil ?_
  | with_reducible refine s_call ?_
  | with_reducible refine s_test ?_
  | with_reducible refine s_tB ?_
  | with_reducible refine s_bl ?_
  | with_reducible refine s_and ?_
  | with_reducible refine s_or ?_
  | with_reducible refine s_not ?_
  | with_reducible refine s_andV ?_
  | with_reducible refine s_orV ?_
  | with_reducible refine s_notV ?_
  | with_reducible refine s_blV ?_
  | with_reducible refine s_if ?_
  | with_reducible refine s_tup ?_
  | with_reducible refine s_lst ?_
  | with_reducible refine s_drop ?_
  | with_reducible refine s_next ?_
  | with_reducible refine s_sub ?_
  | with_reducible refine s_bm ?_
  | with_reducible refine s_callK ?_
  | with_reducible refine s_brk ?_
  | with_reducible refine s_cont ?_
  | with_reducible refine r_I0 ?_
  | with_reducible refine r_U ?_
  | with_reducible refine r_eqI ?_
  | with_reducible refine r_neI ?_
  | with_reducible refine r_isB ?_
  | with_reducible refine r_notB ?_
  | with_reducible refine i_t ?_
  | with_reducible refine i_f ?_
  | with_reducible refine i_nt ?_
  | with_reducible refine i_nf ?_
  | ((with_reducible refine' r_I ?hc ?_); (case hc => walk_at "cond"))
  | (with_reducible refine .inl ⟨_, rfl, ?_⟩)
  | (with_reducible refine ⟨_, rfl, ?_⟩)
  | ((with_reducible refine' r_ixL ?hx ?ha ?_); (case hx => walk_at "at"); (case ha => rfl))
  | ((with_reducible refine' r_ixT ?hx ?ha ?_); (case hx => walk_at "at"); (case ha => rfl))
  | ((with_reducible refine' r_setL ?hx ?ha ?_); (case hx => walk_at "at"); (case ha => rfl); intro H2 k2 h2; (try dsimp only [List.set, Int.toNat] at h2))
  | ((with_reducible refine' r_app ?hx ?hl ?_); (case hx => walk_at "at"); (case hl => first | exact Nat.lt_of_ble_eq_true rfl | omega); intro H2 k2 h2)
  | ((with_reducible refine' ty_list ?hx ?_); (case hx => walk_at "at"))
  | (refine And.intro (by (with_reducible show _ ≤ sizeLine); walk_at "sz") ?_; walk_at "new")
  | with_reducible refine s_exv ?_
  | walk_at "newx")
local macro_rules | `(tactic| walk_at "sx") => `(tactic| repeat (walk_at "s1"))
local macro_rules | `(tactic| walk_at "s2") => `(tactic| first
  | ((with_reducible refine' r_ixG ?hx ?hn ?_); (case hx => walk_at "at"); (case hn => omega))
  | ((with_reducible refine' r_ixGT ?hx ?hn ?_); (case hx => walk_at "at"); (case hn => omega))
  | (with_reducible refine ig_cons (fun hix => ?_) (fun hix => ?_))
  | ((with_reducible refine ig_nil ?_); omega)
  | ((with_reducible refine' i_T ?hc ?_); (case hc => omega))
  | ((with_reducible refine' i_F ?hc ?_); (case hc => omega))
  | (with_reducible refine i_2 (fun hc => ?_) (fun hc => ?_))
  | (with_reducible refine i_n2 (fun hc => ?_) (fun hc => ?_)))
local macro_rules | `(tactic| walk_at "go") => `(tactic| repeat' (first | walk_at "s1" | walk_at "s2"))

local macro_rules | `(tactic| walk_at "s1") => `(tactic| first
  | with_reducible refine s_chain ?_
  | with_reducible refine s_fldS ?_
  | with_reducible refine s_fld ?_
  | with_reducible refine s_dIn ?_
  | with_reducible refine s_dNotIn ?_
  | with_reducible refine s_sl ?_
  | with_reducible refine s_noPart ?_
  | with_reducible refine s_part ?_
  | with_reducible refine s_meth ?_
  | with_reducible refine s_make ?_)

section
variable {P : Program} {w : World} {K : PySem.W.Frag} {mg : Str → Option Value} {base : Heap} {A : Ad}
def spAll (K : PySem.W.Frag) : Sp := fun vs H Q _ => ∃ (l : Addr) (ns : List Int), vs = [.ref l] ∧ SqL K H l (ns.map V.int) ∧ ∀ H', Q (.bl true) H'
theorem ok_all (T : Txt P K mg A) : FnOk P w K mg base CX0 13 A.a__law_all A.d__law_all ["script"] (spAll K) := by
  refine T.F__law_all.ok sc__law_all (fun vs H Q E h => ?_) (fun cdv A' outer s H vs Q E hr h => ?_)
  · obtain ⟨l, ns, rfl, _⟩ := h
    rfl
  · obtain ⟨l, ns, rfl, hl, k⟩ := h
    have G__law_flow := ok_flow (w := w) (base := base) T
    have G__law_listed := ok_listed (w := w) (base := base) T
    have G_Rules____init__ := ok_make (w := w) (base := base) T
    have G__law_pairs := ok_pairs (w := w) (base := base) T
    have G__law_spoilt := ok_spoilt (w := w) (base := base) T
    have G__law_asked := ok_ask (w := w) (base := base) T
    have G__law_object_refused := ok_obj (w := w) (base := base) T
    have G__law_is := ok_is (w := w) (base := base) T
    refine ⟨_, (pss_cons (ps_set (i := 1) sc__law_all.nd rfl (Or.inl rfl) (pe_call G__law_listed (hr.mono (by decide)) rfl T.g__law_listed T.F__law_listed.kp (B__law_listed T) .nil pass0 (pa_cons (pe_call G__law_flow (hr.mono (by decide)) rfl T.g__law_flow T.F__law_flow.kp (B__law_flow T) .nil pass0 (pa_cons (pv 0) (pa_cons pe_int pa_nil))) pa_nil)))
  (pss_cons (ps_set (i := 2) sc__law_all.nd rfl (Or.inl rfl) (pe_call G__law_listed (hr.mono (by decide)) rfl T.g__law_listed T.F__law_listed.kp (B__law_listed T) .nil pass0 (pa_cons (pe_call G__law_flow (hr.mono (by decide)) rfl T.g__law_flow T.F__law_flow.kp (B__law_flow T) .nil pass0 (pa_cons (pv 0) (pa_cons pe_int pa_nil))) pa_nil)))
  (pss_cons (ps_set (i := 3) sc__law_all.nd rfl (Or.inl rfl) (pe_make T.mk_Rules G_Rules____init__ (hr.mono (by decide)) rfl T.g_Rules (B_Rules____init__ T) .nil pass0 (pa_cons (pe_ix (r := rIx K) ix_seq (pv 1) pe_int (fun _ _ => rfl)) (pa_cons (pe_ix (r := rIx K) ix_seq (pv 1) pe_int (fun _ _ => rfl)) pa_nil))))
  (pss_cons (ps_set (i := 4) sc__law_all.nd rfl (Or.inl rfl) (pe_make T.mk_Rules G_Rules____init__ (hr.mono (by decide)) rfl T.g_Rules (B_Rules____init__ T) .nil pass0 (pa_cons (pe_ix (r := rIx K) ix_seq (pv 2) pe_int (fun _ _ => rfl)) (pa_cons (pe_ix (r := rIx K) ix_seq (pv 2) pe_int (fun _ _ => rfl)) pa_nil))))
  (pss_cons (ps_set (i := 5) sc__law_all.nd rfl (Or.inl rfl) (pe_lst pa_nil))
  (pss_cons (ps_for PassesOwn.never rfl (pi_range2 rfl T.n_range (pa_cons pe_int (pa_cons pe_int pa_nil))) (pg_name (i := 6) sc__law_all.nd rfl (Or.inl rfl))
  (pss_cons (ps_set (i := 7) sc__law_all.nd rfl (Or.inl rfl) (pe_call G__law_flow (hr.mono (by decide)) rfl T.g__law_flow T.F__law_flow.kp (B__law_flow T) .nil pass0 (pa_cons (pv 0) (pa_cons (pv 6) pa_nil))))
  (pss_cons (ps_set (i := 8) sc__law_all.nd rfl (Or.inl rfl) (pe_call G__law_pairs (hr.mono (by decide)) rfl T.g__law_pairs T.F__law_pairs.kp (B__law_pairs T) .nil pass0 (pa_cons (pv 7) (pa_cons (pe_ix (r := rIx K) ix_seq (pv 1) pe_int (fun _ _ => rfl)) (pa_cons (pe_ix (r := rIx K) ix_seq (pv 1) pe_int (fun _ _ => rfl)) pa_nil)))))
  (pss_one (ps_set (i := 5) sc__law_all.nd rfl (Or.inl rfl) (pe_op op_cat (pv 5) (pe_lst (pa_cons (pv 8) (pa_cons (pe_call G__law_spoilt (hr.mono (by decide)) rfl T.g__law_spoilt T.F__law_spoilt.kp (B__law_spoilt T) .nil pass0 (pa_cons (pv 7) (pa_cons (pv 8) (pa_cons (pe_ix (r := rIx K) ix_seq (pv 1) pe_int (fun _ _ => rfl)) pa_nil)))) pa_nil)))))))))
  (pss_cons (ps_for PassesOwn.never rfl (pi_range1 rfl T.n_range (pa_cons pe_int pa_nil)) (pg_name (i := 9) sc__law_all.nd rfl (Or.inl rfl))
  (pss_one (ps_for PassesOwn.never rfl (pi_range1 rfl T.n_range (pa_cons pe_int pa_nil)) (pg_name (i := 6) sc__law_all.nd rfl (Or.inl rfl))
  (pss_cons (ps_if (pt_not (pt_val (pe_call G__law_asked (hr.mono (by decide)) rfl T.g__law_asked T.F__law_asked.kp (B__law_asked T) .nil pass0 (pa_cons (pv 3) (pa_cons (pe_ix (r := rIx K) ix_seq (pv 1) pe_int (fun _ _ => rfl)) (pa_cons (pe_ix (r := rIx K) ix_seq (pv 1) pe_int (fun _ _ => rfl)) (pa_cons (pe_ix ix_seq (pv 5) (pv 6) (fun _ _ => rfl)) (pa_cons (pe_cmpR op_eq (pe_op op_mod (pe_callTy call_int1 (by rfl) T.n_int (by decide +kernel) (pa_cons (pe_op op_add (pe_op op_fdiv (pv 6) pe_int) (pv 9)) pa_nil)) pe_int) pe_int (nomark _)) pa_nil)))))))) (pss_one (ps_ret pe_bl)) pss_nil)
  (pss_one (ps_if (PW.pt (pw_and (pt_cmpR op_eq (pv 9) pe_int (nomark _)) (pw_and1 (pt_not (pt_val (pe_call G__law_asked (hr.mono (by decide)) rfl T.g__law_asked T.F__law_asked.kp (B__law_asked T) .nil pass0 (pa_cons (pv 4) (pa_cons (pe_ix (r := rIx K) ix_seq (pv 2) pe_int (fun _ _ => rfl)) (pa_cons (pe_ix (r := rIx K) ix_seq (pv 2) pe_int (fun _ _ => rfl)) (pa_cons (pe_ix ix_seq (pv 5) (pv 6) (fun _ _ => rfl)) (pa_cons pe_bl pa_nil))))))))))) (pss_one (ps_ret pe_bl)) pss_nil))))))
  (pss_cons (ps_if (PW.pt (pw_or (pt_not (pt_val (pe_call G__law_object_refused (hr.mono (by decide)) rfl T.g__law_object_refused T.F__law_object_refused.kp (B__law_object_refused T) .nil pass0 (pa_cons (pv 3) pa_nil)))) (pw_or1 (pt_not (pt_val (pe_call G__law_object_refused (hr.mono (by decide)) rfl T.g__law_object_refused T.F__law_object_refused.kp (B__law_object_refused T) .nil pass0 (pa_cons (pv 4) pa_nil))))))) (pss_one (ps_ret pe_bl)) pss_nil)
  (pss_one (ps_ret (pe_and (pe_call G__law_is (hr.mono (by decide)) rfl T.g__law_is T.F__law_is.kp (B__law_is T) .nil pass0 (pa_cons (pv 3) (pa_cons (pe_ix (r := rIx K) ix_seq (pv 1) pe_int (fun _ _ => rfl)) (pa_cons (pe_ix (r := rIx K) ix_seq (pv 1) pe_int (fun _ _ => rfl)) pa_nil)))) (pe_one (pe_call G__law_is (hr.mono (by decide)) rfl T.g__law_is T.F__law_is.kp (B__law_is T) .nil pass0 (pa_cons (pv 4) (pa_cons (pe_ix (r := rIx K) ix_seq (pv 2) pe_int (fun _ _ => rfl)) (pa_cons (pe_ix (r := rIx K) ix_seq (pv 2) pe_int (fun _ _ => rfl)) pa_nil)))))))))))))))), ?_⟩
    walk_at "sx"
    refine c_flow (by decide) hl fun f0 H1 n0 s1 F0 => ?_
    walk_at "sx"
    refine ⟨f0, rfl, F0, fun q1 l1 n1 ns1 ls1 H2 F0' K2 hq1 hl1 rl1 el1 N1 m1 sn1 => ?_⟩
    have s02 : Same H H2 := Keep.toSame s1 n0 K2
    walk_at "sx"
    refine c_flow (by decide) (s02.seq hl) fun f1 H3 n3 s3 F3 => ?_
    walk_at "sx"
    refine ⟨f1, rfl, F3, fun q2 l2 n2 ns2 ls2 H4 F4' K4 hq2 hl2 rl2 el2 N2 m2 sn2 => ?_⟩
    have s24 : Same H2 H4 := Keep.toSame s3 n3 K4
    have hq1' := s24 _ _ hq1
    have hl1' : True → H4 l1 = some (.lst (ls1.map rf)) := fun _ => s24 _ _ hl1
    have hl2' : True → H4 l2 = some (.lst (ls2.map rf)) := fun _ => hl2
    have rl1' := rl1.same s24
    clear hq1 hl1 hl2 rl1
    have l1n : ls1.length = ns1.length := by simpa using congrArg List.length el1
    have l2n : ls2.length = ns2.length := by simpa using congrArg List.length el2
    have few1 := N1.few
    have few2 := N2.few
    have ne1 : ls1 ≠ [] := fun z => N1.ne (List.eq_nil_of_length_eq_zero (by rw [← l1n, z]; rfl))
    have ne2 : ls2 ≠ [] := fun z => N2.ne (List.eq_nil_of_length_eq_zero (by rw [← l2n, z]; rfl))
    have mem1 : ∀ r, r ∈ ls1.map (·.2) ↔ r ∈ ns1.map (bitsOf n1) := fun r => by rw [el1]
    have mem2 : ∀ r, r ∈ ls2.map (·.2) ↔ r ∈ ns2.map (bitsOf n2) := fun r => by rw [el2]
    refine s_name ?_
    dsimp only
    refine s_seq (s_asg (s_make (s_cons (s_op (s_var rfl (s_c ?_))))))
    refine r_ixL hq1' (v := .int n1) rfl ?_
    refine s_cons (s_op (s_var rfl (s_c ?_)))
    refine r_ixL hq1' (v := .ref l1) rfl ?_
    refine s_nil (c_make (hl1' trivial) ne1 (by omega) (by omega) rl1' fun xa Ga ksa ta oa ra => ?_)
    have R1 : Rn A.c_Rules Ga xa n1 ns1 := ⟨ksa, ra, of_nums N1 mem1 oa⟩
    refine s_name ?_
    dsimp only
    have hq2g := ta _ _ hq2
    refine s_seq (s_asg (s_make (s_cons (s_op (s_var rfl (s_c ?_))))))
    refine r_ixL hq2g (v := .int n2) rfl ?_
    refine s_cons (s_op (s_var rfl (s_c ?_)))
    refine r_ixL hq2g (v := .ref l2) rfl ?_
    refine s_nil (c_make (ta _ _ (hl2' trivial)) ne2 (by omega) (by omega) (rl2.same ta) fun xb Gb ksb tb ob rb => ?_)
    have R2 : Rn A.c_Rules Gb xb n2 ns2 := ⟨ksb, rb, of_nums N2 mem2 ob⟩
    have sab := ta.trans tb
    have S0b : Same H Gb := s02.trans (s24.trans sab)
    have hq1b := sab _ _ hq1'
    have hq2b := tb _ _ hq2g
    have A1 : True → Had A.c_Rules Gb xa l1 n1 ns1 ls1 := fun _ => ⟨R1.same tb, sab _ _ (hl1' trivial), rl1'.same sab, el1, N1, sn1⟩
    have A2 : True → Had A.c_Rules Gb xb l2 n2 ns2 ls2 := fun _ => ⟨R2, sab _ _ (hl2' trivial), rl2.same sab, el2, N2, sn2⟩
    clear hq1' hq2 hq2g
    refine s_name ?_
    dsimp only
    walk_at "sx"
    rename_i pk npk B s5 h5
    have h5' : True → B pk = some (.lst []) := fun _ => h5
    clear h5
    have hq1B := s5 _ _ hq1b
    have hq2B := s5 _ _ hq2b
    have B1 : True → Had A.c_Rules B xa l1 n1 ns1 ls1 := fun _ => (A1 trivial).same s5
    have B2 : True → Had A.c_Rules B xb l2 n2 ns2 ls2 := fun _ => (A2 trivial).same s5
    have S0B : Same H B := S0b.trans s5
    clear hq1b hq2b
    refine ⟨_, _, rfl, by decide, for_range (lo := 2) (n := 8) (fun i σ H' => Same B H' ∧ ∃ (pa : Addr) (vs : List V) (v6 v7 v8 v9 : Option V), (True → H' pa = some (.lst vs)) ∧ vs.length = 2 * i ∧ (∀ v ∈ vs, Al H' 4 v v) ∧ σ = [some (.ref l), some (.ref q1), some (.ref q2), some (.ref xa), some (.ref xb), some (.ref pa), v6, v7, v8, v9]) ⟨L2.Same.refl _, pk, [], none, none, none, none, h5', rfl, (fun v h => by cases h), rfl⟩ ?_ ?_⟩
    · rintro i σ H' hi ⟨s', pa, vs, v6, v7, v8, v9, hpa, lvs, alv, rfl⟩
      have g1 := s' _ _ hq1B
      have hadH := (B1 trivial).same s'
      walk_at "sx"
      refine c_flow (by omega) ((S0B.trans s').seq hl) fun f H1 nf t1 F1 => ?_
      have g1' := t1 _ _ g1
      have hl1f : l1 ≠ f := ne_of_none hadH.hl nf
      have had1 := hadH.same t1
      have hpa1 : True → H1 pa = some (.lst vs) := fun _ => t1 _ _ (hpa trivial)
      clear hadH
      walk_at "sx"
      refine ⟨f, l1, n1, ls1, rfl, F1, sn1, had1.hl, hl1f, had1.rl, ne1, by omega, fun p ts H2 F2 K2 hp pt t8 => ?_⟩
      have t2 : Same H' H2 := Keep.toSame t1 nf K2
      have g2 := t2 _ _ g1
      have hp' : True → H2 p = some (.tup (ts.map rf)) := fun _ => hp
      clear hp had1
      walk_at "sx"
      refine ⟨f, p, n1, ts, rfl, F2, sn1, hp' trivial, pt, t8, fun v H3 F3 K3 al => ?_⟩
      have t3 : Same H' H3 := Keep.toSame t2 nf K3
      have hp3 := K3 _ _ (fl_ne F2 (hp' trivial)) (hp' trivial)
      have pt3 := pt.flow K3 F2
      walk_at "sx"
      rename_i pl npl H4 t4 h4
      have t34 := t3.trans t4
      refine ⟨pa, pl, _, _, rfl, rfl, t34 _ _ (hpa trivial), h4, by rw [sizeLine_eq]; show _ + 2 ≤ _; omega, fun p3 np3 => ?_⟩
      generalize hE : upd H4 p3 _ = H5
      have t5 := new_same np3 hE
      have h5 := new_at hE
      clear hE
      have t35 := t34.trans t5
      walk_at "sx"
      refine ⟨s'.trans t35, p3, _, _, _, _, _, fun _ => h5, by rw [List.length_append, lvs]; show _ + 2 = _; omega, ?_, rfl⟩
      refine mem_app (fun y hy => (alv y hy).same t35) (mem_2 ?_ (al.same (t4.trans t5)))
      exact al_tup ((t4.trans t5) _ _ hp3) (by rw [List.length_map]; omega) (fun y hy => (pts_al (d := 2) pt3 (by decide) y hy).same (t4.trans t5))
    · rintro σ H' ⟨s', pa, vs, v6, v7, v8, v9, hpa, lvs, alv, rfl⟩
      have g1 := s' _ _ hq1B
      have g2 := s' _ _ hq2B
      have C1 : True → Had A.c_Rules H' xa l1 n1 ns1 ls1 := fun _ => (B1 trivial).same s'
      have C2 : True → Had A.c_Rules H' xb l2 n2 ns2 ls2 := fun _ => (B2 trivial).same s'
      walk_at "sx"
      refine ⟨_, rfl, by decide, by decide, for_range (lo := 0) (n := 2) (fun i σ H9 => Same H' H9 ∧ ∃ (v6 v9 : Option V), σ = [some (.ref l), some (.ref q1), some (.ref q2), some (.ref xa), some (.ref xb), some (.ref pa), v6, v7, v8, v9]) ⟨L2.Same.refl _, _, _, rfl⟩ ?_ ?_⟩
      · rintro i σ H9 hi ⟨s9, v6, v9, rfl⟩
        walk_at "sx"
        refine ⟨_, rfl, by decide, by decide, for_range (lo := 0) (n := 16) (fun j σ H9 => Same H' H9 ∧ ∃ (v6 : Option V), σ = [some (.ref l), some (.ref q1), some (.ref q2), some (.ref xa), some (.ref xb), some (.ref pa), v6, v7, v8, some (.int (0 + (i : Int)))]) ⟨s9, _, rfl⟩ ?_ ?_⟩
        · rintro j σ H9 hj ⟨s9, v6, rfl⟩
          have e1 := s9 _ _ g1
          have c1 := (C1 trivial).same s9
          obtain ⟨v, hv⟩ : ∃ v, vs[j]? = some v := ⟨_, List.getElem?_eq_getElem (by omega)⟩
          have al := (alv v (List.mem_of_getElem? hv)).same s9
          have av : atI vs (0 + (j : Int)) = some v := by
            rw [Int.zero_add]
            exact atI_nat hv
          refine s_name ?_
          refine s_seq (s_ifS (s_not (s_tB (s_call (s_cons (s_var rfl (s_cons (s_op (s_var rfl (s_c ?_))))))))))
          refine r_ixL e1 (v := .int n1) rfl ?_
          refine s_cons (s_op (s_var rfl (s_c ?_)))
          refine r_ixL e1 (v := .ref l1) rfl ?_
          refine s_cons (s_op (s_var rfl (s_var rfl ?_)))
          refine r_ixL (s9 _ _ (hpa trivial)) av ?_
          walk_at "sx"
          refine ⟨xa, l1, v, _, n1, ns1, ls1, rfl, c1, al, fun H10 s10 => ?_⟩
          have s910 := s9.trans s10
          have e2 := s910 _ _ g2
          have c2 := (C2 trivial).same s910
          have al2 := al.same s10
          walk_at "sx"
          refine i_2 (fun c => ?_) (fun c => ?_)
          · refine s_not (s_tB (s_call (s_cons (s_var rfl (s_cons (s_op (s_var rfl (s_c ?_))))))))
            refine r_ixL e2 (v := .int n2) rfl ?_
            refine s_cons (s_op (s_var rfl (s_c ?_)))
            refine r_ixL e2 (v := .ref l2) rfl ?_
            refine s_cons (s_op (s_var rfl (s_var rfl ?_)))
            refine r_ixL (s910 _ _ (hpa trivial)) av ?_
            walk_at "sx"
            refine ⟨xb, l2, v, _, n2, ns2, ls2, rfl, c2, al2, fun H11 s11 => ?_⟩
            walk_at "sx"
            exact ⟨s910.trans s11, _, rfl⟩
          · walk_at "sx"
            exact ⟨s910, _, rfl⟩
        · rintro σ H9 ⟨s9, v6, rfl⟩
          exact ⟨s9, _, _, rfl⟩
      · rintro σ H9 ⟨s9, v6, v9, rfl⟩
        walk_at "sx"
        refine ⟨xa, n1, ns1, rfl, ((C1 trivial).same s9).ru, N1, sn1, fun H10 s10 => ?_⟩
        walk_at "sx"
        refine ⟨xb, n2, ns2, rfl, ((C2 trivial).same (s9.trans s10)).ru, N2, sn2, fun H11 s11 => ?_⟩
        have s911 := s9.trans (s10.trans s11)
        have e1 := s911 _ _ g1
        have e2 := s911 _ _ g2
        have c1 := (C1 trivial).same s911
        walk_at "sx"
        refine ⟨xa, l1, n1, ns1, ls1, rfl, c1.ru, c1.hl, c1.rl, el1, few1, sn1, fun H12 s12 => ?_⟩
        have c2 := (C2 trivial).same (s911.trans s12)
        have e3 := s12 _ _ e2
        walk_at "sx"
        exact ⟨xb, l2, n2, ns2, ls2, rfl, c2.ru, c2.hl, c2.rl, el2, few2, sn2, fun H13 s13 => k H13⟩
end
end K07

set_option Elab.async false
set_option linter.all false
set_option maxRecDepth 100000
set_option maxHeartbeats 4000000
namespace K07
open PySem L2 Sx
local macro_rules | `(tactic| walk_at "cond") => `(tactic| first
  | assumption
  | decide
  | exact c_mul_r (by first | decide | omega) (by first | decide | omega)
  | exact c_mul_l (by first | decide | omega) (by first | decide | omega)
  | exact c_div (by first | decide | omega) (by first | decide | omega)
  | exact c_pow (by first | decide | omega) (by first | decide | omega) (by first | decide | omega)
  | omega)
local macro_rules | `(tactic| walk_at "ne") => `(tactic| first
  | assumption
  | (refine Ne.symm ?_; assumption)
  | (refine' Flow.ne ?nh ?nn; (case nn => assumption); (case nh => walk_at "fl"))
  | (refine Ne.symm ?_; refine' Flow.ne ?nh ?nn; (case nn => assumption); (case nh => walk_at "fl"))
  | (refine' ne_of_none ?nh ?nn; (case nn => assumption); (case nh => walk_at "at"))
  | (refine Ne.symm ?_; refine' ne_of_none ?nh ?nn; (case nn => assumption); (case nh => walk_at "at")))
local macro_rules | `(tactic| walk_at "at") => `(tactic| first
  | assumption
  | (refine Same.up (by assumption) ?_; walk_at "at")
  | (refine Keep.up (by assumption) (by walk_at "ne") ?_; walk_at "at"))
local macro_rules | `(tactic| walk_at "fl") => `(tactic| first
  | assumption
  | (refine Flow.same (by assumption) ?_; walk_at "fl")
  | (refine Flow.keep (by assumption) (by walk_at "ne") ?_; walk_at "fl"))
local macro_rules | `(tactic| walk_at "fr") => `(tactic| first
  | assumption
  | (refine same_free (by assumption) ?_; walk_at "fr")
  | (refine Keep.free (by assumption) (by walk_at "ne") ?_; walk_at "fr"))
local macro_rules | `(tactic| walk_at "kp") => `(tactic| first
  | assumption
  | exact Keep.refl _ _
  | (refine Keep.trans ?_ (by assumption); walk_at "kp")
  | (refine Keep.trans ?_ (Keep.same (by assumption)); walk_at "kp"))
local macro_rules | `(tactic| walk_at "sm") => `(tactic| first
  | assumption
  | exact L2.Same.refl _
  | (refine L2.Same.trans ?_ (by assumption); walk_at "sm"))
local macro_rules | `(tactic| walk_at "sz") => `(tactic| first | exact Nat.le_of_ble_eq_true rfl | omega)
local macro_rules | `(tactic| walk_at "new") => `(tactic| (intro p np; generalize hE : upd _ p _ = H2; have s2 := new_same np hE; have h2 := new_at hE; clear hE))
local macro_rules | `(tactic| walk_at "newx") => `(tactic| (intro e d na nd hda; generalize hE : upd (upd _ d _) e _ = H2; have s2 := newx_same na nd hE; have h2 := newx_at hE; have h3 := newx_d hda hE; clear hE))
local macro_rules | `(tactic| walk_at "s1") => `(tactic| first
  | with_reducible refine s_seq ?_
  | with_reducible refine s_asg ?_
  | with_reducible refine s_name ?_
  | with_reducible refine s_ret ?_
  | with_reducible refine s_c ?_
  | ((with_reducible refine' s_var ?hv ?_); (case hv => rfl))
  | with_reducible refine s_op ?_
  | with_reducible refine s_un ?_
  | with_reducible refine s_ifS ?_
  | with_reducible refine s_cb ?_
  | with_reducible refine s_cons ?_
  | with_reducible refine s_nil ?_
  | with_reducible refine s_call ?_
  | with_reducible refine s_test ?_
  | with_reducible refine s_tB ?_
  | with_reducible refine s_bl ?_
  | with_reducible refine s_and ?_
  | with_reducible refine s_or ?_
  | with_reducible refine s_not ?_
  | with_reducible refine s_andV ?_
  | with_reducible refine s_orV ?_
  | with_reducible refine s_notV ?_
  | with_reducible refine s_blV ?_
  | with_reducible refine s_if ?_
  | with_reducible refine s_tup ?_
  | with_reducible refine s_lst ?_
  | with_reducible refine s_drop ?_
  | with_reducible refine s_next ?_
  | with_reducible refine s_sub ?_
  | with_reducible refine s_bm ?_
  | with_reducible refine s_callK ?_
  | with_reducible refine s_brk ?_
  | with_reducible refine s_cont ?_
  | with_reducible refine r_I0 ?_
  | with_reducible refine r_U ?_
  | with_reducible refine r_eqI ?_
  | with_reducible refine r_neI ?_
  | with_reducible refine r_isB ?_
  | with_reducible refine r_notB ?_
  | with_reducible refine i_t ?_
  | with_reducible refine i_f ?_
  | with_reducible refine i_nt ?_
  | with_reducible refine i_nf ?_
  | ((with_reducible refine' r_I ?hc ?_); (case hc => walk_at "cond"))
  | (with_reducible refine .inl ⟨_, rfl, ?_⟩)
  | (with_reducible refine ⟨_, rfl, ?_⟩)
  | ((with_reducible refine' r_ixL ?hx ?ha ?_); (case hx => walk_at "at"); (case ha => rfl))
  | ((with_reducible refine' r_ixT ?hx ?ha ?_); (case hx => walk_at "at"); (case ha => rfl))
  | ((with_reducible refine' r_setL ?hx ?ha ?_); (case hx => walk_at "at"); (case ha => rfl); intro H2 k2 h2; (try dsimp only [List.set, Int.toNat] at h2))
  | ((with_reducible refine' r_app ?hx ?hl ?_); (case hx => walk_at "at"); (case hl => first | exact Nat.lt_of_ble_eq_true rfl | omega); intro H2 k2 h2)
  | ((with_reducible refine' ty_list ?hx ?_); (case hx => walk_at "at"))
  | (refine And.intro (by (with_reducible show _ ≤ sizeLine); walk_at "sz") ?_; walk_at "new")
  | with_reducible refine s_exv ?_
  | walk_at "newx")
local macro_rules | `(tactic| walk_at "sx") => `(tactic| repeat (walk_at "s1"))
local macro_rules | `(tactic| walk_at "s2") => `(tactic| first
  | ((with_reducible refine' r_ixG ?hx ?hn ?_); (case hx => walk_at "at"); (case hn => omega))
  | ((with_reducible refine' r_ixGT ?hx ?hn ?_); (case hx => walk_at "at"); (case hn => omega))
  | (with_reducible refine ig_cons (fun hix => ?_) (fun hix => ?_))
  | ((with_reducible refine ig_nil ?_); omega)
  | ((with_reducible refine' i_T ?hc ?_); (case hc => omega))
  | ((with_reducible refine' i_F ?hc ?_); (case hc => omega))
  | (with_reducible refine i_2 (fun hc => ?_) (fun hc => ?_))
  | (with_reducible refine i_n2 (fun hc => ?_) (fun hc => ?_)))
local macro_rules | `(tactic| walk_at "go") => `(tactic| repeat' (first | walk_at "s1" | walk_at "s2"))

local macro_rules | `(tactic| walk_at "s1") => `(tactic| first
  | with_reducible refine s_chain ?_
  | with_reducible refine s_fldS ?_
  | with_reducible refine s_fld ?_
  | with_reducible refine s_dIn ?_
  | with_reducible refine s_dNotIn ?_
  | with_reducible refine s_sl ?_
  | with_reducible refine s_noPart ?_
  | with_reducible refine s_part ?_
  | with_reducible refine s_meth ?_
  | with_reducible refine s_make ?_)

section
variable {P : Program} {w : World} {K : PySem.W.Frag} {mg : Str → Option Value} {base : Heap} {A : Ad}
def spLaw (K : PySem.W.Frag) : Sp := fun vs H Q _ => ∃ (a : Addr) (ns : List Int), vs = [.ref a] ∧ SqL K H a (ns.map V.int) ∧ ns.length ≤ 63 ∧ ∀ H', Q (.bl true) H'
theorem ok_law (T : Txt P K mg A) : FnOk P w K mg base CX0 14 A.a_law A.d_law ["script"] (spLaw K) := by
  refine T.F_law.ok sc_law (fun vs H Q E h => ?_) (fun cdv A' outer s H vs Q E hr h => ?_)
  · obtain ⟨a, ns, rfl, _⟩ := h
    rfl
  · obtain ⟨a, ns, rfl, hS, hn, k⟩ := h
    have G__law_all := ok_all (w := w) (base := base) T
    refine ⟨_, (pss_one (ps_try_thru0 (pss_one (ps_ret (pe_call G__law_all (hr.mono (by decide)) rfl T.g__law_all T.F__law_all.kp (B__law_all T) .nil pass0 (pa_cons (pv 0) pa_nil)))))), ?_⟩
    walk_at "sx"
    exact ⟨a, ns, rfl, hS, k⟩
end
abbrev sI_InvalidShown : Stmt := inClass (top 10) 0
abbrev sI_Undefined : Stmt := inClass (top 11) 0
theorem all_mk {l : PySem.W.OpenLaw} {w : World} {K : PySem.W.Frag} {h : Heap} {mg : Str → Option Value} {fa : Addr} (X : K.In h) (G : h.Ns mainGlobals mg) (hfa : mg "law" = some (.ref fa))
    {C_Rules : Addr} {f0 : Addr} {od0 an0 : Option Addr} {sl0 : Array (Option Value)} {oc0 kV0 dc0 pm0 cd0 ct0 : Value} {f1 : Addr} {od1 an1 : Option Addr} {sl1 : Array (Option Value)} {oc1 kV1 dc1 pm1 cd1 ct1 : Value} {f2 : Addr} {od2 an2 : Option Addr} {sl2 : Array (Option Value)} {oc2 kV2 dc2 pm2 cd2 ct2 : Value} {f3 : Addr} {od3 an3 : Option Addr} {sl3 : Array (Option Value)} {oc3 kV3 dc3 pm3 cd3 ct3 : Value} {f4 : Addr} {od4 an4 : Option Addr} {sl4 : Array (Option Value)} {oc4 kV4 dc4 pm4 cd4 ct4 : Value} {f5 : Addr} {od5 an5 : Option Addr} {sl5 : Array (Option Value)} {oc5 kV5 dc5 pm5 cd5 ct5 : Value} {f6 : Addr} {od6 an6 : Option Addr} {sl6 : Array (Option Value)} {oc6 kV6 dc6 pm6 cd6 ct6 : Value} {f7 : Addr} {od7 an7 : Option Addr} {sl7 : Array (Option Value)} {oc7 kV7 dc7 pm7 cd7 ct7 : Value} {f8 : Addr} {od8 an8 : Option Addr} {sl8 : Array (Option Value)} {oc8 kV8 dc8 pm8 cd8 ct8 : Value} {f9 : Addr} {od9 an9 : Option Addr} {sl9 : Array (Option Value)} {oc9 kV9 dc9 pm9 cd9 ct9 : Value} {f10 : Addr} {od10 an10 : Option Addr} {sl10 : Array (Option Value)} {oc10 kV10 dc10 pm10 cd10 ct10 : Value} {f11 : Addr} {od11 an11 : Option Addr} {sl11 : Array (Option Value)} {oc11 kV11 dc11 pm11 cd11 ct11 : Value} {f12 : Addr} {od12 an12 : Option Addr} {sl12 : Array (Option Value)} {oc12 kV12 dc12 pm12 cd12 ct12 : Value} {f13 : Addr} {od13 an13 : Option Addr} {sl13 : Array (Option Value)} {oc13 kV13 dc13 pm13 cd13 ct13 : Value} {f14 : Addr} {od14 an14 : Option Addr} {sl14 : Array (Option Value)} {oc14 kV14 dc14 pm14 cd14 ct14 : Value} {f15 : Addr} {od15 an15 : Option Addr} {sl15 : Array (Option Value)} {oc15 kV15 dc15 pm15 cd15 ct15 : Value} {f16 : Addr} {od16 an16 : Option Addr} {sl16 : Array (Option Value)} {oc16 kV16 dc16 pm16 cd16 ct16 : Value} {f17 : Addr} {od17 an17 : Option Addr} {sl17 : Array (Option Value)} {oc17 kV17 dc17 pm17 cd17 ct17 : Value} {f18 : Addr} {od18 an18 : Option Addr} {sl18 : Array (Option Value)} {oc18 kV18 dc18 pm18 cd18 ct18 : Value} {f19 : Addr} {od19 an19 : Option Addr} {sl19 : Array (Option Value)} {oc19 kV19 dc19 pm19 cd19 ct19 : Value} {f20 : Addr} {od20 an20 : Option Addr} {sl20 : Array (Option Value)} {oc20 kV20 dc20 pm20 cd20 ct20 : Value} {f21 : Addr} {od21 an21 : Option Addr} {sl21 : Array (Option Value)} {oc21 kV21 dc21 pm21 cd21 ct21 : Value} {f22 : Addr} {od22 an22 : Option Addr} {sl22 : Array (Option Value)} {oc22 kV22 dc22 pm22 cd22 ct22 : Value} {f23 : Addr} {od23 an23 : Option Addr} {sl23 : Array (Option Value)} {oc23 kV23 dc23 pm23 cd23 ct23 : Value} {f24 : Addr} {od24 an24 : Option Addr} {sl24 : Array (Option Value)} {oc24 kV24 dc24 pm24 cd24 ct24 : Value} {f25 : Addr} {od25 an25 : Option Addr} {sl25 : Array (Option Value)} {oc25 kV25 dc25 pm25 cd25 ct25 : Value} {f26 : Addr} {od26 an26 : Option Addr} {sl26 : Array (Option Value)} {oc26 kV26 dc26 pm26 cd26 ct26 : Value} {f27 : Addr} {od27 an27 : Option Addr} {sl27 : Array (Option Value)} {oc27 kV27 dc27 pm27 cd27 ct27 : Value} {f28 : Addr} {od28 an28 : Option Addr} {sl28 : Array (Option Value)} {oc28 kV28 dc28 pm28 cd28 ct28 : Value} {C_InvalidShown I_InvalidShown : Addr} {nm_InvalidShown q_InvalidShown : Str} {N_InvalidShown : Addr} {bs_InvalidShown bm_InvalidShown sub_InvalidShown : List Value} {sn_InvalidShown : List Str} {ab_InvalidShown : Bool} {col_InvalidShown : Option Bool} {dd_InvalidShown : Option Addr} {k0_InvalidShown k1_InvalidShown k2_InvalidShown k3_InvalidShown k5_InvalidShown : Option Value} {oi_InvalidShown ci_InvalidShown pi_InvalidShown di_InvalidShown : Value} {oo_InvalidShown ai_InvalidShown : Option Addr} {ca_InvalidShown cc_InvalidShown : Addr} {si2_InvalidShown sj_InvalidShown sk_InvalidShown : Array (Option Value)} {cl1_InvalidShown cl2_InvalidShown : Value} {cd1_InvalidShown cd2_InvalidShown : Option Addr} {vs_InvalidShown : Array Value} {tf_InvalidShown : Tok} {file_InvalidShown : Str} {C_Undefined I_Undefined : Addr} {nm_Undefined q_Undefined : Str} {N_Undefined : Addr} {bs_Undefined bm_Undefined sub_Undefined : List Value} {sn_Undefined : List Str} {ab_Undefined : Bool} {col_Undefined : Option Bool} {dd_Undefined : Option Addr} {k0_Undefined k1_Undefined k2_Undefined k3_Undefined k5_Undefined : Option Value} {oi_Undefined ci_Undefined pi_Undefined di_Undefined : Value} {oo_Undefined ai_Undefined : Option Addr} {ca_Undefined cc_Undefined : Addr} {si2_Undefined sj_Undefined sk_Undefined : Array (Option Value)} {cl1_Undefined cl2_Undefined : Value} {cd1_Undefined cd2_Undefined : Option Addr} {vs_Undefined : Array Value} {tf_Undefined : Tok} {file_Undefined : Str}
    (a0 : PySem.W.nsIn K mainGlobals "is_an_integer" = some (some (.ref f0)))
    (l0 : K.lookup f0 = some ⟨oc0, od0, .func (PySem.W.fnOf "is_an_integer" "is_an_integer" (defArgs s_is_an_integer) (defBody s_is_an_integer) (defScope s_is_an_integer) .none kV0 dc0 pm0 an0 cd0 ct0), sl0⟩)
    (c0 : PySem.W.codeIn K cd0 "is_an_integer" = true)
    (k0 : PySem.W.keepIn K (.ref f0) = true)
    (a1 : PySem.W.nsIn K mainGlobals "is_number" = some (some (.ref f1)))
    (l1 : K.lookup f1 = some ⟨oc1, od1, .func (PySem.W.fnOf "is_number" "is_number" (defArgs s_is_number) (defBody s_is_number) (defScope s_is_number) .none kV1 dc1 pm1 an1 cd1 ct1), sl1⟩)
    (c1 : PySem.W.codeIn K cd1 "is_number" = true)
    (k1 : PySem.W.keepIn K (.ref f1) = true)
    (a2 : PySem.W.nsIn K mainGlobals "is_value" = some (some (.ref f2)))
    (l2 : K.lookup f2 = some ⟨oc2, od2, .func (PySem.W.fnOf "is_value" "is_value" (defArgs s_is_value) (defBody s_is_value) (defScope s_is_value) .none kV2 dc2 pm2 an2 cd2 ct2), sl2⟩)
    (c2 : PySem.W.codeIn K cd2 "is_value" = true)
    (k2 : PySem.W.keepIn K (.ref f2) = true)
    (a3 : PySem.W.nsIn K mainGlobals "is_point" = some (some (.ref f3)))
    (l3 : K.lookup f3 = some ⟨oc3, od3, .func (PySem.W.fnOf "is_point" "is_point" (defArgs s_is_point) (defBody s_is_point) (defScope s_is_point) .none kV3 dc3 pm3 an3 cd3 ct3), sl3⟩)
    (c3 : PySem.W.codeIn K cd3 "is_point" = true)
    (k3 : PySem.W.keepIn K (.ref f3) = true)
    (a4 : PySem.W.nsIn K mainGlobals "is_pair" = some (some (.ref f4)))
    (l4 : K.lookup f4 = some ⟨oc4, od4, .func (PySem.W.fnOf "is_pair" "is_pair" (defArgs s_is_pair) (defBody s_is_pair) (defScope s_is_pair) .none kV4 dc4 pm4 an4 cd4 ct4), sl4⟩)
    (c4 : PySem.W.codeIn K cd4 "is_pair" = true)
    (k4 : PySem.W.keepIn K (.ref f4) = true)
    (a5 : PySem.W.nsIn K mainGlobals "is_row" = some (some (.ref f5)))
    (l5 : K.lookup f5 = some ⟨oc5, od5, .func (PySem.W.fnOf "is_row" "is_row" (defArgs s_is_row) (defBody s_is_row) (defScope s_is_row) .none kV5 dc5 pm5 an5 cd5 ct5), sl5⟩)
    (c5 : PySem.W.codeIn K cd5 "is_row" = true)
    (k5 : PySem.W.keepIn K (.ref f5) = true)
    (a6 : PySem.W.nsIn K mainGlobals "is_lot" = some (some (.ref f6)))
    (l6 : K.lookup f6 = some ⟨oc6, od6, .func (PySem.W.fnOf "is_lot" "is_lot" (defArgs s_is_lot) (defBody s_is_lot) (defScope s_is_lot) .none kV6 dc6 pm6 an6 cd6 ct6), sl6⟩)
    (c6 : PySem.W.codeIn K cd6 "is_lot" = true)
    (k6 : PySem.W.keepIn K (.ref f6) = true)
    (a7 : PySem.W.nsIn K mainGlobals "are_rows" = some (some (.ref f7)))
    (l7 : K.lookup f7 = some ⟨oc7, od7, .func (PySem.W.fnOf "are_rows" "are_rows" (defArgs s_are_rows) (defBody s_are_rows) (defScope s_are_rows) .none kV7 dc7 pm7 an7 cd7 ct7), sl7⟩)
    (c7 : PySem.W.codeIn K cd7 "are_rows" = true)
    (k7 : PySem.W.keepIn K (.ref f7) = true)
    (a8 : PySem.W.nsIn K mainGlobals "is_answer" = some (some (.ref f8)))
    (l8 : K.lookup f8 = some ⟨oc8, od8, .func (PySem.W.fnOf "is_answer" "is_answer" (defArgs s_is_answer) (defBody s_is_answer) (defScope s_is_answer) .none kV8 dc8 pm8 an8 cd8 ct8), sl8⟩)
    (c8 : PySem.W.codeIn K cd8 "is_answer" = true)
    (k8 : PySem.W.keepIn K (.ref f8) = true)
    (a9 : PySem.W.nsIn K mainGlobals "fits" = some (some (.ref f9)))
    (l9 : K.lookup f9 = some ⟨oc9, od9, .func (PySem.W.fnOf "fits" "fits" (defArgs s_fits) (defBody s_fits) (defScope s_fits) .none kV9 dc9 pm9 an9 cd9 ct9), sl9⟩)
    (c9 : PySem.W.codeIn K cd9 "fits" = true)
    (k9 : PySem.W.keepIn K (.ref f9) = true)
    (a10 : PySem.W.findIn K (.ref C_Rules) "__init__" = some (some (.ref f10)))
    (l10 : K.lookup f10 = some ⟨oc10, od10, .func (PySem.W.fnOf "__init__" "Rules.__init__" (defArgs s_Rules____init__) (defBody s_Rules____init__) (defScope s_Rules____init__) .none kV10 dc10 pm10 an10 cd10 ct10), sl10⟩)
    (c10 : PySem.W.codeIn K cd10 "Rules.__init__" = true)
    (k10 : PySem.W.keepIn K (.ref f10) = true)
    (a11 : PySem.W.findIn K (.ref C_Rules) "__eq__" = some (some (.ref f11)))
    (l11 : K.lookup f11 = some ⟨oc11, od11, .func (PySem.W.fnOf "__eq__" "Rules.__eq__" (defArgs s_Rules____eq__) (defBody s_Rules____eq__) (defScope s_Rules____eq__) .none kV11 dc11 pm11 an11 cd11 ct11), sl11⟩)
    (c11 : PySem.W.codeIn K cd11 "Rules.__eq__" = true)
    (k11 : PySem.W.keepIn K (.ref f11) = true)
    (a12 : PySem.W.findIn K (.ref C_Rules) "__len__" = some (some (.ref f12)))
    (l12 : K.lookup f12 = some ⟨oc12, od12, .func (PySem.W.fnOf "__len__" "Rules.__len__" (defArgs s_Rules____len__) (defBody s_Rules____len__) (defScope s_Rules____len__) .none kV12 dc12 pm12 an12 cd12 ct12), sl12⟩)
    (c12 : PySem.W.codeIn K cd12 "Rules.__len__" = true)
    (k12 : PySem.W.keepIn K (.ref f12) = true)
    (a13 : PySem.W.findIn K (.ref C_Rules) "is_shown" = some (some (.ref f13)))
    (l13 : K.lookup f13 = some ⟨oc13, od13, .func (PySem.W.fnOf "is_shown" "Rules.is_shown" (defArgs s_Rules__is_shown) (defBody s_Rules__is_shown) (defScope s_Rules__is_shown) .none kV13 dc13 pm13 an13 cd13 ct13), sl13⟩)
    (c13 : PySem.W.codeIn K cd13 "Rules.is_shown" = true)
    (k13 : PySem.W.keepIn K (.ref f13) = true)
    (a14 : PySem.W.findIn K (.ref C_Rules) "fitting" = some (some (.ref f14)))
    (l14 : K.lookup f14 = some ⟨oc14, od14, .func (PySem.W.fnOf "fitting" "Rules.fitting" (defArgs s_Rules__fitting) (defBody s_Rules__fitting) (defScope s_Rules__fitting) .none kV14 dc14 pm14 an14 cd14 ct14), sl14⟩)
    (c14 : PySem.W.codeIn K cd14 "Rules.fitting" = true)
    (k14 : PySem.W.keepIn K (.ref f14) = true)
    (a15 : PySem.W.nsIn K mainGlobals "_law_flow" = some (some (.ref f15)))
    (l15 : K.lookup f15 = some ⟨oc15, od15, .func (PySem.W.fnOf "_law_flow" "_law_flow" (defArgs s__law_flow) (defBody s__law_flow) (defScope s__law_flow) .none kV15 dc15 pm15 an15 cd15 ct15), sl15⟩)
    (c15 : PySem.W.codeIn K cd15 "_law_flow" = true)
    (k15 : PySem.W.keepIn K (.ref f15) = true)
    (a16 : PySem.W.nsIn K mainGlobals "_law_take" = some (some (.ref f16)))
    (l16 : K.lookup f16 = some ⟨oc16, od16, .func (PySem.W.fnOf "_law_take" "_law_take" (defArgs s__law_take) (defBody s__law_take) (defScope s__law_take) .none kV16 dc16 pm16 an16 cd16 ct16), sl16⟩)
    (c16 : PySem.W.codeIn K cd16 "_law_take" = true)
    (k16 : PySem.W.keepIn K (.ref f16) = true)
    (a17 : PySem.W.nsIn K mainGlobals "_law_row" = some (some (.ref f17)))
    (l17 : K.lookup f17 = some ⟨oc17, od17, .func (PySem.W.fnOf "_law_row" "_law_row" (defArgs s__law_row) (defBody s__law_row) (defScope s__law_row) .none kV17 dc17 pm17 an17 cd17 ct17), sl17⟩)
    (c17 : PySem.W.codeIn K cd17 "_law_row" = true)
    (k17 : PySem.W.keepIn K (.ref f17) = true)
    (a18 : PySem.W.nsIn K mainGlobals "_law_listed" = some (some (.ref f18)))
    (l18 : K.lookup f18 = some ⟨oc18, od18, .func (PySem.W.fnOf "_law_listed" "_law_listed" (defArgs s__law_listed) (defBody s__law_listed) (defScope s__law_listed) .none kV18 dc18 pm18 an18 cd18 ct18), sl18⟩)
    (c18 : PySem.W.codeIn K cd18 "_law_listed" = true)
    (k18 : PySem.W.keepIn K (.ref f18) = true)
    (a19 : PySem.W.nsIn K mainGlobals "_law_same" = some (some (.ref f19)))
    (l19 : K.lookup f19 = some ⟨oc19, od19, .func (PySem.W.fnOf "_law_same" "_law_same" (defArgs s__law_same) (defBody s__law_same) (defScope s__law_same) .none kV19 dc19 pm19 an19 cd19 ct19), sl19⟩)
    (c19 : PySem.W.codeIn K cd19 "_law_same" = true)
    (k19 : PySem.W.keepIn K (.ref f19) = true)
    (a20 : PySem.W.nsIn K mainGlobals "_law_is" = some (some (.ref f20)))
    (l20 : K.lookup f20 = some ⟨oc20, od20, .func (PySem.W.fnOf "_law_is" "_law_is" (defArgs s__law_is) (defBody s__law_is) (defScope s__law_is) .none kV20 dc20 pm20 an20 cd20 ct20), sl20⟩)
    (c20 : PySem.W.codeIn K cd20 "_law_is" = true)
    (k20 : PySem.W.keepIn K (.ref f20) = true)
    (a21 : PySem.W.nsIn K mainGlobals "_law_is_integer" = some (some (.ref f21)))
    (l21 : K.lookup f21 = some ⟨oc21, od21, .func (PySem.W.fnOf "_law_is_integer" "_law_is_integer" (defArgs s__law_is_integer) (defBody s__law_is_integer) (defScope s__law_is_integer) .none kV21 dc21 pm21 an21 cd21 ct21), sl21⟩)
    (c21 : PySem.W.codeIn K cd21 "_law_is_integer" = true)
    (k21 : PySem.W.keepIn K (.ref f21) = true)
    (a22 : PySem.W.nsIn K mainGlobals "_law_is_shown" = some (some (.ref f22)))
    (l22 : K.lookup f22 = some ⟨oc22, od22, .func (PySem.W.fnOf "_law_is_shown" "_law_is_shown" (defArgs s__law_is_shown) (defBody s__law_is_shown) (defScope s__law_is_shown) .none kV22 dc22 pm22 an22 cd22 ct22), sl22⟩)
    (c22 : PySem.W.codeIn K cd22 "_law_is_shown" = true)
    (k22 : PySem.W.keepIn K (.ref f22) = true)
    (a23 : PySem.W.nsIn K mainGlobals "_law_pairs" = some (some (.ref f23)))
    (l23 : K.lookup f23 = some ⟨oc23, od23, .func (PySem.W.fnOf "_law_pairs" "_law_pairs" (defArgs s__law_pairs) (defBody s__law_pairs) (defScope s__law_pairs) .none kV23 dc23 pm23 an23 cd23 ct23), sl23⟩)
    (c23 : PySem.W.codeIn K cd23 "_law_pairs" = true)
    (k23 : PySem.W.keepIn K (.ref f23) = true)
    (a24 : PySem.W.nsIn K mainGlobals "_law_spoilt" = some (some (.ref f24)))
    (l24 : K.lookup f24 = some ⟨oc24, od24, .func (PySem.W.fnOf "_law_spoilt" "_law_spoilt" (defArgs s__law_spoilt) (defBody s__law_spoilt) (defScope s__law_spoilt) .none kV24 dc24 pm24 an24 cd24 ct24), sl24⟩)
    (c24 : PySem.W.codeIn K cd24 "_law_spoilt" = true)
    (k24 : PySem.W.keepIn K (.ref f24) = true)
    (a25 : PySem.W.nsIn K mainGlobals "_law_asked" = some (some (.ref f25)))
    (l25 : K.lookup f25 = some ⟨oc25, od25, .func (PySem.W.fnOf "_law_asked" "_law_asked" (defArgs s__law_asked) (defBody s__law_asked) (defScope s__law_asked) .none kV25 dc25 pm25 an25 cd25 ct25), sl25⟩)
    (c25 : PySem.W.codeIn K cd25 "_law_asked" = true)
    (k25 : PySem.W.keepIn K (.ref f25) = true)
    (a26 : PySem.W.nsIn K mainGlobals "_law_object_refused" = some (some (.ref f26)))
    (l26 : K.lookup f26 = some ⟨oc26, od26, .func (PySem.W.fnOf "_law_object_refused" "_law_object_refused" (defArgs s__law_object_refused) (defBody s__law_object_refused) (defScope s__law_object_refused) .none kV26 dc26 pm26 an26 cd26 ct26), sl26⟩)
    (c26 : PySem.W.codeIn K cd26 "_law_object_refused" = true)
    (k26 : PySem.W.keepIn K (.ref f26) = true)
    (a27 : PySem.W.nsIn K mainGlobals "_law_all" = some (some (.ref f27)))
    (l27 : K.lookup f27 = some ⟨oc27, od27, .func (PySem.W.fnOf "_law_all" "_law_all" (defArgs s__law_all) (defBody s__law_all) (defScope s__law_all) .none kV27 dc27 pm27 an27 cd27 ct27), sl27⟩)
    (c27 : PySem.W.codeIn K cd27 "_law_all" = true)
    (k27 : PySem.W.keepIn K (.ref f27) = true)
    (a28 : PySem.W.nsIn K mainGlobals "law" = some (some (.ref f28)))
    (l28 : K.lookup f28 = some ⟨oc28, od28, .func (PySem.W.fnOf "law" "law" (defArgs s_law) (defBody s_law) (defScope s_law) .none kV28 dc28 pm28 an28 cd28 ct28), sl28⟩)
    (c28 : PySem.W.codeIn K cd28 "law" = true)
    (k28 : PySem.W.keepIn K (.ref f28) = true)
    (gC_Rules : PySem.W.nsIn K mainGlobals "Rules" = some (some (.ref C_Rules)))
    (pg_Rules : PySem.W.plainGet K C_Rules Str.empty = true)
    (hd_Rules : PySem.W.hasDictIn K C_Rules = true)
    (po_Rules : PySem.W.plainOver K C_Rules = true)
    (sa_Rules : PySem.W.findIn K (.ref C_Rules) "__setattr__" = some (some (.builtin "object.__setattr__")))
    (mk_Rules : PySem.W.makesIn K C_Rules = true)
    (kC_Rules : PySem.W.keepIn K (.ref C_Rules) = true)
    (fn_Rules___init__ : PySem.W.isFn K (.ref f10) = true)
    (fn_Rules_is_shown : PySem.W.isFn K (.ref f13) = true)
    (fn_Rules_fitting : PySem.W.isFn K (.ref f14) = true)
    (fn_Rules___len__ : PySem.W.isFn K (.ref f12) = true)
    (fn_Rules___eq__ : PySem.W.isFn K (.ref f11) = true)
    (no_Rules_size : PySem.W.findIn K (.ref C_Rules) "size" = some none)
    (no_Rules_rows : PySem.W.findIn K (.ref C_Rules) "rows" = some none)
    (no_Rules__known : PySem.W.findIn K (.ref C_Rules) "_known" = some none)
    (is_Rules : PySem.W.subIn K (.ref C_Rules) (.ref C_Rules) = some true)
    (mo_Rules : PySem.W.mroIn K C_Rules (.type "object") = some true)
    (co_Rules : PySem.W.findIn K (.ref C_Rules) "__class__" = some (some (.builtin "object.__class__")))
    (nint_Rules : PySem.W.subIn K (.ref C_Rules) (.type "int") = some false)
    (nbool_Rules : PySem.W.subIn K (.ref C_Rules) (.type "bool") = some false)
    (ntuple_Rules : PySem.W.subIn K (.ref C_Rules) (.type "tuple") = some false)
    (nstr_Rules : PySem.W.subIn K (.ref C_Rules) (.type "str") = some false)
    (nlist_Rules : PySem.W.subIn K (.ref C_Rules) (.type "list") = some false)
    (gC_InvalidShown : PySem.W.nsIn K mainGlobals "InvalidShown" = some (some (.ref C_InvalidShown)))
    (iC_InvalidShown : PySem.W.findIn K (.ref C_InvalidShown) "__init__" = some (some (.ref I_InvalidShown)))
    (cl_InvalidShown : K.lookup C_InvalidShown = some (excClassObj nm_InvalidShown q_InvalidShown C_InvalidShown N_InvalidShown bs_InvalidShown bm_InvalidShown true sn_InvalidShown sub_InvalidShown ab_InvalidShown col_InvalidShown dd_InvalidShown k0_InvalidShown k1_InvalidShown k2_InvalidShown k3_InvalidShown k5_InvalidShown "ValueError.__new__"))
    (sa_InvalidShown : PySem.W.findIn K (.ref C_InvalidShown) "__setattr__" = some (some (.builtin "object.__setattr__")))
    (no_InvalidShown : PySem.W.findIn K (.ref C_InvalidShown) "value" = some none)
    (tI_InvalidShown : PySem.W.typeIn K (.ref I_InvalidShown) = some (.type "function"))
    (kC_InvalidShown : PySem.W.keepIn K (.ref C_InvalidShown) = true)
    (ex_InvalidShown : PySem.W.subIn K (.ref C_InvalidShown) (.type "BaseException") = some true)
    (ve_InvalidShown : PySem.W.subIn K (.ref C_InvalidShown) (.type "ValueError") = some true)
    (ty_InvalidShown : PySem.W.typeIn K (.ref C_InvalidShown) = some (.type "type"))
    (ga_InvalidShown : PySem.W.findIn K (.ref C_InvalidShown) "__getattribute__" = some (some (.builtin "BaseException.__getattribute__")))
    (gg_InvalidShown : PySem.W.findIn K (.ref C_InvalidShown) "__getattr__" = some none)
    (hd_InvalidShown : PySem.W.hasDictIn K C_InvalidShown = true)
    (mr_InvalidShown : PySem.W.mroIn K C_InvalidShown (.ref C_InvalidShown) = some true)
    (mo_InvalidShown : PySem.W.mroIn K C_InvalidShown (.type "object") = some true)
    (co_InvalidShown : PySem.W.findIn K (.ref C_InvalidShown) "__class__" = some (some (.builtin "object.__class__")))
    (nint_InvalidShown : PySem.W.subIn K (.ref C_InvalidShown) (.type "int") = some false)
    (nbool_InvalidShown : PySem.W.subIn K (.ref C_InvalidShown) (.type "bool") = some false)
    (ntuple_InvalidShown : PySem.W.subIn K (.ref C_InvalidShown) (.type "tuple") = some false)
    (nstr_InvalidShown : PySem.W.subIn K (.ref C_InvalidShown) (.type "str") = some false)
    (nlist_InvalidShown : PySem.W.subIn K (.ref C_InvalidShown) (.type "list") = some false)
    (si_InvalidShown : PySem.W.ks_superIn K C_InvalidShown C_InvalidShown "__init__" = some (some (.builtin "ValueError.__init__")))
    (li_InvalidShown : K.lookup I_InvalidShown = some ⟨oi_InvalidShown, oo_InvalidShown, .func (PySem.W.ksFn "__init__" "InvalidShown.__init__" (defArgs sI_InvalidShown) (defBody sI_InvalidShown) (defScope sI_InvalidShown) .none .none di_InvalidShown pi_InvalidShown ai_InvalidShown (.ref ca_InvalidShown) ci_InvalidShown cc_InvalidShown), si2_InvalidShown⟩)
    (ci2_InvalidShown : PySem.W.codeIn K (.ref ca_InvalidShown) "InvalidShown.__init__" = true)
    (lc_InvalidShown : K.lookup ca_InvalidShown = some ⟨cl1_InvalidShown, cd1_InvalidShown, .fields vs_InvalidShown, sj_InvalidShown⟩)
    (fi_InvalidShown : vs_InvalidShown[2]? = some (.str file_InvalidShown tf_InvalidShown))
    (ff_InvalidShown : ((l.prog.main.file : Str) == file_InvalidShown) = true)
    (lx_InvalidShown : K.lookup cc_InvalidShown = some ⟨cl2_InvalidShown, cd2_InvalidShown, .cell (some (.ref C_InvalidShown)), sk_InvalidShown⟩)
    (gC_Undefined : PySem.W.nsIn K mainGlobals "Undefined" = some (some (.ref C_Undefined)))
    (iC_Undefined : PySem.W.findIn K (.ref C_Undefined) "__init__" = some (some (.ref I_Undefined)))
    (cl_Undefined : K.lookup C_Undefined = some (excClassObj nm_Undefined q_Undefined C_Undefined N_Undefined bs_Undefined bm_Undefined true sn_Undefined sub_Undefined ab_Undefined col_Undefined dd_Undefined k0_Undefined k1_Undefined k2_Undefined k3_Undefined k5_Undefined "ValueError.__new__"))
    (sa_Undefined : PySem.W.findIn K (.ref C_Undefined) "__setattr__" = some (some (.builtin "object.__setattr__")))
    (no_Undefined : PySem.W.findIn K (.ref C_Undefined) "what" = some none)
    (tI_Undefined : PySem.W.typeIn K (.ref I_Undefined) = some (.type "function"))
    (kC_Undefined : PySem.W.keepIn K (.ref C_Undefined) = true)
    (ex_Undefined : PySem.W.subIn K (.ref C_Undefined) (.type "BaseException") = some true)
    (ve_Undefined : PySem.W.subIn K (.ref C_Undefined) (.type "ValueError") = some true)
    (ty_Undefined : PySem.W.typeIn K (.ref C_Undefined) = some (.type "type"))
    (ga_Undefined : PySem.W.findIn K (.ref C_Undefined) "__getattribute__" = some (some (.builtin "BaseException.__getattribute__")))
    (gg_Undefined : PySem.W.findIn K (.ref C_Undefined) "__getattr__" = some none)
    (hd_Undefined : PySem.W.hasDictIn K C_Undefined = true)
    (mr_Undefined : PySem.W.mroIn K C_Undefined (.ref C_Undefined) = some true)
    (mo_Undefined : PySem.W.mroIn K C_Undefined (.type "object") = some true)
    (co_Undefined : PySem.W.findIn K (.ref C_Undefined) "__class__" = some (some (.builtin "object.__class__")))
    (nint_Undefined : PySem.W.subIn K (.ref C_Undefined) (.type "int") = some false)
    (nbool_Undefined : PySem.W.subIn K (.ref C_Undefined) (.type "bool") = some false)
    (ntuple_Undefined : PySem.W.subIn K (.ref C_Undefined) (.type "tuple") = some false)
    (nstr_Undefined : PySem.W.subIn K (.ref C_Undefined) (.type "str") = some false)
    (nlist_Undefined : PySem.W.subIn K (.ref C_Undefined) (.type "list") = some false)
    (si_Undefined : PySem.W.ks_superIn K C_Undefined C_Undefined "__init__" = some (some (.builtin "ValueError.__init__")))
    (li_Undefined : K.lookup I_Undefined = some ⟨oi_Undefined, oo_Undefined, .func (PySem.W.ksFn "__init__" "Undefined.__init__" (defArgs sI_Undefined) (defBody sI_Undefined) (defScope sI_Undefined) .none .none di_Undefined pi_Undefined ai_Undefined (.ref ca_Undefined) ci_Undefined cc_Undefined), si2_Undefined⟩)
    (ci2_Undefined : PySem.W.codeIn K (.ref ca_Undefined) "Undefined.__init__" = true)
    (lc_Undefined : K.lookup ca_Undefined = some ⟨cl1_Undefined, cd1_Undefined, .fields vs_Undefined, sj_Undefined⟩)
    (fi_Undefined : vs_Undefined[2]? = some (.str file_Undefined tf_Undefined))
    (ff_Undefined : ((l.prog.main.file : Str) == file_Undefined) = true)
    (lx_Undefined : K.lookup cc_Undefined = some ⟨cl2_Undefined, cd2_Undefined, .cell (some (.ref C_Undefined)), sk_Undefined⟩)
    (zs : PySem.W.nsIn K mainGlobals "super" = some none)
    (op : PySem.W.nsIn K cStatics "thirdparty.any" = some none)
    (ht : (l.prog.main.scope.names.lookup ("super" : Str)).isSome = false)
    (sp1 : PySem.W.specialIn K (.builtin "object.__class__") "__get__" = some (some (.builtin "getset_descriptor.__get__")))
    (sp2 : PySem.W.takesIn K (.builtin "object.__class__") = some true)
    (z_abs : PySem.W.nsIn K mainGlobals "abs" = some none)
    (z_all : PySem.W.nsIn K mainGlobals "all" = some none)
    (z_bool : PySem.W.nsIn K mainGlobals "bool" = some none)
    (z_int : PySem.W.nsIn K mainGlobals "int" = some none)
    (z_isinstance : PySem.W.nsIn K mainGlobals "isinstance" = some none)
    (z_len : PySem.W.nsIn K mainGlobals "len" = some none)
    (z_list : PySem.W.nsIn K mainGlobals "list" = some none)
    (z_range : PySem.W.nsIn K mainGlobals "range" = some none)
    (z_set : PySem.W.nsIn K mainGlobals "set" = some none)
    (z_sorted : PySem.W.nsIn K mainGlobals "sorted" = some none)
    (z_str : PySem.W.nsIn K mainGlobals "str" = some none)
    (z_tuple : PySem.W.nsIn K mainGlobals "tuple" = some none)
    (rv_InvalidShown : PySem.HandSPX.refsVE bm_InvalidShown = true) (sb_InvalidShown : PySem.W.subIn K (.ref C_InvalidShown) (.ref C_InvalidShown) = some true)
    (rv_Undefined : PySem.HandSPX.refsVE bm_Undefined = true) (sb_Undefined : PySem.W.subIn K (.ref C_Undefined) (.ref C_Undefined) = some true)
    : ∃ fd : FuncData, (∀ (s : Shared) (v : Value), BindsTo s fd ⟨[v], []⟩ [("script", v)]) ∧ ∀ base : Heap, K.In base → base.Ns mainGlobals mg → FnOk l.prog w K mg base CX0 14 fa fd ["script"] (spLaw K) := by
  have e := hfa.symm.trans (PySem.W.mg_of X G a28)
  cases e
  have gs : mg "super" = none := PySem.W.mg_none_of X G zs
  have xt_InvalidShown : PySem.SupX_value.XTxt l.prog K mg "InvalidShown" C_InvalidShown I_InvalidShown := {
    gC := PySem.W.mg_of X G gC_InvalidShown, nm := by decide +kernel, sup := gs, cls := ⟨_, _, _, _, _, _, _, _, _, _, _, _, _, _, _, cl_InvalidShown, by assumption⟩, sa := sa_InvalidShown, noN := no_InvalidShown, iC := iC_InvalidShown, tC := tI_InvalidShown, kC := kC_InvalidShown, exC := ex_InvalidShown, veC := ve_InvalidShown, tyC := ty_InvalidShown
    te := PySem.W.exm_ref ex_InvalidShown hd_InvalidShown ty_InvalidShown sb_InvalidShown, xf := ⟨ga_InvalidShown, gg_InvalidShown, ex_InvalidShown, hd_InvalidShown⟩, sIn := si_InvalidShown, opq := op, mro := mr_InvalidShown, htop := ht
    fn := ⟨_, _, _, _, _, _, _, _, _, _, _, _, _, _, _, _, _, _, _, _, _, _, _, _, _, _, _, _, _, _, _, _, _, li_InvalidShown, ci2_InvalidShown, by decide +kernel, lc_InvalidShown, fi_InvalidShown, ff_InvalidShown, lx_InvalidShown⟩ }
  have xt_Undefined : PySem.SupX_what.XTxt l.prog K mg "Undefined" C_Undefined I_Undefined := {
    gC := PySem.W.mg_of X G gC_Undefined, nm := by decide +kernel, sup := gs, cls := ⟨_, _, _, _, _, _, _, _, _, _, _, _, _, _, _, cl_Undefined, by assumption⟩, sa := sa_Undefined, noN := no_Undefined, iC := iC_Undefined, tC := tI_Undefined, kC := kC_Undefined, exC := ex_Undefined, veC := ve_Undefined, tyC := ty_Undefined
    te := PySem.W.exm_ref ex_Undefined hd_Undefined ty_Undefined sb_Undefined, xf := ⟨ga_Undefined, gg_Undefined, ex_Undefined, hd_Undefined⟩, sIn := si_Undefined, opq := op, mro := mr_Undefined, htop := ht
    fn := ⟨_, _, _, _, _, _, _, _, _, _, _, _, _, _, _, _, _, _, _, _, _, _, _, _, _, _, _, _, _, _, _, _, _, li_Undefined, ci2_Undefined, by decide +kernel, lc_Undefined, fi_Undefined, ff_Undefined, lx_Undefined⟩ }
  let A : Ad := ⟨f0, (PySem.W.fnOf "is_an_integer" "is_an_integer" (defArgs s_is_an_integer) (defBody s_is_an_integer) (defScope s_is_an_integer) .none kV0 dc0 pm0 an0 cd0 ct0), f1, (PySem.W.fnOf "is_number" "is_number" (defArgs s_is_number) (defBody s_is_number) (defScope s_is_number) .none kV1 dc1 pm1 an1 cd1 ct1), f2, (PySem.W.fnOf "is_value" "is_value" (defArgs s_is_value) (defBody s_is_value) (defScope s_is_value) .none kV2 dc2 pm2 an2 cd2 ct2), f3, (PySem.W.fnOf "is_point" "is_point" (defArgs s_is_point) (defBody s_is_point) (defScope s_is_point) .none kV3 dc3 pm3 an3 cd3 ct3), f4, (PySem.W.fnOf "is_pair" "is_pair" (defArgs s_is_pair) (defBody s_is_pair) (defScope s_is_pair) .none kV4 dc4 pm4 an4 cd4 ct4), f5, (PySem.W.fnOf "is_row" "is_row" (defArgs s_is_row) (defBody s_is_row) (defScope s_is_row) .none kV5 dc5 pm5 an5 cd5 ct5), f6, (PySem.W.fnOf "is_lot" "is_lot" (defArgs s_is_lot) (defBody s_is_lot) (defScope s_is_lot) .none kV6 dc6 pm6 an6 cd6 ct6), f7, (PySem.W.fnOf "are_rows" "are_rows" (defArgs s_are_rows) (defBody s_are_rows) (defScope s_are_rows) .none kV7 dc7 pm7 an7 cd7 ct7), f8, (PySem.W.fnOf "is_answer" "is_answer" (defArgs s_is_answer) (defBody s_is_answer) (defScope s_is_answer) .none kV8 dc8 pm8 an8 cd8 ct8), f9, (PySem.W.fnOf "fits" "fits" (defArgs s_fits) (defBody s_fits) (defScope s_fits) .none kV9 dc9 pm9 an9 cd9 ct9), f10, (PySem.W.fnOf "__init__" "Rules.__init__" (defArgs s_Rules____init__) (defBody s_Rules____init__) (defScope s_Rules____init__) .none kV10 dc10 pm10 an10 cd10 ct10), f11, (PySem.W.fnOf "__eq__" "Rules.__eq__" (defArgs s_Rules____eq__) (defBody s_Rules____eq__) (defScope s_Rules____eq__) .none kV11 dc11 pm11 an11 cd11 ct11), f12, (PySem.W.fnOf "__len__" "Rules.__len__" (defArgs s_Rules____len__) (defBody s_Rules____len__) (defScope s_Rules____len__) .none kV12 dc12 pm12 an12 cd12 ct12), f13, (PySem.W.fnOf "is_shown" "Rules.is_shown" (defArgs s_Rules__is_shown) (defBody s_Rules__is_shown) (defScope s_Rules__is_shown) .none kV13 dc13 pm13 an13 cd13 ct13), f14, (PySem.W.fnOf "fitting" "Rules.fitting" (defArgs s_Rules__fitting) (defBody s_Rules__fitting) (defScope s_Rules__fitting) .none kV14 dc14 pm14 an14 cd14 ct14), f15, (PySem.W.fnOf "_law_flow" "_law_flow" (defArgs s__law_flow) (defBody s__law_flow) (defScope s__law_flow) .none kV15 dc15 pm15 an15 cd15 ct15), f16, (PySem.W.fnOf "_law_take" "_law_take" (defArgs s__law_take) (defBody s__law_take) (defScope s__law_take) .none kV16 dc16 pm16 an16 cd16 ct16), f17, (PySem.W.fnOf "_law_row" "_law_row" (defArgs s__law_row) (defBody s__law_row) (defScope s__law_row) .none kV17 dc17 pm17 an17 cd17 ct17), f18, (PySem.W.fnOf "_law_listed" "_law_listed" (defArgs s__law_listed) (defBody s__law_listed) (defScope s__law_listed) .none kV18 dc18 pm18 an18 cd18 ct18), f19, (PySem.W.fnOf "_law_same" "_law_same" (defArgs s__law_same) (defBody s__law_same) (defScope s__law_same) .none kV19 dc19 pm19 an19 cd19 ct19), f20, (PySem.W.fnOf "_law_is" "_law_is" (defArgs s__law_is) (defBody s__law_is) (defScope s__law_is) .none kV20 dc20 pm20 an20 cd20 ct20), f21, (PySem.W.fnOf "_law_is_integer" "_law_is_integer" (defArgs s__law_is_integer) (defBody s__law_is_integer) (defScope s__law_is_integer) .none kV21 dc21 pm21 an21 cd21 ct21), f22, (PySem.W.fnOf "_law_is_shown" "_law_is_shown" (defArgs s__law_is_shown) (defBody s__law_is_shown) (defScope s__law_is_shown) .none kV22 dc22 pm22 an22 cd22 ct22), f23, (PySem.W.fnOf "_law_pairs" "_law_pairs" (defArgs s__law_pairs) (defBody s__law_pairs) (defScope s__law_pairs) .none kV23 dc23 pm23 an23 cd23 ct23), f24, (PySem.W.fnOf "_law_spoilt" "_law_spoilt" (defArgs s__law_spoilt) (defBody s__law_spoilt) (defScope s__law_spoilt) .none kV24 dc24 pm24 an24 cd24 ct24), f25, (PySem.W.fnOf "_law_asked" "_law_asked" (defArgs s__law_asked) (defBody s__law_asked) (defScope s__law_asked) .none kV25 dc25 pm25 an25 cd25 ct25), f26, (PySem.W.fnOf "_law_object_refused" "_law_object_refused" (defArgs s__law_object_refused) (defBody s__law_object_refused) (defScope s__law_object_refused) .none kV26 dc26 pm26 an26 cd26 ct26), f27, (PySem.W.fnOf "_law_all" "_law_all" (defArgs s__law_all) (defBody s__law_all) (defScope s__law_all) .none kV27 dc27 pm27 an27 cd27 ct27), fa, (PySem.W.fnOf "law" "law" (defArgs s_law) (defBody s_law) (defScope s_law) .none kV28 dc28 pm28 an28 cd28 ct28), C_InvalidShown, I_InvalidShown, C_Undefined, I_Undefined, C_Rules⟩
  have T : Txt l.prog K mg A := ⟨PySem.W.mg_of X G a0, fun_mk (st := s_is_an_integer) l0 c0 k0, PySem.W.mg_of X G a1, fun_mk (st := s_is_number) l1 c1 k1, PySem.W.mg_of X G a2, fun_mk (st := s_is_value) l2 c2 k2, PySem.W.mg_of X G a3, fun_mk (st := s_is_point) l3 c3 k3, PySem.W.mg_of X G a4, fun_mk (st := s_is_pair) l4 c4 k4, PySem.W.mg_of X G a5, fun_mk (st := s_is_row) l5 c5 k5, PySem.W.mg_of X G a6, fun_mk (st := s_is_lot) l6 c6 k6, PySem.W.mg_of X G a7, fun_mk (st := s_are_rows) l7 c7 k7, PySem.W.mg_of X G a8, fun_mk (st := s_is_answer) l8 c8 k8, PySem.W.mg_of X G a9, fun_mk (st := s_fits) l9 c9 k9, fun_mk (st := s_Rules____init__) l10 c10 k10, fun_mk (st := s_Rules____eq__) l11 c11 k11, fun_mk (st := s_Rules____len__) l12 c12 k12, fun_mk (st := s_Rules__is_shown) l13 c13 k13, fun_mk (st := s_Rules__fitting) l14 c14 k14, PySem.W.mg_of X G a15, fun_mk (st := s__law_flow) l15 c15 k15, PySem.W.mg_of X G a16, fun_mk (st := s__law_take) l16 c16 k16, PySem.W.mg_of X G a17, fun_mk (st := s__law_row) l17 c17 k17, PySem.W.mg_of X G a18, fun_mk (st := s__law_listed) l18 c18 k18, PySem.W.mg_of X G a19, fun_mk (st := s__law_same) l19 c19 k19, PySem.W.mg_of X G a20, fun_mk (st := s__law_is) l20 c20 k20, PySem.W.mg_of X G a21, fun_mk (st := s__law_is_integer) l21 c21 k21, PySem.W.mg_of X G a22, fun_mk (st := s__law_is_shown) l22 c22 k22, PySem.W.mg_of X G a23, fun_mk (st := s__law_pairs) l23 c23 k23, PySem.W.mg_of X G a24, fun_mk (st := s__law_spoilt) l24 c24 k24, PySem.W.mg_of X G a25, fun_mk (st := s__law_asked) l25 c25 k25, PySem.W.mg_of X G a26, fun_mk (st := s__law_object_refused) l26 c26 k26, PySem.W.mg_of X G a27, fun_mk (st := s__law_all) l27 c27 k27, PySem.W.mg_of X G a28, fun_mk (st := s_law) l28 c28 k28, xt_InvalidShown, ⟨⟨ga_InvalidShown, gg_InvalidShown, ex_InvalidShown, hd_InvalidShown, co_InvalidShown, sp1, sp2, mo_InvalidShown⟩, nint_InvalidShown, nbool_InvalidShown, ntuple_InvalidShown, nstr_InvalidShown, nlist_InvalidShown⟩, xt_Undefined, ⟨⟨ga_Undefined, gg_Undefined, ex_Undefined, hd_Undefined, co_Undefined, sp1, sp2, mo_Undefined⟩, nint_Undefined, nbool_Undefined, ntuple_Undefined, nstr_Undefined, nlist_Undefined⟩, PySem.W.mg_of X G gC_Rules, ⟨⟨pg_Rules, hd_Rules, po_Rules, sa_Rules⟩, co_Rules, sp1, sp2, mo_Rules, is_Rules, nint_Rules, nbool_Rules, ntuple_Rules, nstr_Rules, nlist_Rules⟩, ⟨mk_Rules, a10, fn_Rules___init__, kC_Rules⟩, no_Rules_size, no_Rules_rows, no_Rules__known, ⟨a13, fn_Rules_is_shown, k13⟩, ⟨a14, fn_Rules_fitting, k14⟩, ⟨a12, fn_Rules___len__⟩, ⟨a11, fn_Rules___eq__⟩, PySem.W.mg_none_of X G z_abs, PySem.W.mg_none_of X G z_all, PySem.W.mg_none_of X G z_bool, PySem.W.mg_none_of X G z_int, PySem.W.mg_none_of X G z_isinstance, PySem.W.mg_none_of X G z_len, PySem.W.mg_none_of X G z_list, PySem.W.mg_none_of X G z_range, PySem.W.mg_none_of X G z_set, PySem.W.mg_none_of X G z_sorted, PySem.W.mg_none_of X G z_str, PySem.W.mg_none_of X G z_tuple⟩
  exact ⟨PySem.W.fnOf "law" "law" (defArgs s_law) (defBody s_law) (defScope s_law) .none kV28 dc28 pm28 an28 cd28 ct28, fun s v => .of_eq rfl, fun base _ _ => ok_law T⟩
theorem walk {l : PySem.W.OpenLaw} {q : Program} {loose : List Str} {XP : (Str → Option Value) → Heap → Prop} {YP : World → Heap → Prop} {d : DefRec} {K : Params → PySem.W.Frag} (hn : l.most = some 63) (hdf : d.params.defaults = [])
    (hY : ∀ (w : World) (h : Heap), YP w h → (K w.params).In h)
    (F : ∀ (w : World) (mg : Str → Option Value) (fa : Addr) (h : Heap), (K w.params).In h → h.Ns mainGlobals mg → mg d.name = some (.ref fa) →
      ∃ fd : FuncData, (∀ (s : Shared) (u : Value), BindsTo s fd ⟨[u], []⟩ [("script", u)]) ∧ ∀ base : Heap, (K w.params).In base → base.Ns mainGlobals mg → FnOk l.prog w (K w.params) mg base CX0 14 fa fd ["script"] (spLaw (K w.params))) :
    PySem.W.WalkO q loose XP YP l.row.toRowW d [] (fun f vs => PySem.call f vs) :=
  L2.walk_of (n := 63) (k := 14) (x := "script") (CX := fun _ => CX0) (sp := fun w => spLaw (K w.params)) hn (by decide) hdf ⟨rfl, by decide, by decide⟩ hY F (fun _ _ a ns hl _ hS => ⟨a, ns, rfl, hS, hl, fun _ => rfl⟩) fun _ _ _ _ _ z => z
end K07

set_option Elab.async false
set_option linter.all false
set_option maxRecDepth 100000
open PySem PySem.W PyProof.Rows
set_option maxRecDepth 100000 in
set_option maxHeartbeats 0 in
theorem PySem.Challenge.cw_nextguess_k07_shown_answers_holds : PySem.Challenge.rw_nextguess_k07_shown_answers.Holds := by
  w_on; o_law; k_head; (case hw => w_witness2)
  k_fill
  refine K07.walk (l := PySem.Challenge.rw_nextguess_k07_shown_answers) rfl rfl (fun w h Y => PySem.W.kIn_of Y) ?F
  case F =>
    intro w mg fa h KX G hmg
    refine' K07.all_mk KX G hmg ?a0 ?l0 ?c0 ?k0 ?a1 ?l1 ?c1 ?k1 ?a2 ?l2 ?c2 ?k2 ?a3 ?l3 ?c3 ?k3 ?a4 ?l4 ?c4 ?k4 ?a5 ?l5 ?c5 ?k5 ?a6 ?l6 ?c6 ?k6 ?a7 ?l7 ?c7 ?k7 ?a8 ?l8 ?c8 ?k8 ?a9 ?l9 ?c9 ?k9 ?a10 ?l10 ?c10 ?k10 ?a11 ?l11 ?c11 ?k11 ?a12 ?l12 ?c12 ?k12 ?a13 ?l13 ?c13 ?k13 ?a14 ?l14 ?c14 ?k14 ?a15 ?l15 ?c15 ?k15 ?a16 ?l16 ?c16 ?k16 ?a17 ?l17 ?c17 ?k17 ?a18 ?l18 ?c18 ?k18 ?a19 ?l19 ?c19 ?k19 ?a20 ?l20 ?c20 ?k20 ?a21 ?l21 ?c21 ?k21 ?a22 ?l22 ?c22 ?k22 ?a23 ?l23 ?c23 ?k23 ?a24 ?l24 ?c24 ?k24 ?a25 ?l25 ?c25 ?k25 ?a26 ?l26 ?c26 ?k26 ?a27 ?l27 ?c27 ?k27 ?a28 ?l28 ?c28 ?k28 ?gC_Rules ?pg_Rules ?hd_Rules ?po_Rules ?sa_Rules ?mk_Rules ?kC_Rules ?fn_Rules___init__ ?fn_Rules_is_shown ?fn_Rules_fitting ?fn_Rules___len__ ?fn_Rules___eq__ ?no_Rules_size ?no_Rules_rows ?no_Rules__known ?is_Rules ?mo_Rules ?co_Rules ?nint_Rules ?nbool_Rules ?ntuple_Rules ?nstr_Rules ?nlist_Rules ?gC_InvalidShown ?iC_InvalidShown ?cl_InvalidShown ?sa_InvalidShown ?no_InvalidShown ?tI_InvalidShown ?kC_InvalidShown ?ex_InvalidShown ?ve_InvalidShown ?ty_InvalidShown ?ga_InvalidShown ?gg_InvalidShown ?hd_InvalidShown ?mr_InvalidShown ?mo_InvalidShown ?co_InvalidShown ?nint_InvalidShown ?nbool_InvalidShown ?ntuple_InvalidShown ?nstr_InvalidShown ?nlist_InvalidShown ?si_InvalidShown ?li_InvalidShown ?ci2_InvalidShown ?lc_InvalidShown ?fi_InvalidShown ?ff_InvalidShown ?lx_InvalidShown ?gC_Undefined ?iC_Undefined ?cl_Undefined ?sa_Undefined ?no_Undefined ?tI_Undefined ?kC_Undefined ?ex_Undefined ?ve_Undefined ?ty_Undefined ?ga_Undefined ?gg_Undefined ?hd_Undefined ?mr_Undefined ?mo_Undefined ?co_Undefined ?nint_Undefined ?nbool_Undefined ?ntuple_Undefined ?nstr_Undefined ?nlist_Undefined ?si_Undefined ?li_Undefined ?ci2_Undefined ?lc_Undefined ?fi_Undefined ?ff_Undefined ?lx_Undefined ?zs ?op ?ht ?sp1 ?sp2 ?z_abs ?z_all ?z_bool ?z_int ?z_isinstance ?z_len ?z_list ?z_range ?z_set ?z_sorted ?z_str ?z_tuple ?rv_InvalidShown ?sb_InvalidShown ?rv_Undefined ?sb_Undefined
    (case gC_Rules => k_is)
    (case gC_InvalidShown => k_is)
    (case gC_Undefined => k_is)
    (case a0 => k_is)
    (case l0 => k_is)
    (case c0 => k_is)
    (case k0 => k_is)
    (case a1 => k_is)
    (case l1 => k_is)
    (case c1 => k_is)
    (case k1 => k_is)
    (case a2 => k_is)
    (case l2 => k_is)
    (case c2 => k_is)
    (case k2 => k_is)
    (case a3 => k_is)
    (case l3 => k_is)
    (case c3 => k_is)
    (case k3 => k_is)
    (case a4 => k_is)
    (case l4 => k_is)
    (case c4 => k_is)
    (case k4 => k_is)
    (case a5 => k_is)
    (case l5 => k_is)
    (case c5 => k_is)
    (case k5 => k_is)
    (case a6 => k_is)
    (case l6 => k_is)
    (case c6 => k_is)
    (case k6 => k_is)
    (case a7 => k_is)
    (case l7 => k_is)
    (case c7 => k_is)
    (case k7 => k_is)
    (case a8 => k_is)
    (case l8 => k_is)
    (case c8 => k_is)
    (case k8 => k_is)
    (case a9 => k_is)
    (case l9 => k_is)
    (case c9 => k_is)
    (case k9 => k_is)
    (case a10 => k_is)
    (case l10 => k_is)
    (case c10 => k_is)
    (case k10 => k_is)
    (case a11 => k_is)
    (case l11 => k_is)
    (case c11 => k_is)
    (case k11 => k_is)
    (case a12 => k_is)
    (case l12 => k_is)
    (case c12 => k_is)
    (case k12 => k_is)
    (case a13 => k_is)
    (case l13 => k_is)
    (case c13 => k_is)
    (case k13 => k_is)
    (case a14 => k_is)
    (case l14 => k_is)
    (case c14 => k_is)
    (case k14 => k_is)
    (case a15 => k_is)
    (case l15 => k_is)
    (case c15 => k_is)
    (case k15 => k_is)
    (case a16 => k_is)
    (case l16 => k_is)
    (case c16 => k_is)
    (case k16 => k_is)
    (case a17 => k_is)
    (case l17 => k_is)
    (case c17 => k_is)
    (case k17 => k_is)
    (case a18 => k_is)
    (case l18 => k_is)
    (case c18 => k_is)
    (case k18 => k_is)
    (case a19 => k_is)
    (case l19 => k_is)
    (case c19 => k_is)
    (case k19 => k_is)
    (case a20 => k_is)
    (case l20 => k_is)
    (case c20 => k_is)
    (case k20 => k_is)
    (case a21 => k_is)
    (case l21 => k_is)
    (case c21 => k_is)
    (case k21 => k_is)
    (case a22 => k_is)
    (case l22 => k_is)
    (case c22 => k_is)
    (case k22 => k_is)
    (case a23 => k_is)
    (case l23 => k_is)
    (case c23 => k_is)
    (case k23 => k_is)
    (case a24 => k_is)
    (case l24 => k_is)
    (case c24 => k_is)
    (case k24 => k_is)
    (case a25 => k_is)
    (case l25 => k_is)
    (case c25 => k_is)
    (case k25 => k_is)
    (case a26 => k_is)
    (case l26 => k_is)
    (case c26 => k_is)
    (case k26 => k_is)
    (case a27 => k_is)
    (case l27 => k_is)
    (case c27 => k_is)
    (case k27 => k_is)
    (case a28 => k_is)
    (case l28 => k_is)
    (case c28 => k_is)
    (case k28 => k_is)
    (case pg_Rules => k_is)
    (case hd_Rules => k_is)
    (case po_Rules => k_is)
    (case sa_Rules => k_is)
    (case mk_Rules => k_is)
    (case kC_Rules => k_is)
    (case fn_Rules___init__ => k_is)
    (case fn_Rules_is_shown => k_is)
    (case fn_Rules_fitting => k_is)
    (case fn_Rules___len__ => k_is)
    (case fn_Rules___eq__ => k_is)
    (case no_Rules_size => k_is)
    (case no_Rules_rows => k_is)
    (case no_Rules__known => k_is)
    (case is_Rules => k_is)
    (case mo_Rules => k_is)
    (case co_Rules => k_is)
    (case nint_Rules => k_is)
    (case nbool_Rules => k_is)
    (case ntuple_Rules => k_is)
    (case nstr_Rules => k_is)
    (case nlist_Rules => k_is)
    (case iC_InvalidShown => k_is)
    (case cl_InvalidShown => k_is)
    (case sa_InvalidShown => k_is)
    (case no_InvalidShown => k_is)
    (case tI_InvalidShown => k_is)
    (case kC_InvalidShown => k_is)
    (case ex_InvalidShown => k_is)
    (case ve_InvalidShown => k_is)
    (case ty_InvalidShown => k_is)
    (case ga_InvalidShown => k_is)
    (case gg_InvalidShown => k_is)
    (case hd_InvalidShown => k_is)
    (case mr_InvalidShown => k_is)
    (case mo_InvalidShown => k_is)
    (case co_InvalidShown => k_is)
    (case nint_InvalidShown => k_is)
    (case nbool_InvalidShown => k_is)
    (case ntuple_InvalidShown => k_is)
    (case nstr_InvalidShown => k_is)
    (case nlist_InvalidShown => k_is)
    (case si_InvalidShown => (first | ks_is | k_is))
    (case li_InvalidShown => k_is)
    (case ci2_InvalidShown => k_is)
    (case lc_InvalidShown => k_is)
    (case fi_InvalidShown => (first | rfl | decide +kernel))
    (case ff_InvalidShown => (first | rfl | decide +kernel))
    (case lx_InvalidShown => k_is)
    (case iC_Undefined => k_is)
    (case cl_Undefined => k_is)
    (case sa_Undefined => k_is)
    (case no_Undefined => k_is)
    (case tI_Undefined => k_is)
    (case kC_Undefined => k_is)
    (case ex_Undefined => k_is)
    (case ve_Undefined => k_is)
    (case ty_Undefined => k_is)
    (case ga_Undefined => k_is)
    (case gg_Undefined => k_is)
    (case hd_Undefined => k_is)
    (case mr_Undefined => k_is)
    (case mo_Undefined => k_is)
    (case co_Undefined => k_is)
    (case nint_Undefined => k_is)
    (case nbool_Undefined => k_is)
    (case ntuple_Undefined => k_is)
    (case nstr_Undefined => k_is)
    (case nlist_Undefined => k_is)
    (case si_Undefined => (first | ks_is | k_is))
    (case li_Undefined => k_is)
    (case ci2_Undefined => k_is)
    (case lc_Undefined => k_is)
    (case fi_Undefined => (first | rfl | decide +kernel))
    (case ff_Undefined => (first | rfl | decide +kernel))
    (case lx_Undefined => k_is)
    (case zs => k_is)
    (case op => k_is)
    (case ht => (first | rfl | decide +kernel))
    (case sp1 => k_is)
    (case sp2 => k_is)
    (case z_abs => k_is)
    (case z_all => k_is)
    (case z_bool => k_is)
    (case z_int => k_is)
    (case z_isinstance => k_is)
    (case z_len => k_is)
    (case z_list => k_is)
    (case z_range => k_is)
    (case z_set => k_is)
    (case z_sorted => k_is)
    (case z_str => k_is)
    (case z_tuple => k_is)
    (case rv_InvalidShown => (first | decide +kernel | rfl | k_is))
    (case sb_InvalidShown => k_is)
    (case rv_Undefined => (first | decide +kernel | rfl | k_is))
    (case sb_Undefined => k_is)
