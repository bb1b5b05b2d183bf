import PyProof.Rows.All
import Wide.All
import OpenK.AllK
import Wide.FinOn
import KE.KExcSuper
import HandS.ForMost
import HandS.ForExc
import HandS.ExcInit
import HandS.ExcSuper
import HandS.ExcField
import HandS.ExcIs
import HandS.HotCalls
import HandS.IsInst
import HandS.Gcd
import HandS.Wide
import HandS.Style
import PySem.Challenge.RW_nextguess_k03_sums_of_shares
set_option Elab.async false
set_option linter.all false
set_option maxRecDepth 100000
set_option maxHeartbeats 2000000
/-! An own exception class under a class under ValueError, whose __init__ is: super().__init__("text"); self.f = f. -/
namespace PySem
namespace SupX_value
open PySem.W PySem.Calls PyProof.Rows PySem.HandSPX
/-! ### the text of such an __init__ -/
def iA (p1 p2 : Pos) : Arguments := { posonlyargs := [], args := [{ arg := "self", annotation := none, pos := p1 }, { arg := "value", annotation := none, pos := p2 }], vararg := none, kwonlyargs := [], kw_defaults := [], kwarg := none, defaults := [] }
def iB (m : Str) (k : Nat) (p0 p1 p2 p3 p4 p5 q1 q2 q3 q4 : Pos) : List Stmt :=
  [.Expr (.Call (.Attribute (.Call (.Name "super" p0) [] [] p1) "__init__" p2) [.Constant (.str m) k p3] [] p4) p5,
   .Assign [.Attribute (.Name "self" q1) "value" q2] (.Name "value" q3) q4]
def iS : Scope := { kind := .function, names := [(PySem.Str.ofString "self", .local), (PySem.Str.ofString "value", .local), (PySem.Str.ofString "__class__", .free), (PySem.Str.ofString "super", .globalImplicit)], isGenerator := false, isCoroutine := false, more := [] }
/-- what the written part says of such a class at C, its __init__ at fI -/
structure XTxt (P : Program) (K : Frag) (mg : Str → Option Value) (x : Str) (C fI : Addr) : Prop where
  gC : mg x = some (.ref C)
  nm : (x == ("__debug__" : Str)) = false
  sup : mg "super" = none
  cls : ∃ nm q N bs bm sn sub ab col dd k0 k1 k2 k3 k5, K.lookup C = some (excClassObj nm q C N bs bm true sn sub ab col dd k0 k1 k2 k3 k5 "ValueError.__new__") ∧ refsVE bm = true
  sa : findIn K (.ref C) "__setattr__" = some (some (.builtin "object.__setattr__"))
  noN : findIn K (.ref C) "value" = some none
  iC : findIn K (.ref C) "__init__" = some (some (.ref fI))
  tC : typeIn K (.ref fI) = some (.type "function")
  kC : keepIn K (.ref C) = true
  exC : subIn K (.ref C) (.type "BaseException") = some true
  veC : subIn K (.ref C) (.type "ValueError") = some true
  tyC : typeIn K (.ref C) = some (.type "type")
  te : exmOne K (.ref C) (.ref C) = some true
  xf : L2.XfC K C
  sIn : ks_superIn K C C "__init__" = some (some (.builtin "ValueError.__init__"))
  opq : nsIn K cStatics "thirdparty.any" = some none
  mro : mroIn K C (.ref C) = some true
  htop : (P.main.scope.names.lookup ("super" : Str)).isSome = false
  fn : ∃ (oc : Value) (od : Option Addr) (doc pm : Value) (an : Option Addr) (cda cc : Addr) (ct : Value) (osl : Array (Option Value)) (qual m : Str) (k : Nat) (r1 r2 p0 p1 p2 p3 p4 p5 q1 q2 q3 q4 : Pos)
      (ccl cl : Value) (cdd cld : Option Addr) (ccs csl : Array (Option Value)) (vs : Array Value) (file : Str) (tf : Tok),
    K.lookup fI = some ⟨oc, od, .func (ksFn "__init__" qual (iA r1 r2) (iB m k p0 p1 p2 p3 p4 p5 q1 q2 q3 q4) iS .none .none doc pm an (.ref cda) ct cc), osl⟩ ∧ codeIn K (.ref cda) qual = true ∧ (p2.endLine == p4.line) = true ∧
    K.lookup cda = some ⟨ccl, cdd, .fields vs, ccs⟩ ∧ vs[2]? = some (.str file tf) ∧ ((P.main.file : Str) == file) = true ∧ K.lookup cc = some ⟨cl, cld, .cell (some (.ref C)), csl⟩
/-- what __init__ leaves of a fresh exception at x -/
structure InitEnd (h h' : Heap) (x C dx : Addr) (v : Value) : Prop where
  keep : ∀ b o, b ≠ x → h.get? b = some o → h'.get? b = some o
  obj : ∃ t1 : Addr, h'.get? x = some { cls := .ref C, dict := some dx, data := .fields #[.ref t1, .none, .none, .none, .bool false, .none] }
  dbig : h.objs.size ≤ dx
  dne : dx ≠ x
  ns : h'.Ns1 dx (fun y => if y = "value" then some v else none)
theorem kept_but {K : Frag} {h h' : Heap} {x : Addr} (X : K.In h) (hx : K.lookup x = none) (k : ∀ b o, b ≠ x → h.get? b = some o → h'.get? b = some o) : K.In h' := fun a o e =>
  k a o (fun z => by rw [z, hx] at e; cases e) (X a o e)
theorem two_size (v : Value) : [v].length ≤ sizeLine := by
  rw [sizeLine_eq]
  exact (by decide : 1 ≤ 16777216)
section
variable {prog : Program} {w : World} {A : Around} {E : Value → Shared → Prop} {h : Heap} {g : Array GenState} {d : Drawn} {t : Nat} {os : OsState}
variable {nm q : Str} {C N : Addr} {bs bm : List Value} {hdct : Bool} {sn : List Str} {sub : List Value} {ab : Bool} {col : Option Bool} {dd : Option Addr} {k0 k1 k2 k3 k5 : Option Value}
/-- the bound ValueError.__init__, called -/
theorem call_bw {u e t0 : Addr} {rest : List Value} {Q : Value → Shared → Prop}
    (hC : h.get? C = some (excClassObj nm q C N bs bm hdct sn sub ab col dd k0 k1 k2 k3 k5 "ValueError.__new__")) (he : h.get? e = some (excO C t0)) (hu : h.get? u = some (kxs_mw "ValueError.__init__" e)) (hrest : rest.length ≤ sizeLine)
    (hq : ∀ h' t1, (∀ b o, b ≠ e → h.get? b = some o → h'.get? b = some o) → h'.get? e = some (excO C t1) → Q .none ⟨h', g, d, t, os⟩) :
    wpAny (model prog w) A (call (.ref u) rest) Q E ⟨h, g, d, t, os⟩ := by
  refine wpAny_call (codeAny_of_tree ?_)
  show wpAny _ A.in1 (callAny (.ref u) ⟨rest, []⟩) _ _ _
  simp only [callAny]
  refine wpAny_bind (wpAny_load hu ?_)
  simp only [kxs_mw, show (Value.type "method-wrapper" == Value.type "method" || Value.type "method-wrapper" == Value.type "builtin_function_or_method" || Value.type "method-wrapper" == Value.type "method-wrapper") = true by decide, if_true]
  refine W.KFB.if_so (by decide) ?_
  refine wpAny_bind (ESX.check_bound F.excBase_ValueError hC he rfl ?_)
  refine wpAny_bind (wpAny_pure (wpAny_pure ?_))
  refine ⟨Code.quiet_builtin _ (by decide +kernel), codeAny_builtin F.excBase_ValueError.initEntry ?_⟩
  rw [Around.under_plainId F.excBase_ValueError.init.plain _]
  wp_walk
  refine hq _ h.objs.size (fun b o hb ho => ?_) ?_
  · rw [Heap.get?_update_other _ _ (Ne.symm hb)]
    exact Heap.get?_push_of_some _ ho
  · rw [Heap.get?_update_self _ (Heap.get?_push_of_some _ he) rfl]
    rfl
end
section
variable {prog : Program} {w : World} {A : Around} {R : Result → Shared → Prop} {s : Shared} {K : Frag} {mg : Str → Option Value} {x : Str} {C fI : Addr}
theorem sup_init (T : XTxt prog K mg x C fI) {e t0 : Addr} {v : Value} (X : K.In s.heap) (hlim : s.heap.NoLimit) (hg : s.heap.Ns mainGlobals mg) (hb : ∃ mb, s.heap.Ns builtinsNs mb ∧ ∀ y : Str, y ≠ "__name__" → mb y = bootBuiltins y)
    (hx : s.heap.get? e = some (excO C t0)) (hnx : K.lookup e = none) (hroom : A.depth < recursionLimit)
    (hq : ∀ h' tk dx, InitEnd s.heap h' e C dx v → R (.ok (.ret .none)) { s with heap := h', toks := tk }) :
    codeAny (model prog w) A (.call (.ref fI) ⟨[.ref e, v], []⟩) R s := by
  obtain ⟨oc, od, doc, pm, an, cda, cc, ct, osl, qual, m, k, r1, r2, p0, p1, p2, p3, p4, p5, q1, q2, q3, q4, ccl, cl, cdd, cld, ccs, csl, vs, file, tf, ho, hcd, hln, hcode, hvs, hfile, hcell⟩ := T.fn
  obtain ⟨nm, q, N, bs, bm, sn, sub, ab, col, dd, k0, k1, k2, k3, k5, hC, hbm⟩ := T.cls
  obtain ⟨mb, hb1, hb2⟩ := hb
  have hcl : clsIn K C = some { name := nm, bases := bs, mro := .ref C :: bm, ns := N, qualname := q, hasDict := true, slotNames := sn, subclasses := sub, abstract := ab, collection := col, hasDel := false } := by unfold clsIn; rw [hC] <;> rfl
  refine ks_codeAny_call_defAt (fd := ksFn "__init__" qual (iA r1 r2) (iB m k p0 p1 p2 p3 p4 p5 q1 q2 q3 q4) iS .none .none doc pm an (.ref cda) ct cc) (body := iB m k p0 p1 p2 p3 p4 p5 q1 q2 q3 q4) (binds := [("self", .ref e), ("value", v)])
    hroom (X _ _ ho) rfl hlim (codeRec_of X hcd) rfl (BindsTo.of_eq ?_) ?_ ?_ (fun h₁ hns hk₁ => ?_) rfl rfl rfl
  · first | rfl | with_unfolding_all rfl
  · intro y hy
    have hy2 : y ∈ [(PySem.Str.ofString "self", NameKind.local), (PySem.Str.ofString "value", .local), (PySem.Str.ofString "__class__", .free), (PySem.Str.ofString "super", .globalImplicit)] := hy
    simp only [List.mem_cons, List.not_mem_nil, or_false] at hy2
    rcases hy2 with rfl | rfl | rfl | rfl <;> intro z <;> cases z
  · intro y hy
    simp only [List.mem_cons, List.not_mem_nil, or_false] at hy
    rcases hy with rfl | rfl <;> rfl
  -- the frame: self, the field's value
  have X₁ : K.In h₁ := X.keeps hk₁
  have hx₁ := hk₁ _ _ hx
  have hC₁ := X₁ _ _ hC
  show _root_.PySem.wpAt _ _ _ (execs (iB m k p0 p1 p2 p3 p4 p5 q1 q2 q3 q4) _) _ _ _
  refine ks_wpAt_execs_cons (ks_wpAt_Expr_any (ks_wpAt_MethodCall (pl := (do return (← importBound (.Call (.Name "super" p0) [] [] p1) (callEnv
          (ksFn "__init__" qual (iA r1 r2) (iB m k p0 p1 p2 p3 p4 p5 q1 q2 q3 q4) iS .none .none doc pm an (.ref cda) ct cc) s.heap.objs.size fI)).getD true)) ?_ ?he) rfl rfl)
  case he =>
    rw [eval]
    unfold methodCall methodCallPos
    simp only [hln, Bool.or_true, if_true, pure_bind]
    rfl
  refine ks_wpAt_super_base (f := fI) (cc := cda) rfl rfl (by decide +kernel) rfl (X₁ _ _ ho) rfl rfl rfl (X₁ _ _ hcode) rfl hvs hfile T.htop ?_
  refine ks_loadName_global rfl rfl (loadGlobal_builtin (hg.keeps hk₁) T.sup (hb1.keeps hk₁) ((hb2 _ (by decide +kernel)).trans (show bootBuiltins "super" = some (.type "super") by first | rfl | decide +kernel | kernel_rfl)) ⟨rfl, ?_⟩)
  refine wpAny_loadName_free rfl rfl rfl ⟨_, X₁ _ _ hcell, rfl⟩ ?_
  refine wpAny_loadName_local (v := .ref e) rfl rfl hns (by rfl) ?_
  refine ks_wpAny_isType_cls hC₁ rfl ⟨rfl, ?_⟩
  refine ks_wpAny_call_super hC₁ rfl hx₁ rfl (fun c z => nomatch z) (looks_mroIn X₁ T.mro) (fun h₂ e₂ k₂ => ?_)
  have X₂ : K.In h₂ := X₁.keeps k₂
  have hx₂ := k₂ _ _ hx₁
  have hC₂ := X₂ _ _ hC
  have I₂ : InstAt h₂ e (excO C t0) C none := ⟨hx₂, rfl, rfl, trivial⟩
  have hI : Looks (model prog w) h₂ (isInstance (.ref e) (.type "ValueError")) true := I₂.type.andThen (looks_subIn X₂ T.veC)
  have hsi : alongIn K "__init__" (((Value.ref C :: bm).dropWhile (· != .ref C)).drop 1) = some (some (.builtin "ValueError.__init__")) := by
    have z := T.sIn
    unfold ks_superIn at z
    rw [hcl] at z
    exact z
  have hmro : Looks (model prog w) h₂ (mroOf (.ref C)) (Value.ref C :: bm) := fun A' Q' E' s' k' q' => wpAny_bind ((looks_clsIn X₂ hcl) A' _ E' s' k' (wpAny_pure q'))
  refine kxs_getMethod kxs_ValueError e₂ (looks_opaque X₂ T.opq) hmro rfl X₂ hsi hI (ks_ne X₂ I₂ hcl) (by decide +kernel) ?_
  have hu : (h₂.push (kxs_mw "ValueError.__init__" e)).get? h₂.objs.size = some (kxs_mw "ValueError.__init__" e) := by heap_get
  have k₃ : ∀ b o, h₂.get? b = some o → (h₂.push (kxs_mw "ValueError.__init__" e)).get? b = some o := fun b o z => Heap.get?_push_of_some _ z
  refine kxs_callWith (i := "ValueError.__init__") (x := e) (by rfl) ?_
  refine evalArgs_plain (spliced_cons ?_)
  show wpAny _ _ (eval (.Constant (.str m) k p3) _) _ _ _
  refine Constant_str (spliced_nil ⟨hu, ?_⟩)
  refine call_bw (k₃ _ _ hC₂) (k₃ _ _ hx₂) hu (two_size _) (fun h₄ t4 k₄ hx₄ => ?_)
  have k₅ : ∀ b o, b ≠ e → s.heap.get? b = some o → h₄.get? b = some o := fun b o z y => k₄ b o z (k₃ _ _ (k₂ _ _ (hk₁ _ _ y)))
  have X₄ : K.In h₄ := kept_but (X₂.keeps k₃) hnx k₄
  have hLe : s.heap.objs.size ≠ e := Nat.ne_of_gt (Heap.lt_size hx)
  have hns₄ : h₄.Ns s.heap.objs.size (fun y => List.lookup y ([(("self" : Str), Value.ref e), (("value" : Str), v)] : List (Str × Value)).reverse) := by
    obtain ⟨oL, es, ep, hL, r⟩ := hns
    exact ⟨oL, es, ep, k₄ _ _ hLe (k₃ _ _ (k₂ _ _ hL)), r⟩
  show wpAt _ _ _ (execs [.Assign [.Attribute (.Name "self" q1) "value" q2] (.Name "value" q3) q4] _) _ _ _
  refine wpAt_of_wpAny (wpAny_execs_cons (plainObj_wpAny_Assign_Attribute ?_))
  refine ESX.ldL (v := v) hns₄ (by rfl) (ESX.ldL (v := .ref e) hns₄ (by rfl) ?_)
  refine set_plain X₄ (ox := excO C t4) (od := none) ⟨hx₄, rfl, rfl, trivial⟩ T.sa ?_
  refine exc_osa X₄ hx₄ hcl (show refsVE (.ref C :: bm) = true from hbm) rfl T.noN (fun h₆ tk₆ dx k₆ dn dne hx₆ hn₆ => ?_)
  refine wpAny_execs_nil (hq h₆ tk₆ dx ⟨fun b o hb y => k₆ b o hb (k₅ b o hb y), ⟨t4, hx₆⟩, ?_, dne, hn₆⟩)
  have z : s.heap.objs.size < h₄.objs.size := hns₄.lt
  exact Nat.le_of_lt (Nat.lt_of_lt_of_le z dn)
/-- a made exception -/
structure OwnMade (h h' : Heap) (e C d : Addr) (v : Value) : Prop where
  keep : ∀ b o, h.get? b = some o → h'.get? b = some o
  new : h.objs.size ≤ e
  obj : ∃ t1 : Addr, h'.get? e = some { cls := .ref C, dict := some d, data := .fields #[.ref t1, .none, .none, .none, .bool false, .none] }
  dbig : h.objs.size ≤ d
  dne : d ≠ e
  ns : h'.Ns1 d (fun y => if y = "value" then some v else none)
theorem sup_made (T : XTxt prog K mg x C fI) {v : Value} (X : K.In s.heap) (hlim : s.heap.NoLimit) (hg : s.heap.Ns mainGlobals mg) (hb : ∃ mb, s.heap.Ns builtinsNs mb ∧ ∀ y : Str, y ≠ "__name__" → mb y = bootBuiltins y) (hroom : A.depth + 1 < recursionLimit)
    (hq : ∀ h' tk e d, OwnMade s.heap h' e C d v → R (.ok (.ret (.ref e))) { s with heap := h', toks := tk }) :
    codeAny (model prog w) A (.call (.ref C) ⟨[v], []⟩) R s := by
  obtain ⟨nm, q, N, bs, bm, sn, sub, ab, col, dd, k0, k1, k2, k3, k5, hC, hbm⟩ := T.cls
  obtain ⟨mb, hb1, hb2⟩ := hb
  obtain ⟨hp, g, dr, tk, os⟩ := s
  have k : ∀ b o, hp.get? b = some o → ((hp.push (kdv_tup [v])).push (excO C hp.objs.size)).get? b = some o := fun b o e => Heap.get?_push_of_some _ (Heap.get?_push_of_some _ e)
  have hget : ((hp.push (kdv_tup [v])).push (excO C hp.objs.size)).get? (hp.objs.size + 1) = some (excO C hp.objs.size) := by heap_get
  have hnx : K.lookup (hp.objs.size + 1) = none := by
    cases e : K.lookup (hp.objs.size + 1) with
    | none => rfl
    | some o =>
      have z : hp.get? (hp.objs.size + 1) = some o := X _ _ e
      exact absurd (Nat.lt_of_succ_lt (Heap.lt_size z)) (Nat.lt_irrefl _)
  refine call_own F.excBase_ValueError (fun X => refsVE_contains X bm hbm) (X _ _ hC) (looks_findIn X T.iC) (fun self => bind_fn X self T.tC) (two_size v) ?_
  refine sup_init (s := ⟨(hp.push (kdv_tup [v])).push (excO C hp.objs.size), g, dr, tk, os⟩) T (X.keeps k) (hlim.keeps k) (hg.keeps k) ⟨mb, hb1.keeps k, hb2⟩ hget hnx ?_ fun h' tk' dx M => ?_
  · show A.depth + 1 < recursionLimit
    exact hroom
  · obtain ⟨k', hx, dn, dne, hns⟩ := M
    have old : ∀ b o, hp.get? b = some o → h'.get? b = some o := fun b o e => k' b o (Nat.ne_of_lt (Nat.lt_succ_of_lt (Heap.lt_size e))) (k b o e)
    have z : hp.objs.size + 1 + 1 ≤ dx := by
      first
        | (simpa only [Heap.size_push] using dn)
        | exact dn
        | (have q := dn; rw [Heap.size_push, Heap.size_push] at q; exact q)
    exact ⟨rfl, hq h' tk' (hp.objs.size + 1) dx ⟨old, Nat.le_succ _, hx, Nat.le_trans (Nat.le_trans (Nat.le_succ _) (Nat.le_succ _)) z, dne, hns⟩⟩
end
end SupX_value
end PySem

set_option Elab.async false
set_option linter.all false
set_option maxRecDepth 100000
set_option maxHeartbeats 2000000

namespace L2
open PySem PySem.Spec PyProof.Rows
theorem relO_one {f : Str} {v : V} {v' : Value} (r : RelV v v') (g : Str) : RelO (List.lookup g [(f, v)]) (if g = f then some v' else none) := by
  by_cases hw : g = f
  · subst hw
    rw [if_pos rfl]
    have q : List.lookup g [(g, v)] = some v := by simp [List.lookup]
    rw [q]
    exact r
  · rw [if_neg hw]
    have qw : (g == f) = false := by simpa using hw
    have q2 : List.lookup g [(f, v)] = none := by simp [List.lookup, qw]
    rw [q2]
    trivial
/-- C(e), an exception that is made -/
def tMkX (C : Addr) (f : Str) (ta : TA) : St → Hp → XK → Prop := fun σ H Q => ta σ H fun vs H1 => ∃ v, vs = [v] ∧ ∀ d, H1 d = none → Q (.ref C) (some d) (upd H1 d (.xd [(f, v)]))
/-- C(e) as a value: the exception at a, its dict at d -/
def tExV (C : Addr) (f : Str) (ta : TA) : TE := fun σ H Q => ta σ H fun vs H1 => ∃ v, vs = [v] ∧ ∀ a d, H1 a = none → H1 d = none → d ≠ a → Q (.ref a) (upd (upd H1 d (.xd [(f, v)])) a (exo a C (some d)))
end L2
namespace L2
namespace Sup_value
open PySem PySem.Spec PyProof.Rows PySem.SupX_value
section
variable {X : Cx} {C fI : Addr} {x : Str}
theorem gblt {pins : List (Addr × Obj)} {σ : St} {H : Hp} {s : Shared} (I : Inv X pins σ H s) : ∃ mb, s.heap.Ns builtinsNs mb ∧ ∀ y : Str, y ≠ "__name__" → mb y = bootBuiltins y := by
  obtain ⟨mb, h1, h2⟩ := I.mod.blt
  exact ⟨mb, h1.keeps I.bk, h2⟩
theorem pmk_sup {a : Expr} {ta : TA} {p pos : Pos} {k : Nat} (T : XTxt X.prog X.K X.mg x C fI) (hr : Room k X.A) (ha : PA X [a] ta) (hg : Gl X x := by rfl)
    (he : starEach (a :: []) X.env = (false, eval a X.env) :: starEach [] X.env := by rfl) (hpl : (backTo pos (starEach [] X.env)).any (·.1) = false := by rfl) :
    PMk X (.Call (.Name x p) [a] [] pos) (tMkX C "value" ta) := by
  intro pins s σ H Q I h
  refine wpAny_Call_Name_kw (ld_glob I hg T.gC ?_ T.nm)
  refine PySem.W.callWith_K (h₀ := X.base) I.ok.mod.kin T.kC (thn (ha.run pos pins s σ H _ I h) fun us s1 hh => ?_) he hpl
  obtain ⟨vs, H1, I1, r1, v, ev, q1⟩ := hh
  subst ev
  refine ⟨I1.kIn, ?_⟩
  cases r1 with
  | cons rv rn =>
    rename_i v' us'
    cases rn
    show wpAny _ _ (call (.ref C) [v']) _ _ _
    have hlim := I1.nolimit
    have hgl := I1.mod.glob.keeps I1.bk
    have hbl := gblt I1
    obtain ⟨hp, g, dr, tk, os⟩ := s1
    refine wpAny_call (sup_made T I1.kIn hlim hgl hbl (by have := hr.dp; omega) fun h' tk' e d M => ?_)
    show MkP X pins σ Q (.ref e) ⟨h', g, dr, tk', os⟩
    obtain ⟨t1, hoe⟩ := M.obj
    have hns := M.ns
    obtain ⟨G', g1, g2⟩ := restrict h' fun b => decide (b ≠ e)
    have gk : ∀ b, b ≠ e → G'.get? b = h'.get? b := fun b hb => g1 b (decide_eq_true hb)
    have ge : G'.get? e = none := g2 e (by simp)
    have old : ∀ b o, hp.get? b = some o → G'.get? b = some o := fun b o q => (gk b (Nat.ne_of_lt (Nat.lt_of_lt_of_le (Heap.lt_size q) M.new))).trans (M.keep b o q)
    have ob : ObjOk X.prog X.w (upd H1 d (.xd [(("value" : Str), v)])) G' d (.xd [(("value" : Str), v)]) :=
      ⟨_, hns.at (fun o q => (gk d M.dne).trans q), fun f => relO_one rv f⟩
    have J : Inv X pins σ (upd H1 d (.xd [(("value" : Str), v)])) ⟨G', g, dr, tk', os⟩ := I1.laid (t' := tk') old M.dbig ob
    refine ⟨e, _, _, ⟨G', g, dr, tk', os⟩, _, .ref C, some d, rfl, J, fun b o q => ?_, ge, hoe, ⟨rfl, rfl⟩, rfl, rfl, ?_, rfl, I1.bare, raises_own T.exC T.tyC, q1 d (I1.hok.fresh M.dbig)⟩
    · by_cases hb : b = e
      · have q' : G'.get? b = some o := q
        rw [hb, ge] at q'; cases q'
      · exact (gk b hb).symm.trans q
    · rw [upd_ne (Ne.symm M.dne)]
      exact I1.hok.fresh M.new
/-- raise C(e) -/
theorem ps_raiseSup {a : Expr} {ta : TA} {W : WX} {p pos pos2 : Pos} {k : Nat} (hc : X.calm = true) (T : XTxt X.prog X.K X.mg x C fI) (hr : Room k X.A) (tk : Takes X W) (ha : PA X [a] ta) (hg : Gl X x := by rfl)
    (he : starEach (a :: []) X.env = (false, eval a X.env) :: starEach [] X.env := by rfl) (hpl : (backTo pos (starEach [] X.env)).any (·.1) = false := by rfl) :
    PS X (.Raise (some (.Call (.Name x p) [a] [] pos)) none pos2) (fun _ σ H => tMkX C "value" ta σ H fun cls d H' => W cls d σ H') := ps_raise hc tk (pmk_sup T hr ha hg he hpl)
theorem pmk_supN {a : Expr} {ta : TA} {p pos : Pos} {k : Nat} (T : XTxt X.prog X.K X.mg x C fI) (hr : Room k X.A) (ha : PA X [a] ta) (hg : Gl X x := by rfl)
    (he : starEach (a :: []) X.env = (false, eval a X.env) :: starEach [] X.env := by rfl) (hpl : (backTo pos (starEach [] X.env)).any (·.1) = false := by rfl) :
    L2N.PMk X (.Call (.Name x p) [a] [] pos) (tMkX C "value" ta) := by
  intro pins s σ H Q I h
  refine wpAny_Call_Name_kw (ld_glob I hg T.gC ?_ T.nm)
  refine PySem.W.callWith_K (h₀ := X.base) I.ok.mod.kin T.kC (thn (ha.run pos pins s σ H _ I h) fun us s1 hh => ?_) he hpl
  obtain ⟨vs, H1, I1, r1, v, ev, q1⟩ := hh
  subst ev
  refine ⟨I1.kIn, ?_⟩
  cases r1 with
  | cons rv rn =>
    rename_i v' us'
    cases rn
    show wpAny _ _ (call (.ref C) [v']) _ _ _
    have hlim := I1.nolimit
    have hgl := I1.mod.glob.keeps I1.bk
    have hbl := gblt I1
    obtain ⟨hp, g, dr, tk, os⟩ := s1
    refine wpAny_call (sup_made T I1.kIn hlim hgl hbl (by have := hr.dp; omega) fun h' tk' e d M => ?_)
    show L2N.MkP X pins σ Q (.ref e) ⟨h', g, dr, tk', os⟩
    obtain ⟨t1, hoe⟩ := M.obj
    have hns := M.ns
    obtain ⟨G', g1, g2⟩ := restrict h' fun b => decide (b ≠ e)
    have gk : ∀ b, b ≠ e → G'.get? b = h'.get? b := fun b hb => g1 b (decide_eq_true hb)
    have ge : G'.get? e = none := g2 e (by simp)
    have old : ∀ b o, hp.get? b = some o → G'.get? b = some o := fun b o q => (gk b (Nat.ne_of_lt (Nat.lt_of_lt_of_le (Heap.lt_size q) M.new))).trans (M.keep b o q)
    have ob : ObjOk X.prog X.w (upd H1 d (.xd [(("value" : Str), v)])) G' d (.xd [(("value" : Str), v)]) :=
      ⟨_, hns.at (fun o q => (gk d M.dne).trans q), fun f => relO_one rv f⟩
    have J : Inv X pins σ (upd H1 d (.xd [(("value" : Str), v)])) ⟨G', g, dr, tk', os⟩ := I1.laid (t' := tk') old M.dbig ob
    refine ⟨e, _, _, ⟨G', g, dr, tk', os⟩, _, .ref C, some d, rfl, J, fun b o q => ?_, ge, hoe, ⟨rfl, rfl, fun vs e => by cases e; rfl⟩, rfl, rfl, ?_, rfl, I1.bare, raises_own T.exC T.tyC, q1 d (I1.hok.fresh M.dbig)⟩
    · by_cases hb : b = e
      · have q' : G'.get? b = some o := q
        rw [hb, ge] at q'; cases q'
      · exact (gk b hb).symm.trans q
    · rw [upd_ne (Ne.symm M.dne)]
      exact I1.hok.fresh M.new
/-- raise C(e) -/
theorem ps_raiseSupN {a : Expr} {ta : TA} {W : WX} {p pos pos2 : Pos} {k : Nat} (hc : X.calm = true) (T : XTxt X.prog X.K X.mg x C fI) (hr : Room k X.A) (tk : L2N.Takes X W) (ha : PA X [a] ta) (hg : Gl X x := by rfl)
    (he : starEach (a :: []) X.env = (false, eval a X.env) :: starEach [] X.env := by rfl) (hpl : (backTo pos (starEach [] X.env)).any (·.1) = false := by rfl) :
    PS X (.Raise (some (.Call (.Name x p) [a] [] pos)) none pos2) (fun _ σ H => tMkX C "value" ta σ H fun cls d H' => W cls d σ H')   := L2N.ps_raise hc tk (pmk_supN T hr ha hg he hpl)
/-- C(e) as a value -/
theorem pe_supV {a : Expr} {ta : TA} {p pos : Pos} {k : Nat} (T : XTxt X.prog X.K X.mg x C fI) (hr : Room k X.A) (ha : PA X [a] ta) (hg : Gl X x := by rfl)
    (he : starEach (a :: []) X.env = (false, eval a X.env) :: starEach [] X.env := by rfl) (hpl : (backTo pos (starEach [] X.env)).any (·.1) = false := by rfl) :
    PE X (.Call (.Name x p) [a] [] pos) (tExV C "value" ta) := by
  refine ⟨fun pins s σ H Q I h => ?_⟩
  refine wpAny_Call_Name_kw (ld_glob I hg T.gC ?_ T.nm)
  refine PySem.W.callWith_K (h₀ := X.base) I.ok.mod.kin T.kC (thn (ha.run pos pins s σ H _ I h) fun us s1 hh => ?_) he hpl
  obtain ⟨vs, H1, I1, r1, v, ev, q1⟩ := hh
  subst ev
  refine ⟨I1.kIn, ?_⟩
  cases r1 with
  | cons rv rn =>
    rename_i v' us'
    cases rn
    show wpAny _ _ (call (.ref C) [v']) _ _ _
    have hlim := I1.nolimit
    have hgl := I1.mod.glob.keeps I1.bk
    have hbl := gblt I1
    obtain ⟨hp, g, dr, tk, os⟩ := s1
    refine wpAny_call (sup_made T I1.kIn hlim hgl hbl (by have := hr.dp; omega) fun h' tk' e d M => ?_)
    obtain ⟨t1, hoe⟩ := M.obj
    have hne : H1 e = none := I1.hok.fresh M.new
    have hnd : H1 d = none := I1.hok.fresh M.dbig
    have nde : ∀ {b : Addr} {o : Obj}, hp.get? b = some o → b ≠ e := fun {b o} z => Nat.ne_of_lt (Nat.lt_of_lt_of_le (Heap.lt_size z) M.new)
    have ndd : ∀ {b : Addr} {o : Obj}, hp.get? b = some o → b ≠ d := fun {b o} z => Nat.ne_of_lt (Nat.lt_of_lt_of_le (Heap.lt_size z) M.dbig)
    have two : ∀ {b : Addr} {o : HO}, H1 b = some o → upd (upd H1 d (.xd [(("value" : Str), v)])) e (exo e C (some d)) b = some o := fun {b o} z => by
      rw [upd_ne (ne_of_none z hne), upd_ne (ne_of_none z hnd)]
      exact z
    have U : Un X.fs [] H1 (upd (upd H1 d (.xd [(("value" : Str), v)])) e (exo e C (some d))) hp h' := {
      keep := fun b u z _ _ _ => M.keep b u z
      slot := fun b u z _ _ _ => ⟨u.slots, M.keep b u z⟩
      free := fun b u z n _ => by rw [upd_ne (nde z), upd_ne (ndd z)]; exact n
      there := fun b u z _ => ⟨u, M.keep b u z⟩
      tups := fun b xs z => two z
      frzs := fun b u xs z => two z
      tbls := fun b ps z => ⟨#[], by rw [two z]; simp⟩ }
    have ok2 : HOk X.prog X.w (upd (upd H1 d (.xd [(("value" : Str), v)])) e (exo e C (some d))) h' := fun b o z => by
      by_cases hb : b = e
      · subst hb
        rw [upd_same] at z
        cases z
        exact exo_ok hoe
      · rw [upd_ne hb] at z
        by_cases hd : b = d
        · subst hd
          rw [upd_same] at z
          cases z
          exact ⟨_, M.ns, fun f => relO_one rv f⟩
        · rw [upd_ne hd] at z
          exact (I1.hok b o z).stay (fun c u _ q => M.keep c u q) (fun c q => two q) fun c xs q => two q
    have J2 : Inv X pins σ (upd (upd H1 d (.xd [(("value" : Str), v)])) e (exo e C (some d))) ⟨h', g, dr, tk', os⟩ := I1.un (t' := tk') U ok2
    exact ⟨.ref e, _, J2, rfl, q1 e d hne hnd M.dne⟩
end
end Sup_value
end L2

set_option Elab.async false
set_option linter.all false
set_option maxRecDepth 100000
set_option maxHeartbeats 2000000
/-! An own exception class under a class under ValueError, whose __init__ is: super().__init__("text"); self.f = f. -/
namespace PySem
namespace SupX_what
open PySem.W PySem.Calls PyProof.Rows PySem.HandSPX
/-! ### the text of such an __init__ -/
def iA (p1 p2 : Pos) : Arguments := { posonlyargs := [], args := [{ arg := "self", annotation := none, pos := p1 }, { arg := "what", annotation := none, pos := p2 }], vararg := none, kwonlyargs := [], kw_defaults := [], kwarg := none, defaults := [] }
def iB (m : Str) (k : Nat) (p0 p1 p2 p3 p4 p5 q1 q2 q3 q4 : Pos) : List Stmt :=
  [.Expr (.Call (.Attribute (.Call (.Name "super" p0) [] [] p1) "__init__" p2) [.Constant (.str m) k p3] [] p4) p5,
   .Assign [.Attribute (.Name "self" q1) "what" q2] (.Name "what" q3) q4]
def iS : Scope := { kind := .function, names := [(PySem.Str.ofString "self", .local), (PySem.Str.ofString "what", .local), (PySem.Str.ofString "__class__", .free), (PySem.Str.ofString "super", .globalImplicit)], isGenerator := false, isCoroutine := false, more := [] }
/-- what the written part says of such a class at C, its __init__ at fI -/
structure XTxt (P : Program) (K : Frag) (mg : Str → Option Value) (x : Str) (C fI : Addr) : Prop where
  gC : mg x = some (.ref C)
  nm : (x == ("__debug__" : Str)) = false
  sup : mg "super" = none
  cls : ∃ nm q N bs bm sn sub ab col dd k0 k1 k2 k3 k5, K.lookup C = some (excClassObj nm q C N bs bm true sn sub ab col dd k0 k1 k2 k3 k5 "ValueError.__new__") ∧ refsVE bm = true
  sa : findIn K (.ref C) "__setattr__" = some (some (.builtin "object.__setattr__"))
  noN : findIn K (.ref C) "what" = some none
  iC : findIn K (.ref C) "__init__" = some (some (.ref fI))
  tC : typeIn K (.ref fI) = some (.type "function")
  kC : keepIn K (.ref C) = true
  exC : subIn K (.ref C) (.type "BaseException") = some true
  veC : subIn K (.ref C) (.type "ValueError") = some true
  tyC : typeIn K (.ref C) = some (.type "type")
  te : exmOne K (.ref C) (.ref C) = some true
  xf : L2.XfC K C
  sIn : ks_superIn K C C "__init__" = some (some (.builtin "ValueError.__init__"))
  opq : nsIn K cStatics "thirdparty.any" = some none
  mro : mroIn K C (.ref C) = some true
  htop : (P.main.scope.names.lookup ("super" : Str)).isSome = false
  fn : ∃ (oc : Value) (od : Option Addr) (doc pm : Value) (an : Option Addr) (cda cc : Addr) (ct : Value) (osl : Array (Option Value)) (qual m : Str) (k : Nat) (r1 r2 p0 p1 p2 p3 p4 p5 q1 q2 q3 q4 : Pos)
      (ccl cl : Value) (cdd cld : Option Addr) (ccs csl : Array (Option Value)) (vs : Array Value) (file : Str) (tf : Tok),
    K.lookup fI = some ⟨oc, od, .func (ksFn "__init__" qual (iA r1 r2) (iB m k p0 p1 p2 p3 p4 p5 q1 q2 q3 q4) iS .none .none doc pm an (.ref cda) ct cc), osl⟩ ∧ codeIn K (.ref cda) qual = true ∧ (p2.endLine == p4.line) = true ∧
    K.lookup cda = some ⟨ccl, cdd, .fields vs, ccs⟩ ∧ vs[2]? = some (.str file tf) ∧ ((P.main.file : Str) == file) = true ∧ K.lookup cc = some ⟨cl, cld, .cell (some (.ref C)), csl⟩
/-- what __init__ leaves of a fresh exception at x -/
structure InitEnd (h h' : Heap) (x C dx : Addr) (v : Value) : Prop where
  keep : ∀ b o, b ≠ x → h.get? b = some o → h'.get? b = some o
  obj : ∃ t1 : Addr, h'.get? x = some { cls := .ref C, dict := some dx, data := .fields #[.ref t1, .none, .none, .none, .bool false, .none] }
  dbig : h.objs.size ≤ dx
  dne : dx ≠ x
  ns : h'.Ns1 dx (fun y => if y = "what" then some v else none)
theorem kept_but {K : Frag} {h h' : Heap} {x : Addr} (X : K.In h) (hx : K.lookup x = none) (k : ∀ b o, b ≠ x → h.get? b = some o → h'.get? b = some o) : K.In h' := fun a o e =>
  k a o (fun z => by rw [z, hx] at e; cases e) (X a o e)
theorem two_size (v : Value) : [v].length ≤ sizeLine := by
  rw [sizeLine_eq]
  exact (by decide : 1 ≤ 16777216)
section
variable {prog : Program} {w : World} {A : Around} {E : Value → Shared → Prop} {h : Heap} {g : Array GenState} {d : Drawn} {t : Nat} {os : OsState}
variable {nm q : Str} {C N : Addr} {bs bm : List Value} {hdct : Bool} {sn : List Str} {sub : List Value} {ab : Bool} {col : Option Bool} {dd : Option Addr} {k0 k1 k2 k3 k5 : Option Value}
/-- the bound ValueError.__init__, called -/
theorem call_bw {u e t0 : Addr} {rest : List Value} {Q : Value → Shared → Prop}
    (hC : h.get? C = some (excClassObj nm q C N bs bm hdct sn sub ab col dd k0 k1 k2 k3 k5 "ValueError.__new__")) (he : h.get? e = some (excO C t0)) (hu : h.get? u = some (kxs_mw "ValueError.__init__" e)) (hrest : rest.length ≤ sizeLine)
    (hq : ∀ h' t1, (∀ b o, b ≠ e → h.get? b = some o → h'.get? b = some o) → h'.get? e = some (excO C t1) → Q .none ⟨h', g, d, t, os⟩) :
    wpAny (model prog w) A (call (.ref u) rest) Q E ⟨h, g, d, t, os⟩ := by
  refine wpAny_call (codeAny_of_tree ?_)
  show wpAny _ A.in1 (callAny (.ref u) ⟨rest, []⟩) _ _ _
  simp only [callAny]
  refine wpAny_bind (wpAny_load hu ?_)
  simp only [kxs_mw, show (Value.type "method-wrapper" == Value.type "method" || Value.type "method-wrapper" == Value.type "builtin_function_or_method" || Value.type "method-wrapper" == Value.type "method-wrapper") = true by decide, if_true]
  refine W.KFB.if_so (by decide) ?_
  refine wpAny_bind (ESX.check_bound F.excBase_ValueError hC he rfl ?_)
  refine wpAny_bind (wpAny_pure (wpAny_pure ?_))
  refine ⟨Code.quiet_builtin _ (by decide +kernel), codeAny_builtin F.excBase_ValueError.initEntry ?_⟩
  rw [Around.under_plainId F.excBase_ValueError.init.plain _]
  wp_walk
  refine hq _ h.objs.size (fun b o hb ho => ?_) ?_
  · rw [Heap.get?_update_other _ _ (Ne.symm hb)]
    exact Heap.get?_push_of_some _ ho
  · rw [Heap.get?_update_self _ (Heap.get?_push_of_some _ he) rfl]
    rfl
end
section
variable {prog : Program} {w : World} {A : Around} {R : Result → Shared → Prop} {s : Shared} {K : Frag} {mg : Str → Option Value} {x : Str} {C fI : Addr}
theorem sup_init (T : XTxt prog K mg x C fI) {e t0 : Addr} {v : Value} (X : K.In s.heap) (hlim : s.heap.NoLimit) (hg : s.heap.Ns mainGlobals mg) (hb : ∃ mb, s.heap.Ns builtinsNs mb ∧ ∀ y : Str, y ≠ "__name__" → mb y = bootBuiltins y)
    (hx : s.heap.get? e = some (excO C t0)) (hnx : K.lookup e = none) (hroom : A.depth < recursionLimit)
    (hq : ∀ h' tk dx, InitEnd s.heap h' e C dx v → R (.ok (.ret .none)) { s with heap := h', toks := tk }) :
    codeAny (model prog w) A (.call (.ref fI) ⟨[.ref e, v], []⟩) R s := by
  obtain ⟨oc, od, doc, pm, an, cda, cc, ct, osl, qual, m, k, r1, r2, p0, p1, p2, p3, p4, p5, q1, q2, q3, q4, ccl, cl, cdd, cld, ccs, csl, vs, file, tf, ho, hcd, hln, hcode, hvs, hfile, hcell⟩ := T.fn
  obtain ⟨nm, q, N, bs, bm, sn, sub, ab, col, dd, k0, k1, k2, k3, k5, hC, hbm⟩ := T.cls
  obtain ⟨mb, hb1, hb2⟩ := hb
  have hcl : clsIn K C = some { name := nm, bases := bs, mro := .ref C :: bm, ns := N, qualname := q, hasDict := true, slotNames := sn, subclasses := sub, abstract := ab, collection := col, hasDel := false } := by unfold clsIn; rw [hC] <;> rfl
  refine ks_codeAny_call_defAt (fd := ksFn "__init__" qual (iA r1 r2) (iB m k p0 p1 p2 p3 p4 p5 q1 q2 q3 q4) iS .none .none doc pm an (.ref cda) ct cc) (body := iB m k p0 p1 p2 p3 p4 p5 q1 q2 q3 q4) (binds := [("self", .ref e), ("what", v)])
    hroom (X _ _ ho) rfl hlim (codeRec_of X hcd) rfl (BindsTo.of_eq ?_) ?_ ?_ (fun h₁ hns hk₁ => ?_) rfl rfl rfl
  · first | rfl | with_unfolding_all rfl
  · intro y hy
    have hy2 : y ∈ [(PySem.Str.ofString "self", NameKind.local), (PySem.Str.ofString "what", .local), (PySem.Str.ofString "__class__", .free), (PySem.Str.ofString "super", .globalImplicit)] := hy
    simp only [List.mem_cons, List.not_mem_nil, or_false] at hy2
    rcases hy2 with rfl | rfl | rfl | rfl <;> intro z <;> cases z
  · intro y hy
    simp only [List.mem_cons, List.not_mem_nil, or_false] at hy
    rcases hy with rfl | rfl <;> rfl
  -- the frame: self, the field's value
  have X₁ : K.In h₁ := X.keeps hk₁
  have hx₁ := hk₁ _ _ hx
  have hC₁ := X₁ _ _ hC
  show _root_.PySem.wpAt _ _ _ (execs (iB m k p0 p1 p2 p3 p4 p5 q1 q2 q3 q4) _) _ _ _
  refine ks_wpAt_execs_cons (ks_wpAt_Expr_any (ks_wpAt_MethodCall (pl := (do return (← importBound (.Call (.Name "super" p0) [] [] p1) (callEnv
          (ksFn "__init__" qual (iA r1 r2) (iB m k p0 p1 p2 p3 p4 p5 q1 q2 q3 q4) iS .none .none doc pm an (.ref cda) ct cc) s.heap.objs.size fI)).getD true)) ?_ ?he) rfl rfl)
  case he =>
    rw [eval]
    unfold methodCall methodCallPos
    simp only [hln, Bool.or_true, if_true, pure_bind]
    rfl
  refine ks_wpAt_super_base (f := fI) (cc := cda) rfl rfl (by decide +kernel) rfl (X₁ _ _ ho) rfl rfl rfl (X₁ _ _ hcode) rfl hvs hfile T.htop ?_
  refine ks_loadName_global rfl rfl (loadGlobal_builtin (hg.keeps hk₁) T.sup (hb1.keeps hk₁) ((hb2 _ (by decide +kernel)).trans (show bootBuiltins "super" = some (.type "super") by first | rfl | decide +kernel | kernel_rfl)) ⟨rfl, ?_⟩)
  refine wpAny_loadName_free rfl rfl rfl ⟨_, X₁ _ _ hcell, rfl⟩ ?_
  refine wpAny_loadName_local (v := .ref e) rfl rfl hns (by rfl) ?_
  refine ks_wpAny_isType_cls hC₁ rfl ⟨rfl, ?_⟩
  refine ks_wpAny_call_super hC₁ rfl hx₁ rfl (fun c z => nomatch z) (looks_mroIn X₁ T.mro) (fun h₂ e₂ k₂ => ?_)
  have X₂ : K.In h₂ := X₁.keeps k₂
  have hx₂ := k₂ _ _ hx₁
  have hC₂ := X₂ _ _ hC
  have I₂ : InstAt h₂ e (excO C t0) C none := ⟨hx₂, rfl, rfl, trivial⟩
  have hI : Looks (model prog w) h₂ (isInstance (.ref e) (.type "ValueError")) true := I₂.type.andThen (looks_subIn X₂ T.veC)
  have hsi : alongIn K "__init__" (((Value.ref C :: bm).dropWhile (· != .ref C)).drop 1) = some (some (.builtin "ValueError.__init__")) := by
    have z := T.sIn
    unfold ks_superIn at z
    rw [hcl] at z
    exact z
  have hmro : Looks (model prog w) h₂ (mroOf (.ref C)) (Value.ref C :: bm) := fun A' Q' E' s' k' q' => wpAny_bind ((looks_clsIn X₂ hcl) A' _ E' s' k' (wpAny_pure q'))
  refine kxs_getMethod kxs_ValueError e₂ (looks_opaque X₂ T.opq) hmro rfl X₂ hsi hI (ks_ne X₂ I₂ hcl) (by decide +kernel) ?_
  have hu : (h₂.push (kxs_mw "ValueError.__init__" e)).get? h₂.objs.size = some (kxs_mw "ValueError.__init__" e) := by heap_get
  have k₃ : ∀ b o, h₂.get? b = some o → (h₂.push (kxs_mw "ValueError.__init__" e)).get? b = some o := fun b o z => Heap.get?_push_of_some _ z
  refine kxs_callWith (i := "ValueError.__init__") (x := e) (by rfl) ?_
  refine evalArgs_plain (spliced_cons ?_)
  show wpAny _ _ (eval (.Constant (.str m) k p3) _) _ _ _
  refine Constant_str (spliced_nil ⟨hu, ?_⟩)
  refine call_bw (k₃ _ _ hC₂) (k₃ _ _ hx₂) hu (two_size _) (fun h₄ t4 k₄ hx₄ => ?_)
  have k₅ : ∀ b o, b ≠ e → s.heap.get? b = some o → h₄.get? b = some o := fun b o z y => k₄ b o z (k₃ _ _ (k₂ _ _ (hk₁ _ _ y)))
  have X₄ : K.In h₄ := kept_but (X₂.keeps k₃) hnx k₄
  have hLe : s.heap.objs.size ≠ e := Nat.ne_of_gt (Heap.lt_size hx)
  have hns₄ : h₄.Ns s.heap.objs.size (fun y => List.lookup y ([(("self" : Str), Value.ref e), (("what" : Str), v)] : List (Str × Value)).reverse) := by
    obtain ⟨oL, es, ep, hL, r⟩ := hns
    exact ⟨oL, es, ep, k₄ _ _ hLe (k₃ _ _ (k₂ _ _ hL)), r⟩
  show wpAt _ _ _ (execs [.Assign [.Attribute (.Name "self" q1) "what" q2] (.Name "what" q3) q4] _) _ _ _
  refine wpAt_of_wpAny (wpAny_execs_cons (plainObj_wpAny_Assign_Attribute ?_))
  refine ESX.ldL (v := v) hns₄ (by rfl) (ESX.ldL (v := .ref e) hns₄ (by rfl) ?_)
  refine set_plain X₄ (ox := excO C t4) (od := none) ⟨hx₄, rfl, rfl, trivial⟩ T.sa ?_
  refine exc_osa X₄ hx₄ hcl (show refsVE (.ref C :: bm) = true from hbm) rfl T.noN (fun h₆ tk₆ dx k₆ dn dne hx₆ hn₆ => ?_)
  refine wpAny_execs_nil (hq h₆ tk₆ dx ⟨fun b o hb y => k₆ b o hb (k₅ b o hb y), ⟨t4, hx₆⟩, ?_, dne, hn₆⟩)
  have z : s.heap.objs.size < h₄.objs.size := hns₄.lt
  exact Nat.le_of_lt (Nat.lt_of_lt_of_le z dn)
/-- a made exception -/
structure OwnMade (h h' : Heap) (e C d : Addr) (v : Value) : Prop where
  keep : ∀ b o, h.get? b = some o → h'.get? b = some o
  new : h.objs.size ≤ e
  obj : ∃ t1 : Addr, h'.get? e = some { cls := .ref C, dict := some d, data := .fields #[.ref t1, .none, .none, .none, .bool false, .none] }
  dbig : h.objs.size ≤ d
  dne : d ≠ e
  ns : h'.Ns1 d (fun y => if y = "what" then some v else none)
theorem sup_made (T : XTxt prog K mg x C fI) {v : Value} (X : K.In s.heap) (hlim : s.heap.NoLimit) (hg : s.heap.Ns mainGlobals mg) (hb : ∃ mb, s.heap.Ns builtinsNs mb ∧ ∀ y : Str, y ≠ "__name__" → mb y = bootBuiltins y) (hroom : A.depth + 1 < recursionLimit)
    (hq : ∀ h' tk e d, OwnMade s.heap h' e C d v → R (.ok (.ret (.ref e))) { s with heap := h', toks := tk }) :
    codeAny (model prog w) A (.call (.ref C) ⟨[v], []⟩) R s := by
  obtain ⟨nm, q, N, bs, bm, sn, sub, ab, col, dd, k0, k1, k2, k3, k5, hC, hbm⟩ := T.cls
  obtain ⟨mb, hb1, hb2⟩ := hb
  obtain ⟨hp, g, dr, tk, os⟩ := s
  have k : ∀ b o, hp.get? b = some o → ((hp.push (kdv_tup [v])).push (excO C hp.objs.size)).get? b = some o := fun b o e => Heap.get?_push_of_some _ (Heap.get?_push_of_some _ e)
  have hget : ((hp.push (kdv_tup [v])).push (excO C hp.objs.size)).get? (hp.objs.size + 1) = some (excO C hp.objs.size) := by heap_get
  have hnx : K.lookup (hp.objs.size + 1) = none := by
    cases e : K.lookup (hp.objs.size + 1) with
    | none => rfl
    | some o =>
      have z : hp.get? (hp.objs.size + 1) = some o := X _ _ e
      exact absurd (Nat.lt_of_succ_lt (Heap.lt_size z)) (Nat.lt_irrefl _)
  refine call_own F.excBase_ValueError (fun X => refsVE_contains X bm hbm) (X _ _ hC) (looks_findIn X T.iC) (fun self => bind_fn X self T.tC) (two_size v) ?_
  refine sup_init (s := ⟨(hp.push (kdv_tup [v])).push (excO C hp.objs.size), g, dr, tk, os⟩) T (X.keeps k) (hlim.keeps k) (hg.keeps k) ⟨mb, hb1.keeps k, hb2⟩ hget hnx ?_ fun h' tk' dx M => ?_
  · show A.depth + 1 < recursionLimit
    exact hroom
  · obtain ⟨k', hx, dn, dne, hns⟩ := M
    have old : ∀ b o, hp.get? b = some o → h'.get? b = some o := fun b o e => k' b o (Nat.ne_of_lt (Nat.lt_succ_of_lt (Heap.lt_size e))) (k b o e)
    have z : hp.objs.size + 1 + 1 ≤ dx := by
      first
        | (simpa only [Heap.size_push] using dn)
        | exact dn
        | (have q := dn; rw [Heap.size_push, Heap.size_push] at q; exact q)
    exact ⟨rfl, hq h' tk' (hp.objs.size + 1) dx ⟨old, Nat.le_succ _, hx, Nat.le_trans (Nat.le_trans (Nat.le_succ _) (Nat.le_succ _)) z, dne, hns⟩⟩
end
end SupX_what
end PySem
namespace L2
namespace Sup_what
open PySem PySem.Spec PyProof.Rows PySem.SupX_what
section
variable {X : Cx} {C fI : Addr} {x : Str}
theorem gblt {pins : List (Addr × Obj)} {σ : St} {H : Hp} {s : Shared} (I : Inv X pins σ H s) : ∃ mb, s.heap.Ns builtinsNs mb ∧ ∀ y : Str, y ≠ "__name__" → mb y = bootBuiltins y := by
  obtain ⟨mb, h1, h2⟩ := I.mod.blt
  exact ⟨mb, h1.keeps I.bk, h2⟩
theorem pmk_sup {a : Expr} {ta : TA} {p pos : Pos} {k : Nat} (T : XTxt X.prog X.K X.mg x C fI) (hr : Room k X.A) (ha : PA X [a] ta) (hg : Gl X x := by rfl)
    (he : starEach (a :: []) X.env = (false, eval a X.env) :: starEach [] X.env := by rfl) (hpl : (backTo pos (starEach [] X.env)).any (·.1) = false := by rfl) :
    PMk X (.Call (.Name x p) [a] [] pos) (tMkX C "what" ta) := by
  intro pins s σ H Q I h
  refine wpAny_Call_Name_kw (ld_glob I hg T.gC ?_ T.nm)
  refine PySem.W.callWith_K (h₀ := X.base) I.ok.mod.kin T.kC (thn (ha.run pos pins s σ H _ I h) fun us s1 hh => ?_) he hpl
  obtain ⟨vs, H1, I1, r1, v, ev, q1⟩ := hh
  subst ev
  refine ⟨I1.kIn, ?_⟩
  cases r1 with
  | cons rv rn =>
    rename_i v' us'
    cases rn
    show wpAny _ _ (call (.ref C) [v']) _ _ _
    have hlim := I1.nolimit
    have hgl := I1.mod.glob.keeps I1.bk
    have hbl := gblt I1
    obtain ⟨hp, g, dr, tk, os⟩ := s1
    refine wpAny_call (sup_made T I1.kIn hlim hgl hbl (by have := hr.dp; omega) fun h' tk' e d M => ?_)
    show MkP X pins σ Q (.ref e) ⟨h', g, dr, tk', os⟩
    obtain ⟨t1, hoe⟩ := M.obj
    have hns := M.ns
    obtain ⟨G', g1, g2⟩ := restrict h' fun b => decide (b ≠ e)
    have gk : ∀ b, b ≠ e → G'.get? b = h'.get? b := fun b hb => g1 b (decide_eq_true hb)
    have ge : G'.get? e = none := g2 e (by simp)
    have old : ∀ b o, hp.get? b = some o → G'.get? b = some o := fun b o q => (gk b (Nat.ne_of_lt (Nat.lt_of_lt_of_le (Heap.lt_size q) M.new))).trans (M.keep b o q)
    have ob : ObjOk X.prog X.w (upd H1 d (.xd [(("what" : Str), v)])) G' d (.xd [(("what" : Str), v)]) :=
      ⟨_, hns.at (fun o q => (gk d M.dne).trans q), fun f => relO_one rv f⟩
    have J : Inv X pins σ (upd H1 d (.xd [(("what" : Str), v)])) ⟨G', g, dr, tk', os⟩ := I1.laid (t' := tk') old M.dbig ob
    refine ⟨e, _, _, ⟨G', g, dr, tk', os⟩, _, .ref C, some d, rfl, J, fun b o q => ?_, ge, hoe, ⟨rfl, rfl⟩, rfl, rfl, ?_, rfl, I1.bare, raises_own T.exC T.tyC, q1 d (I1.hok.fresh M.dbig)⟩
    · by_cases hb : b = e
      · have q' : G'.get? b = some o := q
        rw [hb, ge] at q'; cases q'
      · exact (gk b hb).symm.trans q
    · rw [upd_ne (Ne.symm M.dne)]
      exact I1.hok.fresh M.new
/-- raise C(e) -/
theorem ps_raiseSup {a : Expr} {ta : TA} {W : WX} {p pos pos2 : Pos} {k : Nat} (hc : X.calm = true) (T : XTxt X.prog X.K X.mg x C fI) (hr : Room k X.A) (tk : Takes X W) (ha : PA X [a] ta) (hg : Gl X x := by rfl)
    (he : starEach (a :: []) X.env = (false, eval a X.env) :: starEach [] X.env := by rfl) (hpl : (backTo pos (starEach [] X.env)).any (·.1) = false := by rfl) :
    PS X (.Raise (some (.Call (.Name x p) [a] [] pos)) none pos2) (fun _ σ H => tMkX C "what" ta σ H fun cls d H' => W cls d σ H') := ps_raise hc tk (pmk_sup T hr ha hg he hpl)
theorem pmk_supN {a : Expr} {ta : TA} {p pos : Pos} {k : Nat} (T : XTxt X.prog X.K X.mg x C fI) (hr : Room k X.A) (ha : PA X [a] ta) (hg : Gl X x := by rfl)
    (he : starEach (a :: []) X.env = (false, eval a X.env) :: starEach [] X.env := by rfl) (hpl : (backTo pos (starEach [] X.env)).any (·.1) = false := by rfl) :
    L2N.PMk X (.Call (.Name x p) [a] [] pos) (tMkX C "what" ta) := by
  intro pins s σ H Q I h
  refine wpAny_Call_Name_kw (ld_glob I hg T.gC ?_ T.nm)
  refine PySem.W.callWith_K (h₀ := X.base) I.ok.mod.kin T.kC (thn (ha.run pos pins s σ H _ I h) fun us s1 hh => ?_) he hpl
  obtain ⟨vs, H1, I1, r1, v, ev, q1⟩ := hh
  subst ev
  refine ⟨I1.kIn, ?_⟩
  cases r1 with
  | cons rv rn =>
    rename_i v' us'
    cases rn
    show wpAny _ _ (call (.ref C) [v']) _ _ _
    have hlim := I1.nolimit
    have hgl := I1.mod.glob.keeps I1.bk
    have hbl := gblt I1
    obtain ⟨hp, g, dr, tk, os⟩ := s1
    refine wpAny_call (sup_made T I1.kIn hlim hgl hbl (by have := hr.dp; omega) fun h' tk' e d M => ?_)
    show L2N.MkP X pins σ Q (.ref e) ⟨h', g, dr, tk', os⟩
    obtain ⟨t1, hoe⟩ := M.obj
    have hns := M.ns
    obtain ⟨G', g1, g2⟩ := restrict h' fun b => decide (b ≠ e)
    have gk : ∀ b, b ≠ e → G'.get? b = h'.get? b := fun b hb => g1 b (decide_eq_true hb)
    have ge : G'.get? e = none := g2 e (by simp)
    have old : ∀ b o, hp.get? b = some o → G'.get? b = some o := fun b o q => (gk b (Nat.ne_of_lt (Nat.lt_of_lt_of_le (Heap.lt_size q) M.new))).trans (M.keep b o q)
    have ob : ObjOk X.prog X.w (upd H1 d (.xd [(("what" : Str), v)])) G' d (.xd [(("what" : Str), v)]) :=
      ⟨_, hns.at (fun o q => (gk d M.dne).trans q), fun f => relO_one rv f⟩
    have J : Inv X pins σ (upd H1 d (.xd [(("what" : Str), v)])) ⟨G', g, dr, tk', os⟩ := I1.laid (t' := tk') old M.dbig ob
    refine ⟨e, _, _, ⟨G', g, dr, tk', os⟩, _, .ref C, some d, rfl, J, fun b o q => ?_, ge, hoe, ⟨rfl, rfl, fun vs e => by cases e; rfl⟩, rfl, rfl, ?_, rfl, I1.bare, raises_own T.exC T.tyC, q1 d (I1.hok.fresh M.dbig)⟩
    · by_cases hb : b = e
      · have q' : G'.get? b = some o := q
        rw [hb, ge] at q'; cases q'
      · exact (gk b hb).symm.trans q
    · rw [upd_ne (Ne.symm M.dne)]
      exact I1.hok.fresh M.new
/-- raise C(e) -/
theorem ps_raiseSupN {a : Expr} {ta : TA} {W : WX} {p pos pos2 : Pos} {k : Nat} (hc : X.calm = true) (T : XTxt X.prog X.K X.mg x C fI) (hr : Room k X.A) (tk : L2N.Takes X W) (ha : PA X [a] ta) (hg : Gl X x := by rfl)
    (he : starEach (a :: []) X.env = (false, eval a X.env) :: starEach [] X.env := by rfl) (hpl : (backTo pos (starEach [] X.env)).any (·.1) = false := by rfl) :
    PS X (.Raise (some (.Call (.Name x p) [a] [] pos)) none pos2) (fun _ σ H => tMkX C "what" ta σ H fun cls d H' => W cls d σ H')   := L2N.ps_raise hc tk (pmk_supN T hr ha hg he hpl)
/-- C(e) as a value -/
theorem pe_supV {a : Expr} {ta : TA} {p pos : Pos} {k : Nat} (T : XTxt X.prog X.K X.mg x C fI) (hr : Room k X.A) (ha : PA X [a] ta) (hg : Gl X x := by rfl)
    (he : starEach (a :: []) X.env = (false, eval a X.env) :: starEach [] X.env := by rfl) (hpl : (backTo pos (starEach [] X.env)).any (·.1) = false := by rfl) :
    PE X (.Call (.Name x p) [a] [] pos) (tExV C "what" ta) := by
  refine ⟨fun pins s σ H Q I h => ?_⟩
  refine wpAny_Call_Name_kw (ld_glob I hg T.gC ?_ T.nm)
  refine PySem.W.callWith_K (h₀ := X.base) I.ok.mod.kin T.kC (thn (ha.run pos pins s σ H _ I h) fun us s1 hh => ?_) he hpl
  obtain ⟨vs, H1, I1, r1, v, ev, q1⟩ := hh
  subst ev
  refine ⟨I1.kIn, ?_⟩
  cases r1 with
  | cons rv rn =>
    rename_i v' us'
    cases rn
    show wpAny _ _ (call (.ref C) [v']) _ _ _
    have hlim := I1.nolimit
    have hgl := I1.mod.glob.keeps I1.bk
    have hbl := gblt I1
    obtain ⟨hp, g, dr, tk, os⟩ := s1
    refine wpAny_call (sup_made T I1.kIn hlim hgl hbl (by have := hr.dp; omega) fun h' tk' e d M => ?_)
    obtain ⟨t1, hoe⟩ := M.obj
    have hne : H1 e = none := I1.hok.fresh M.new
    have hnd : H1 d = none := I1.hok.fresh M.dbig
    have nde : ∀ {b : Addr} {o : Obj}, hp.get? b = some o → b ≠ e := fun {b o} z => Nat.ne_of_lt (Nat.lt_of_lt_of_le (Heap.lt_size z) M.new)
    have ndd : ∀ {b : Addr} {o : Obj}, hp.get? b = some o → b ≠ d := fun {b o} z => Nat.ne_of_lt (Nat.lt_of_lt_of_le (Heap.lt_size z) M.dbig)
    have two : ∀ {b : Addr} {o : HO}, H1 b = some o → upd (upd H1 d (.xd [(("what" : Str), v)])) e (exo e C (some d)) b = some o := fun {b o} z => by
      rw [upd_ne (ne_of_none z hne), upd_ne (ne_of_none z hnd)]
      exact z
    have U : Un X.fs [] H1 (upd (upd H1 d (.xd [(("what" : Str), v)])) e (exo e C (some d))) hp h' := {
      keep := fun b u z _ _ _ => M.keep b u z
      slot := fun b u z _ _ _ => ⟨u.slots, M.keep b u z⟩
      free := fun b u z n _ => by rw [upd_ne (nde z), upd_ne (ndd z)]; exact n
      there := fun b u z _ => ⟨u, M.keep b u z⟩
      tups := fun b xs z => two z
      frzs := fun b u xs z => two z
      tbls := fun b ps z => ⟨#[], by rw [two z]; simp⟩ }
    have ok2 : HOk X.prog X.w (upd (upd H1 d (.xd [(("what" : Str), v)])) e (exo e C (some d))) h' := fun b o z => by
      by_cases hb : b = e
      · subst hb
        rw [upd_same] at z
        cases z
        exact exo_ok hoe
      · rw [upd_ne hb] at z
        by_cases hd : b = d
        · subst hd
          rw [upd_same] at z
          cases z
          exact ⟨_, M.ns, fun f => relO_one rv f⟩
        · rw [upd_ne hd] at z
          exact (I1.hok b o z).stay (fun c u _ q => M.keep c u q) (fun c q => two q) fun c xs q => two q
    have J2 : Inv X pins σ (upd (upd H1 d (.xd [(("what" : Str), v)])) e (exo e C (some d))) ⟨h', g, dr, tk', os⟩ := I1.un (t' := tk') U ok2
    exact ⟨.ref e, _, J2, rfl, q1 e d hne hnd M.dne⟩
end
end Sup_what
end L2

set_option Elab.async false
set_option linter.all false
set_option maxRecDepth 100000
set_option maxHeartbeats 4000000
namespace PySem.W
open PySem PySem.Spec PySem.Calls PyProof.Rows
section
variable {prog : Program} {w : World} {A : Around} {E : Value → Shared → Prop} {s : Shared} {K : Frag} {x D : Addr} {ox : Obj}
theorem findObj_dX {C : Addr} {odx : Option Obj} {name : Str} {a g : Value} (hc : (clsIn K C).isSome = true) (ha : findIn K (.ref C) name = some (some a)) (hg : specialIn K a "__get__" = some (some g)) (ht : takesIn K a = some true) : findObj K C odx name = some (.bind g a) := by
  obtain ⟨cd, hc⟩ := Option.isSome_iff_exists.mp hc
  unfold findObj
  rw [hc, Option.bind_some, ha, Option.bind_some]
  simp [hg, ht]
theorem kin_classX {odx : Option Obj} {Q : Option Value → Shared → Prop} (hga : findIn K (.ref D) "__getattribute__" = some (some (.builtin "BaseException.__getattribute__"))) (hgt : findIn K (.ref D) "__getattr__" = some none) (hsub : subIn K (.ref D) (.type "BaseException") = some true)
    (hdct : hasDictIn K D = true) (ha : findIn K (.ref D) "__class__" = some (some (.builtin "object.__class__")))
    (hn : specialIn K (.builtin "object.__class__") "__get__" = some (some (.builtin "getset_descriptor.__get__"))) (htk : takesIn K (.builtin "object.__class__") = some true) (hm : mroIn K D (.type "object") = some true)
    (X : K.In s.heap) (I : InstAt s.heap x ox D odx) (h : Q (some (.ref D)) { s with toks := s.toks + 1 }) : wpAny (model prog w) A (getAttr? (.ref x) "__class__") Q E s := by
  have hf : findObj K D odx "__class__" = some (.bind (.builtin "getset_descriptor.__get__") (.builtin "object.__class__")) := findObj_dX (by obtain ⟨cd, hc, _⟩ := any_some hdct; rw [hc]; rfl) ha hn htk
  obtain ⟨hp, g, d, t, os⟩ := s
  have L0 := I.type (M := model prog w)
  have L1 := looks_findIn (M := model prog w) X hga
  have L2 := looks_findIn (M := model prog w) X hgt
  have L3 := looks_find (M := model prog w) X I hf
  have sub : Looks (model prog w) hp (isInstance (.ref x) (.type "BaseException")) true := L0.andThen (looks_subIn X hsub)
  have hx0 : (false && onTheHeap (Value.builtin "BaseException.__getattribute__")) = false := rfl
  have hx2 : (Value.builtin "BaseException.__getattribute__" == Value.builtin "object.__getattribute__") = false := by decide +kernel
  have hx1 : (onTheHeap (Value.ref D) && Value.builtin "BaseException.__getattribute__" == Value.builtin "object.__getattribute__") = false := by rw [hx2]; rfl
  unfold getAttr? getAttrBy? getAttrBy
  refine wpAny_bind (wpAny_mkText (wpAny_bind (wpAny_attempt (wpAny_holding (wpAny_bind (L0.at (wpAny_bind (L1.at ?_))))))))
  show wpAny _ _ (if (onTheHeap (Value.ref D) && Value.builtin "BaseException.__getattribute__" == Value.builtin "object.__getattribute__") = true then _ else _) _ _ _
  rw [hx1, if_neg Bool.false_ne_true]
  unfold getAttrByItsOwn hookBefore
  refine wpAny_bind ?_
  rw [if_pos (show onTheHeap (Value.ref D) = true from rfl)]
  refine L2.at ?_
  refine wpAny_bind (wpAny_attempt (wpAny_holding ?_))
  unfold callGetattribute
  rw [hx0, if_neg Bool.false_ne_true]
  unfold boundAndCalled
  rw [PySem.F.excAttr_ValueError.ga.bind (.ref x)]
  refine wpAny_bind (wpAny_pure ?_)
  show wpAny _ _ (call (.builtin "BaseException.__getattribute__") [.ref x, .str "__class__" t]) _ _ _
  refine wpAny_call (codeAny_call_builtin PySem.F.excAttr_ValueError.ga.plain PySem.F.entry_bexc_ga ?_)
  refine @check_slot (model prog w) _ _ ⟨hp, g, d, t + 1, os⟩ "BaseException.__getattribute__" "BaseException" "__getattribute__" (.ref x) [.str "__class__" t] [] _ (by decide +kernel) (by decide +kernel) sub (PySem.F.args_bexc_ga (.ref x) (.str "__class__" t)) ?_
  unfold Builtin.«object.__getattribute__»
  refine wpAny_bind (wpAny_of_eq (a := ((Value.ref x : Value), [Value.str "__class__" t])) (by first | rfl | (simp only [slotArgs]; rfl)) ?_)
  refine wpAny_bind (wpAny_pure (wpAny_bind (L0.at (wpAny_bind (L3.at ?_)))))
  show wpAny _ _ (holding [Value.builtin "object.__class__"] (call (.builtin "getset_descriptor.__get__") [.builtin "object.__class__", .ref x, .ref D]) >>= ret) _ _ _
  refine wpAny_bind (wpAny_holding (wpAny_call (class_get (s := ⟨hp, g, d, t + 1, os⟩) (ox := ox) (od := odx) X I hm ?_)))
  refine wpAny_pure ?_
  show wpAny _ _ (handedOut (.ref D)) _ _ _
  rw [handedOut_of (v := .ref D) rfl]
  first
    | exact wpAny_pure (wpAny_pure h)
    | exact wpAny_pure h
    | exact wpAny_pure (wpAny_bind (wpAny_pure (wpAny_pure h)))
theorem kitx_excX {odx : Option Obj} (hga : findIn K (.ref D) "__getattribute__" = some (some (.builtin "BaseException.__getattribute__"))) (hgt : findIn K (.ref D) "__getattr__" = some none) (hsub : subIn K (.ref D) (.type "BaseException") = some true) (hdct : hasDictIn K D = true) (ha : findIn K (.ref D) "__class__" = some (some (.builtin "object.__class__")))
    (hn : specialIn K (.builtin "object.__class__") "__get__" = some (some (.builtin "getset_descriptor.__get__"))) (htk : takesIn K (.builtin "object.__class__") = some true) (hm : mroIn K D (.type "object") = some true) :
    KitX K (.ref x) (.ref D) (fun h => InstAt h x ox D odx) where
  ty := fun _ _ _ I => I.type
  it := fun _ _ X _ => by
    obtain ⟨cdD, hcD, _⟩ := any_some hdct
    unfold clsIn at hcD
    split at hcD
    · rename_i c' d' cd' sl' ho
      intro A' Q' E' s' k q
      unfold isType loadHead
      exact wpAny_bind (wpAny_loadPart (k _ _ (X _ _ ho)) (wpAny_pure q))
    · cases hcD
  ne := fun h tp dd its n sl X htp => by
    obtain ⟨cdD, hcD, _⟩ := any_some hdct
    refine Bool.eq_false_iff.mpr fun q => ?_
    have e : D = tp := Value.ref.inj (beq_iff_eq.mp q)
    subst e
    unfold clsIn at hcD
    split at hcD
    · rename_i c' d' cd' sl' ho
      have z := (X _ _ ho).symm.trans htp
      cases z
    · cases hcD
  ca := fun X I k => kin_classX hga hgt hsub hdct ha hn htk hm X I k
end
end PySem.W
namespace L2
open PySem PySem.Spec PyProof.Rows
/-- an exception object that stands, with its dict -/
def ExT (K : PySem.W.Frag) (H : Hp) (x : V) (t : Value) : Prop := ∃ (a C d : Addr) (fs : List (Str × V)), x = .ref a ∧ t = .ref C ∧ H a = some (exo a C (some d)) ∧ H d = some (.xd fs) ∧ ExcC K C
def KX (K : PySem.W.Frag) (H : Hp) (x : V) (t : Value) : Prop := TyX K H x t ∨ ExT K H x t
def rIsiV (K : PySem.W.Frag) : List V → Hp → VK → Prop := fun xs H Q => ∃ (x c : V) (t u : Value) (b : Bool), xs = [x, c] ∧ ClsV c u ∧ KX K H x t ∧ PySem.W.kitOne K t u = some b ∧ Q (.bl b) H
section
variable {X : Cx}
theorem call_isiV : CallR X (.builtin "isinstance") (rIsiV X.K) := by
  intro pins s σ H xs us Q I r h
  obtain ⟨x, c, t, u, b, rfl, k, ty, e, q⟩ := h
  obtain ⟨u1, u2, rfl, r1, r2⟩ := vals2 r
  have e2 := k.eq r2
  subst e2
  rcases ty with ty | ⟨a, C, d, fs, rfl, rfl, ha, hd, EC⟩
  · obtain ⟨P, Z, p, hx⟩ := kit_of I r1 ty
    exact PySem.W.kia_one Z I.kIn p e hx fun tk => ⟨.bl b, H, I.tok tk, rfl, q⟩
  · cases (show u1 = Value.ref a from r1)
    obtain ⟨t1, ho⟩ := exo_at I.hok ha
    obtain ⟨mA, ⟨od, es, ep, hod, _⟩, _⟩ := (show ObjOk X.prog X.w H s.heap d (.xd fs) from I.hok d _ hd)
    have J : PySem.W.InstAt s.heap a _ C (some od) := ⟨ho, rfl, rfl, hod⟩
    exact PySem.W.kia_one (PySem.W.kitx_excX EC.hg EC.hk EC.hs EC.hd EC.ha EC.hn EC.ht EC.hm) I.kIn J e (fun z => nomatch z) fun tk => ⟨.bl b, H, I.tok tk, rfl, q⟩
end
end L2

set_option Elab.async false
set_option linter.all false
set_option maxRecDepth 100000
set_option maxHeartbeats 2000000
namespace L2
open PySem PySem.Spec PyProof.Rows
section
variable {X : Cx} {CX : CXT} {k : Nat} {f C : Addr} {fd : FuncData} {ps ks : List Str} {sp : Sp} {E : XK} {x m : Str} {p pos : Pos} {kws : List Keyword} {tk : TA} {g : List Value → List Value → List Value} {gV : List V → List V → List V}
/-- f(k = v, ..): keywords alone -/
theorem pe_kw0 (F : FnOk X.prog X.w X.K X.mg X.base CX k f fd ps sp) (hr : Room k X.A) (hg : Gl X x) (hm : X.mg x = some (.ref f)) (hk : PySem.W.keepIn X.K (.ref f) = true) (hb : KBinds X.K fd ps ks g gV) (hx : Passes CX X E)
    (hkw : PK X kws tk) (hall : (backToKw pos (keywordEach kws X.env)).all (·.1.isSome) = true := by rfl) (hks : (backToKw pos (keywordEach kws X.env)).filterMap (·.1) = ks := by rfl) (hdb : (x == ("__debug__" : Str)) = false := by decide)
    (hpl : ((backTo pos (starEach [] X.env)).any (·.1) || (backToKw pos (keywordEach kws X.env)).any (·.1.isNone)) = false := by rfl) :
    PE X (.Call (.Name x p) [] kws pos) (tCallK sp gV E tNil tk) := by
  refine ⟨fun pins s σ H Q I h => ?_⟩
  refine wpAny_Call_Name_kw (ld_glob I hg hm ?_ hdb)
  refine PySem.W.callWith_KW0 (h₀ := X.base) I.ok.mod.kin hk hall (thn (hkw.run pos pins s σ H _ I h) fun ws s2 ⟨zs, H2, I2, rz, q2⟩ => ⟨I2.kIn, ?_⟩) hpl
  rw [hks]
  exact run_fnk (us := []) (vs := []) F hr hb hx I2 .nil rz q2
end
section
variable {X : Cx} {CX : CXT} {k : Nat} {f C : Addr} {fd : FuncData} {ps ks : List Str} {sp : Sp} {E : L2.St → XK} {x m : Str} {p pos : Pos} {kws : List Keyword} {tk : TA} {g : List Value → List Value → List Value} {gV : List V → List V → List V}
def tCallKS (sp : Sp) (gV : List V → List V → List V) (E : L2.St → XK) (tk : TA) : TE := fun σ H Q => tk σ H fun zs H2 => sp (gV [] zs) H2 Q (E σ)
/-- f(k = v, ..) that may raise, the wish at the caller's slots -/
theorem pe_kwS0 (F : FnOk X.prog X.w X.K X.mg X.base CX k f fd ps sp) (hr : Room k X.A) (hg : Gl X x) (hm : X.mg x = some (.ref f)) (hk : PySem.W.keepIn X.K (.ref f) = true) (hb : KBinds X.K fd ps ks g gV) (hx : ∀ σ, PassesAt CX X σ (E σ))
    (hkw : PK X kws tk) (hall : (backToKw pos (keywordEach kws X.env)).all (·.1.isSome) = true := by rfl) (hks : (backToKw pos (keywordEach kws X.env)).filterMap (·.1) = ks := by rfl) (hdb : (x == ("__debug__" : Str)) = false := by decide)
    (hpl : ((backTo pos (starEach [] X.env)).any (·.1) || (backToKw pos (keywordEach kws X.env)).any (·.1.isNone)) = false := by rfl) :
    PE X (.Call (.Name x p) [] kws pos) (tCallKS sp gV E tk) := by
  refine ⟨fun pins s σ H Q I h => ?_⟩
  refine wpAny_Call_Name_kw (ld_glob I hg hm ?_ hdb)
  refine PySem.W.callWith_KW0 (h₀ := X.base) I.ok.mod.kin hk hall (thn (hkw.run pos pins s σ H _ I h) fun ws s2 ⟨zs, H2, I2, rz, q2⟩ => ⟨I2.kIn, ?_⟩) hpl
  rw [hks]
  have r2 := hb.rel (vs := []) (us := []) .nil rz
  have hl : (g [] ws).length = ps.length := by rw [← r2.length]; exact F.len _ _ _ _ q2
  refine wpAny_call (codeAny_mono (F.run X.A X.stack s2 H2 ⟨[], ks.zip ws⟩ (g [] ws) (gV [] zs) Q (E σ) hr I2.env0 (hb.to s2 [] ws I2.kIn hl) r2 q2) fun r s' hq => ?_)
  cases r with
  | error e => exact hx σ pins H2 s2 e s' I2 hq
  | ok fl =>
    cases fl with
    | ret u => exact I2.after hq
    | next => exact False.elim hq
    | brk => exact False.elim hq
    | cont => exact False.elim hq
end
section
variable {X : Cx}
/-- // by any divisor but nought, not too long -/
def CDivV (_ j : Int) : Prop := j ≠ 0 ∧ j.natAbs.log2 < 9000
theorem op_fdivV : OpR X (binaryOp .FloorDiv) (rI CDivV fun i j => .int (i.fdiv j)) := opI fun _ _ _ _ _ _ _ hc q => floordiv_int hc.1 q (.inl (PyProof.noPylong_of_log2 hc.2))
end
end L2
namespace L2
open PySem PySem.Spec PyProof.Rows
theorem passN {X : Cx} : Passes (L2N.CX X.prog X.w) X E0 := fun _ _ _ _ _ _ _ h => by
  obtain ⟨_, _, _, _, _, _, _, _, _, _, _, _, z⟩ := h
  exact z.elim
theorem passH {X : Cx} {σ : L2.St} {E : XK} : PassesAt CX0 X σ E := fun _ _ _ _ _ _ h => h.elim
theorem takesN0 {X : Cx} : L2N.Takes X (fun _ _ _ _ => False) := fun _ _ x => by
  obtain ⟨_, _, _, _, _, _, _, _, _, _, _, _, _, _, _, _, z⟩ := x
  exact z.elim
theorem hotS {X : Cx} {a : Addr} {oe : Obj} {cls : Value} {d : Option Addr} {pn : List (Addr × Obj)} (hz : L2N.Zn cls d oe) (hf : ∃ vs, oe.data = .fields vs) : L2H.HotC (X.suite a ((a, oe) :: pn)) := by
  obtain ⟨vs, e⟩ := hf
  exact ⟨(a, oe), ⟨rfl, vs, e, hz.2.2 vs e⟩, List.mem_cons_self⟩
theorem roomS {X : Cx} {k : Nat} {a : Addr} {pn : List (Addr × Obj)} (r : Room k X.A) : L2H.RoomH k (X.suite a pn).A := ⟨r.dp, r.un⟩
section
variable {P : Program} {w : World} {K : PySem.W.Frag} {mg : Str → Option Value} {base : Heap}
/-- a def that may raise, the exception's context none -/
theorem Fun.okN {x qual : Str} {st : Stmt} {f : Addr} {fd : FuncData} {N ps : List Str} {k : Nat} {sp : Sp} (F : Fun K x qual st f fd) (S : FnScope N ps (defScope st)) (len : ∀ vs H Q E, sp vs H Q E → vs.length = ps.length)
    (hbody : ∀ (cdv : Value) (A : Around) (outer : List Env) (s : Shared) (H : Hp) (vs : List V) (Q : VK) (E : XK), Room k (A.deeper (envOfC qual (defScope st) s.heap.objs.size f cdv)) → sp vs H Q E →
      ∃ t, PSs (cxOf (L2N.CX P w) P w K mg base N qual (defScope st) f cdv A outer s H E) (defBody st) t ∧ t { nx := fun _ H' => Q .non H', rt := Q } (start N vs) H) : FnOk P w K mg base (L2N.CX P w) (k + 1) f fd ps sp := by
  obtain ⟨oc, od, kV, doc, pm, an, cdv, ct, osl, rfl, lk, hcd⟩ := F.ex
  exact fn_of lk hcd S len fun A outer s H vs Q E hr hsp => hbody cdv A outer s H vs Q E hr hsp
/-- a def called where an exception is handled -/
theorem Fun.okH {CX : CXT} {x qual : Str} {st : Stmt} {f : Addr} {fd : FuncData} {N ps : List Str} {k : Nat} {sp : Sp} (F : Fun K x qual st f fd) (S : FnScope N ps (defScope st)) (len : ∀ vs H Q E, sp vs H Q E → vs.length = ps.length)
    (hbody : ∀ (cdv : Value) (A : Around) (outer : List Env) (s : Shared) (H : Hp) (vs : List V) (Q : VK) (E : XK) (p : Addr × Obj), L2H.RoomH k (A.deeper (envOfC qual (defScope st) s.heap.objs.size f cdv)) → sp vs H Q E →
      ∃ t, PSs (L2H.cxH CX P w K mg base N qual (defScope st) f cdv A outer s H E p) (defBody st) t ∧ t { nx := fun _ H' => Q .non H', rt := Q } (start N vs) H) : L2H.FnH P w K mg base CX (k + 1) f fd ps sp := by
  obtain ⟨oc, od, kV, doc, pm, an, cdv, ct, osl, rfl, lk, hcd⟩ := F.ex
  exact L2H.fn_ofH lk hcd S len fun A outer s H vs Q E p _ hr hsp => hbody cdv A outer s H vs Q E p hr hsp
end
end L2
namespace Sx
open PySem L2
abbrev St := L2.St
theorem Same.up {H H' : Hp} {a : Addr} {o : HO} (e : Same H H') (h : H a = some o) : H' a = some o := e _ _ h
/-- all but what stands at a is as it was -/
def Keep (a : Addr) (H H' : Hp) : Prop := ∀ b o, b ≠ a → H b = some o → H' b = some o
theorem Keep.up {c : Addr} {H H' : Hp} {a : Addr} {o : HO} (e : Keep c H H') (n : a ≠ c) (h : H a = some o) : H' a = some o := e _ _ n h
theorem Keep.refl (a : Addr) (H : Hp) : Keep a H H := fun _ _ _ h => h
theorem Keep.trans {a : Addr} {H H1 H2 : Hp} (e : Keep a H H1) (f : Keep a H1 H2) : Keep a H H2 := fun b o n h => f b o n (e b o n h)
theorem Keep.same {a : Addr} {H H1 : Hp} (e : Same H H1) : Keep a H H1 := fun b o _ h => e b o h
theorem Keep.put {a : Addr} {H H1 : Hp} {o : HO} (e : Keep a H H1) : Keep a H (upd H1 a o) := fun b o n h => by
  rw [upd_ne n]
  exact e b o n h
theorem Same.new {H : Hp} {p : Addr} {o : HO} (h : H p = none) : Same H (upd H p o) := fun a u e => by
  rw [upd_ne (ne_of_none e h)]
  exact e
theorem Same.put {a : Addr} {H H1 : Hp} {o : HO} (e : Same H H1) (n : H a = none) : Same H (upd H1 a o) := fun b u h => by
  rw [upd_ne (ne_of_none h n)]
  exact e b u h
/-- a keeping but at a place that was free ahead -/
theorem Keep.toSame {a : Addr} {H H1 H2 : Hp} (e : Same H H1) (n : H a = none) (f : Keep a H1 H2) : Same H H2 := fun b o h => f b o (ne_of_none h n) (e b o h)
theorem Keep.free {a b : Addr} {H H' : Hp} (e : Keep a H H') (n : b ≠ a) (h : H' b = none) : H b = none := by
  cases q : H b with
  | none => rfl
  | some o =>
    rw [e b o n q] at h
    cases h
theorem same_free {H H' : Hp} (e : Same H H') {l : Addr} (h : H' l = none) : H l = none := L2.Same.free e h
section
variable {K : PySem.W.Frag} {σ : St} {H : Hp} {Q : VK} {D : Ends} {t u : TS} {te ta tb tx : TE} {tt tu : TT} {r : R2} {x y z v w : V} {nx : St → Hp → Prop} {xs ys : List V}
theorem s_seq (h : t { D with nx := u D } σ H) : tSeq t u D σ H := h
theorem s_next (h : D.nx σ H) : tNext D σ H := h
theorem s_brk (h : D.bk σ H) : tBreak D σ H := h
theorem s_cont (h : D.ct σ H) : tCont D σ H := h
theorem s_asg {g : TG} (h : te σ H fun x H1 => g x σ H1 D.nx) : tAsg te g D σ H := h
theorem s_name {i : Nat} (h : nx (σ.set i (some v)) H) : gName i v σ H nx := h
theorem s_drop (h : te σ H fun _ H1 => D.nx σ H1) : tDrop te D σ H := h
theorem s_ret (h : te σ H D.rt) : tRet te D σ H := h
theorem s_ifS (h : tt σ H fun b H1 => if b = true then t D σ H1 else u D σ H1) : tIfS tt t u D σ H := h
theorem s_var {i : Nat} (h : σ[i]? = some (some v)) (q : Q v H) : tVar i σ H Q := ⟨v, h, q⟩
theorem s_c (q : Q v H) : tC v σ H Q := q
theorem s_op (h : ta σ H fun x H1 => tb σ H1 fun y H2 => r x y H2 Q) : tOp r ta tb σ H Q := h
theorem s_un {r : V → Hp → VK → Prop} (h : ta σ H fun x H1 => r x H1 Q) : tUn r ta σ H Q := h
variable {R : Bool → Hp → Prop}
theorem s_test (h : te σ H fun x H' => ∃ k, x = .bl k ∧ R k H') : tTest te σ H R := h
theorem s_tB (h : te σ H fun x H' => ∃ k, x = .bl k ∧ R k H') : tB te σ H R := h
theorem s_tT (h : te σ H fun x H' => ∃ k, x = .bl k ∧ R k H') : tTest te σ H R := h
theorem s_bl {k : Bool} (h : R k H) : ∃ k', V.bl k = V.bl k' ∧ R k' H := ⟨k, rfl, h⟩
theorem s_and (h : tt σ H fun c H1 => if c = true then tu σ H1 R else R false H1) : tAnd tt tu σ H R := h
theorem s_or (h : tt σ H fun c H1 => if c = true then R true H1 else tu σ H1 R) : tOr tt tu σ H R := h
theorem s_not (h : tt σ H fun c H1 => R (!c) H1) : tNot tt σ H R := h
theorem s_andV (h : ta σ H fun x H1 => ∃ c, x = .bl c ∧ if c = true then tb σ H1 Q else Q (.bl false) H1) : tAndV ta tb σ H Q := h
theorem s_orV (h : ta σ H fun x H1 => ∃ c, x = .bl c ∧ if c = true then Q (.bl true) H1 else tb σ H1 Q) : tOrV ta tb σ H Q := h
theorem s_notV (h : ta σ H fun x H1 => ∃ c, x = .bl c ∧ Q (.bl (!c)) H1) : tNotV ta σ H Q := h
theorem s_blV {k : Bool} {P : Bool → Prop} (h : P k) : ∃ k', V.bl k = V.bl k' ∧ P k' := ⟨k, rfl, h⟩
theorem s_if (h : tt σ H fun c H1 => if c = true then ta σ H1 Q else tb σ H1 Q) : tIf tt ta tb σ H Q := h
theorem s_cb {r : List V → Hp → VK → Prop} {t : TA} (h : t σ H fun vs H1 => r vs H1 Q) : tCB r t σ H Q := h
theorem s_call {sp : Sp} {dvs : List V} {E : XK} {t : TA} (h : t σ H fun vs H1 => sp (vs ++ dvs) H1 Q E) : tCall sp dvs E t σ H Q := h
theorem s_callK {sp : Sp} {gV : List V → List V → List V} {E : XK} {t tk : TA} (h : t σ H fun vs H1 => tk σ H1 fun zs H2 => sp (gV vs zs) H2 Q E) : tCallK sp gV E t tk σ H Q := h
theorem s_nil {P : List V → Hp → Prop} (h : P [] H) : tNil σ H P := h
theorem s_cons {ta : TE} {tr : TA} {P : List V → Hp → Prop} (h : ta σ H fun x H1 => tr σ H1 fun xs H2 => P (x :: xs) H2) : tCons ta tr σ H P := h
theorem s_tup {t : TA} (h : t σ H fun xs H1 => xs.length ≤ sizeLine ∧ ∀ p, H1 p = none → Q (.ref p) (upd H1 p (.tup xs))) : tTup t σ H Q := h
theorem s_lst {t : TA} (h : t σ H fun xs H1 => xs.length ≤ sizeLine ∧ ∀ p, H1 p = none → Q (.ref p) (upd H1 p (.lst xs))) : tLst t σ H Q := h
theorem new_same {H H2 : Hp} {p : Addr} {o : HO} (n : H p = none) (e : upd H p o = H2) : Same H H2 := by
  subst e
  exact Same.new n
theorem new_at {H H2 : Hp} {p : Addr} {o : HO} (e : upd H p o = H2) : H2 p = some o := by
  subst e
  exact upd_same
theorem put_keep {H H2 : Hp} {p : Addr} {o : HO} (e : upd H p o = H2) : Keep p H H2 := by
  subst e
  exact Keep.put (Keep.refl p H)
theorem c_mul_r {i j : Int} (a : -(2 ^ 64) < j) (b : j < 2 ^ 64) : CMul i j := .inr ⟨a, b⟩
theorem c_mul_l {i j : Int} (a : -(2 ^ 64) < i) (b : i < 2 ^ 64) : CMul i j := .inl ⟨a, b⟩
theorem c_div {i j : Int} (a : 0 < j) (b : j < 1073741824) : CDiv i j := ⟨a, b⟩
theorem c_pow {i j : Int} (a : 0 ≤ j) (b : j ≤ 1000000) (c : i.natAbs < 2 ^ 64) : CPow i j := ⟨a, b, c⟩
-- operators on values
theorem r_I0 {g : Int → Int → V} {i j : Int} (q : Q (g i j) H) : rI0 g (.int i) (.int j) H Q := ⟨i, j, rfl, rfl, q⟩
theorem r_I {C : Int → Int → Prop} {g : Int → Int → V} {i j : Int} (c : C i j) (q : Q (g i j) H) : rI C g (.int i) (.int j) H Q := ⟨i, j, rfl, rfl, c, q⟩
theorem r_U {g : Int → V} {i : Int} (q : Q (g i) H) : rU g (.int i) H Q := ⟨i, rfl, q⟩
theorem r_eq (h : scal x y = true) (q : Q (.bl (decide (x = y))) H) : rEq x y H Q := ⟨h, q⟩
theorem r_ne (h : scal x y = true) (q : Q (.bl (!decide (x = y))) H) : rNe x y H Q := ⟨h, q⟩
theorem v_int_eq {i j : Int} : decide (V.int i = V.int j) = decide (i = j) := by
  by_cases h : i = j
  · rw [h]; simp
  · simp [h]
theorem r_eqI {i j : Int} (q : Q (.bl (decide (i = j))) H) : rEq (.int i) (.int j) H Q := ⟨rfl, by rw [v_int_eq]; exact q⟩
theorem r_neI {i j : Int} (q : Q (.bl (!decide (i = j))) H) : rNe (.int i) (.int j) H Q := ⟨rfl, by rw [v_int_eq]; exact q⟩
theorem r_isB {a b : Bool} (q : Q (.bl (decide (a = b))) H) : rIsB (.bl a) (.bl b) H Q := ⟨a, b, rfl, rfl, q⟩
theorem r_notB {a b : Bool} (q : Q (.bl (!decide (a = b))) H) : rNotB (.bl a) (.bl b) H Q := ⟨a, b, rfl, rfl, q⟩
theorem r_ixL {p : Addr} {i : Int} (h : H p = some (.lst xs)) (a : atI xs i = some v) (q : Q v H) : rIx K (.ref p) (.int i) H Q := .inl ⟨p, xs, i, v, rfl, rfl, SqL.of h, a, q⟩
theorem r_ixT {p : Addr} {i : Int} (h : H p = some (.tup xs)) (a : atI xs i = some v) (q : Q v H) : rIx K (.ref p) (.int i) H Q := .inr (.inl ⟨p, xs, i, v, rfl, rfl, SqT.of h, a, q⟩)
def IxG : List V → Int → (V → Prop) → Prop
  | [], _, _ => False
  | a :: r, i, P => (i = 0 → P a) ∧ (i ≠ 0 → IxG r (i - 1) P)
theorem ig_cons {a : V} {r : List V} {i : Int} {P : V → Prop} (h1 : i = 0 → P a) (h2 : i ≠ 0 → IxG r (i - 1) P) : IxG (a :: r) i P := ⟨h1, h2⟩
theorem ig_nil {i : Int} {P : V → Prop} (h : False) : IxG [] i P := h
theorem IxG.get : ∀ {xs : List V} {n : Nat} {P : V → Prop}, IxG xs (n : Int) P → ∃ v, xs[n]? = some v ∧ P v
  | [], _, _, h => h.elim
  | a :: r, 0, P, h => ⟨a, rfl, h.1 rfl⟩
  | a :: r, n + 1, P, h => by
    have h2 := h.2 (by omega)
    have e : ((n + 1 : Nat) : Int) - 1 = (n : Int) := by omega
    rw [e] at h2
    obtain ⟨v, h3, h4⟩ := IxG.get h2
    exact ⟨v, by simpa using h3, h4⟩
theorem r_ixG {p : Addr} {i : Int} (h : H p = some (.lst xs)) (hi : 0 ≤ i) (q : IxG xs i fun v => Q v H) : rIx K (.ref p) (.int i) H Q := by
  obtain ⟨n, rfl⟩ := Int.eq_ofNat_of_zero_le hi
  obtain ⟨v, h1, h2⟩ := IxG.get q
  exact .inl ⟨p, xs, _, v, rfl, rfl, SqL.of h, atI_nat h1, h2⟩
theorem r_ixGT {p : Addr} {i : Int} (h : H p = some (.tup xs)) (hi : 0 ≤ i) (q : IxG xs i fun v => Q v H) : rIx K (.ref p) (.int i) H Q := by
  obtain ⟨n, rfl⟩ := Int.eq_ofNat_of_zero_le hi
  obtain ⟨v, h1, h2⟩ := IxG.get q
  exact .inr (.inl ⟨p, xs, _, v, rfl, rfl, SqT.of h, atI_nat h1, h2⟩)
theorem r_ixS {p : Addr} {i : Int} (h : SqL K H p xs) (a : atI xs i = some v) (q : Q v H) : rIx K (.ref p) (.int i) H Q := .inl ⟨p, xs, i, v, rfl, rfl, h, a, q⟩
theorem r_setL {p : Addr} {i : Int} {j : Nat} {P : Hp → Prop} (h : H p = some (.lst xs)) (a : ixN xs.length i = some j) (q : ∀ H2, Keep p H H2 → H2 p = some (.lst (xs.set j v)) → P H2) : rSetL (.ref p) (.int i) v H P := ⟨p, xs, i, j, rfl, rfl, h, a, q _ (Keep.put (Keep.refl p H)) upd_same⟩
theorem s_sub {to ti : TE} {ts : TSet} (h : to σ H fun o H1 => ti σ H1 fun i H2 => ts o i v H2 fun H3 => nx σ H3) : gSub to ti ts v σ H nx := h
theorem r_app {p : Addr} (h : H p = some (.lst xs)) (l : xs.length < sizeLine) (q : ∀ H2, Keep p H H2 → H2 p = some (.lst (xs ++ [y])) → Q .non H2) : rAppend (.ref p) [y] H Q := ⟨p, xs, y, rfl, rfl, h, l, q _ (Keep.put (Keep.refl p H)) upd_same⟩
theorem s_bm {T : String} {r : V → List V → Hp → VK → Prop} {to : TE} {t : TA} (h : to σ H fun x H1 => tyV K T x H1 ∧ t σ H1 fun xs H2 => r x xs H2 Q) : tBM K T r to t σ H Q := h
theorem ty_list {p : Addr} {P : Prop} (h : H p = some (.lst xs)) (q : P) : tyV K "list" (.ref p) H ∧ P := ⟨.inl ⟨rfl, _, SqL.of h⟩, q⟩
theorem r_gcd {a b : Int} (q : Q (.int ((Nat.gcd a.natAbs b.natAbs : Nat) : Int)) H) : rGcd [.int a, .int b] H Q := ⟨a, b, rfl, q⟩
theorem r_all {p : Addr} {bs : List Bool} (h : H p = some (.lst (bs.map V.bl))) (q : Q (.bl (bs.all id)) H) : rAll K [.ref p] H Q := ⟨p, bs, rfl, SqL.of h, q⟩
theorem i_T {c : Prop} [Decidable c] {A B : Prop} (hc : c) (h : A) : if decide c = true then A else B := by
  rw [if_pos (decide_eq_true hc)]; exact h
theorem i_F {c : Prop} [Decidable c] {A B : Prop} (hc : ¬ c) (h : B) : if decide c = true then A else B := by
  rw [if_neg (by simp [hc])]; exact h
theorem i_2 {c : Prop} [Decidable c] {A B : Prop} (h1 : c → A) (h2 : ¬ c → B) : if decide c = true then A else B := by
  by_cases h : c
  · exact i_T h (h1 h)
  · exact i_F h (h2 h)
theorem i_n2 {c : Prop} [Decidable c] {A B : Prop} (h1 : ¬ c → A) (h2 : c → B) : if (!decide c) = true then A else B := by
  by_cases h : c
  · rw [if_neg (by simp [h])]; exact h2 h
  · rw [if_pos (by simp [h])]; exact h1 h
theorem i_b2 {b : Bool} {A B : Prop} (h1 : b = true → A) (h2 : b = false → B) : if b = true then A else B := by
  cases b
  · exact iteF (h2 rfl)
  · exact iteT (h1 rfl)
theorem i_nb2 {b : Bool} {A B : Prop} (h1 : b = false → A) (h2 : b = true → B) : if (!b) = true then A else B := by
  cases b
  · exact iteT (h1 rfl)
  · exact iteF (h2 rfl)
theorem i_t {A B : Prop} (h : A) : if true = true then A else B := iteT h
theorem i_f {A B : Prop} (h : B) : if false = true then A else B := iteF h
theorem i_nt {A B : Prop} (h : B) : if (!true) = true then A else B := iteF h
theorem i_nf {A B : Prop} (h : A) : if (!false) = true then A else B := iteT h
end
end Sx

set_option Elab.async false
set_option linter.all false
set_option maxRecDepth 100000
set_option maxHeartbeats 2000000
namespace Sx
open PySem L2
/-- what a class of errors is not -/
structure ExK (K : PySem.W.Frag) (C : Addr) : Prop where
  ec : ExcC K C
  ni : PySem.W.subIn K (.ref C) (.type "int") = some false
  nb : PySem.W.subIn K (.ref C) (.type "bool") = some false
  nt : PySem.W.subIn K (.ref C) (.type "tuple") = some false
  ns : PySem.W.subIn K (.ref C) (.type "str") = some false
  nl : PySem.W.subIn K (.ref C) (.type "list") = some false
/-- a value whose kind is known; every address of it is in B -/
inductive Kn (K : PySem.W.Frag) (H : Hp) (B : Addr → Prop) : V → Prop where
  | non : Kn K H B .non
  | bl (b : Bool) : Kn K H B (.bl b)
  | int (i : Int) : Kn K H B (.int i)
  | str (s : Str) : Kn K H B (.str s)
  | lst {p : Addr} {xs : List V} (h : H p = some (.lst xs)) (b : B p) : Kn K H B (.ref p)
  | tup {p : Addr} {xs : List V} (h : H p = some (.tup xs)) (b : B p) : Kn K H B (.ref p)
  | exc {a C d : Addr} {fs : List (Str × V)} (ha : H a = some (exo a C (some d))) (hd : H d = some (.xd fs)) (e : ExK K C) (ba : B a) (bd : B d) : Kn K H B (.ref a)
theorem Kn.up {K : PySem.W.Frag} {H H' : Hp} {B B' : Addr → Prop} {v : V} (k : Kn K H B v) (hB : ∀ b, B b → B' b) (hk : ∀ b o, B b → H b = some o → H' b = some o) : Kn K H' B' v := by
  cases k with
  | non => exact .non
  | bl b => exact .bl b
  | int i => exact .int i
  | str s => exact .str s
  | lst h b => exact .lst (hk _ _ b h) (hB _ b)
  | tup h b => exact .tup (hk _ _ b h) (hB _ b)
  | exc ha hd e ba bd => exact .exc (hk _ _ ba ha) (hk _ _ bd hd) e (hB _ ba) (hB _ bd)
def isI : V → Bool | .int _ => true | _ => false
def isB : V → Bool | .bl _ => true | _ => false
def isS : V → Bool | .str _ => true | _ => false
def tO : Option HO → Bool | some (.tup _) => true | _ => false
def lO : Option HO → Bool | some (.lst _) => true | _ => false
def isT (H : Hp) : V → Bool | .ref p => tO (H p) | _ => false
def isL (H : Hp) : V → Bool | .ref p => lO (H p) | _ => false
theorem isT_of {H : Hp} {p : Addr} {o : HO} (h : H p = some o) : isT H (.ref p) = tO (some o) := by
  show tO (H p) = _
  rw [h]
theorem isL_of {H : Hp} {p : Addr} {o : HO} (h : H p = some o) : isL H (.ref p) = lO (some o) := by
  show lO (H p) = _
  rw [h]
theorem isT_inv {H : Hp} {v : V} (h : isT H v = true) : ∃ p xs, v = .ref p ∧ H p = some (.tup xs) := by
  cases v with
  | ref p =>
    have h' : tO (H p) = true := h
    cases e : H p with
    | none =>
      rw [e] at h'
      cases h'
    | some o =>
      rw [e] at h'
      cases o with
      | tup xs => exact ⟨p, xs, rfl, e⟩
      | _ => cases h'
  | _ => cases h
section
variable {K : PySem.W.Frag} {H : Hp} {B : Addr → Prop} {v : V} {Q : VK}
theorem kit_exc {C : Addr} {T : String} {b : Bool} (h : PySem.W.subIn K (.ref C) (.type T) = some b) (m : PySem.W.kitMeta T = true) : PySem.W.kitOne K (.ref C) (.type T) = some b := by
  unfold PySem.W.kitOne
  rw [if_neg (by intro z; exact nomatch z)]
  show (if PySem.W.kitMeta T = true then PySem.W.subIn K (.ref C) (.type T) else none) = some b
  rw [if_pos m, h]
theorem isi_go {T n : String} {ty : Value} {b : Bool} (k : KX K H v ty) (e : PySem.W.kitOne K ty (.type T) = some b) (q : Q (.bl b) H) : rIsiV K [v, .ty T] H Q := ⟨v, .ty T, ty, .type T, b, rfl, .ty T, k, e, q⟩
theorem c_isiI (k : Kn K H B v) (q : Q (.bl (isI v || isB v)) H) : rIsiV K [v, .ty "int"] H Q := by
  cases k with
  | non => exact ⟨_, _, _, _, false, rfl, .ty _, .inl (.base .non), kit_ty (by decide +kernel), q⟩
  | bl b => exact ⟨_, _, _, _, true, rfl, .ty _, .inl (.base (.bl b)), kit_ty (by decide +kernel), q⟩
  | int i => exact ⟨_, _, _, _, true, rfl, .ty _, .inl (.base (.int i)), kit_ty (by decide +kernel), q⟩
  | str s => exact ⟨_, _, _, _, false, rfl, .ty _, .inl (.base (.str s)), kit_ty (by decide +kernel), q⟩
  | lst h _ => exact ⟨_, _, _, _, false, rfl, .ty _, .inl (.base (.lst h)), kit_ty (by decide +kernel), q⟩
  | tup h _ => exact ⟨_, _, _, _, false, rfl, .ty _, .inl (.base (.tup h)), kit_ty (by decide +kernel), q⟩
  | exc ha hd e _ _ => exact ⟨_, _, _, _, false, rfl, .ty _, .inr ⟨_, _, _, _, rfl, rfl, ha, hd, e.ec⟩, kit_exc e.ni (by decide +kernel), q⟩
theorem c_isiB (k : Kn K H B v) (q : Q (.bl (isB v)) H) : rIsiV K [v, .ty "bool"] H Q := by
  cases k with
  | non => exact ⟨_, _, _, _, false, rfl, .ty _, .inl (.base .non), kit_ty (by decide +kernel), q⟩
  | bl b => exact ⟨_, _, _, _, true, rfl, .ty _, .inl (.base (.bl b)), kit_ty (by decide +kernel), q⟩
  | int i => exact ⟨_, _, _, _, false, rfl, .ty _, .inl (.base (.int i)), kit_ty (by decide +kernel), q⟩
  | str s => exact ⟨_, _, _, _, false, rfl, .ty _, .inl (.base (.str s)), kit_ty (by decide +kernel), q⟩
  | lst h _ => exact ⟨_, _, _, _, false, rfl, .ty _, .inl (.base (.lst h)), kit_ty (by decide +kernel), q⟩
  | tup h _ => exact ⟨_, _, _, _, false, rfl, .ty _, .inl (.base (.tup h)), kit_ty (by decide +kernel), q⟩
  | exc ha hd e _ _ => exact ⟨_, _, _, _, false, rfl, .ty _, .inr ⟨_, _, _, _, rfl, rfl, ha, hd, e.ec⟩, kit_exc e.nb (by decide +kernel), q⟩
theorem c_isiS (k : Kn K H B v) (q : Q (.bl (isS v)) H) : rIsiV K [v, .ty "str"] H Q := by
  cases k with
  | non => exact ⟨_, _, _, _, false, rfl, .ty _, .inl (.base .non), kit_ty (by decide +kernel), q⟩
  | bl b => exact ⟨_, _, _, _, false, rfl, .ty _, .inl (.base (.bl b)), kit_ty (by decide +kernel), q⟩
  | int i => exact ⟨_, _, _, _, false, rfl, .ty _, .inl (.base (.int i)), kit_ty (by decide +kernel), q⟩
  | str s => exact ⟨_, _, _, _, true, rfl, .ty _, .inl (.base (.str s)), kit_ty (by decide +kernel), q⟩
  | lst h _ => exact ⟨_, _, _, _, false, rfl, .ty _, .inl (.base (.lst h)), kit_ty (by decide +kernel), q⟩
  | tup h _ => exact ⟨_, _, _, _, false, rfl, .ty _, .inl (.base (.tup h)), kit_ty (by decide +kernel), q⟩
  | exc ha hd e _ _ => exact ⟨_, _, _, _, false, rfl, .ty _, .inr ⟨_, _, _, _, rfl, rfl, ha, hd, e.ec⟩, kit_exc e.ns (by decide +kernel), q⟩
theorem c_isiT (k : Kn K H B v) (q : Q (.bl (isT H v)) H) : rIsiV K [v, .ty "tuple"] H Q := by
  cases k with
  | non => exact ⟨_, _, _, _, false, rfl, .ty _, .inl (.base .non), kit_ty (by decide +kernel), q⟩
  | bl b => exact ⟨_, _, _, _, false, rfl, .ty _, .inl (.base (.bl b)), kit_ty (by decide +kernel), q⟩
  | int i => exact ⟨_, _, _, _, false, rfl, .ty _, .inl (.base (.int i)), kit_ty (by decide +kernel), q⟩
  | str s => exact ⟨_, _, _, _, false, rfl, .ty _, .inl (.base (.str s)), kit_ty (by decide +kernel), q⟩
  | lst h _ => exact ⟨_, _, _, _, false, rfl, .ty _, .inl (.base (.lst h)), kit_ty (by decide +kernel), by rw [isT_of h] at q; exact q⟩
  | tup h _ => exact ⟨_, _, _, _, true, rfl, .ty _, .inl (.base (.tup h)), kit_ty (by decide +kernel), by rw [isT_of h] at q; exact q⟩
  | exc ha hd e _ _ => exact ⟨_, _, _, _, false, rfl, .ty _, .inr ⟨_, _, _, _, rfl, rfl, ha, hd, e.ec⟩, kit_exc e.nt (by decide +kernel), by rw [isT_of ha] at q; exact q⟩
theorem c_isiL (k : Kn K H B v) (q : Q (.bl (isL H v)) H) : rIsiV K [v, .ty "list"] H Q := by
  cases k with
  | non => exact ⟨_, _, _, _, false, rfl, .ty _, .inl (.base .non), kit_ty (by decide +kernel), q⟩
  | bl b => exact ⟨_, _, _, _, false, rfl, .ty _, .inl (.base (.bl b)), kit_ty (by decide +kernel), q⟩
  | int i => exact ⟨_, _, _, _, false, rfl, .ty _, .inl (.base (.int i)), kit_ty (by decide +kernel), q⟩
  | str s => exact ⟨_, _, _, _, false, rfl, .ty _, .inl (.base (.str s)), kit_ty (by decide +kernel), q⟩
  | lst h _ => exact ⟨_, _, _, _, true, rfl, .ty _, .inl (.base (.lst h)), kit_ty (by decide +kernel), by rw [isL_of h] at q; exact q⟩
  | tup h _ => exact ⟨_, _, _, _, false, rfl, .ty _, .inl (.base (.tup h)), kit_ty (by decide +kernel), by rw [isL_of h] at q; exact q⟩
  | exc ha hd e _ _ => exact ⟨_, _, _, _, false, rfl, .ty _, .inr ⟨_, _, _, _, rfl, rfl, ha, hd, e.ec⟩, kit_exc e.nl (by decide +kernel), by rw [isL_of ha] at q; exact q⟩
end
/-- a stream of draws stands at a -/
def Flow (H : Hp) (a : Addr) : Prop := ∃ (c n : Int) (b : Bool) (p : Int), H a = some (.lst [.int c, .int n, .bl b, .int p])
theorem Flow.up {H H' : Hp} {a : Addr} (f : Flow H a) (k : ∀ o, H a = some o → H' a = some o) : Flow H' a := by
  obtain ⟨c, n, b, p, h⟩ := f
  exact ⟨c, n, b, p, k _ h⟩
theorem Flow.same {H H' : Hp} {a : Addr} (e : Same H H') (f : Flow H a) : Flow H' a := f.up fun o h => e _ _ h
theorem Flow.keep {H H' : Hp} {a b : Addr} (e : Keep b H H') (n : a ≠ b) (f : Flow H a) : Flow H' a := f.up fun o h => e _ _ n h
theorem Flow.at {H : Hp} {a : Addr} (f : Flow H a) : ∃ o, H a = some o := by
  obtain ⟨c, n, b, p, h⟩ := f
  exact ⟨_, h⟩
theorem Flow.ne {H : Hp} {a b : Addr} (f : Flow H a) (n : H b = none) : a ≠ b := by
  obtain ⟨o, h⟩ := f.at
  exact ne_of_none h n
end Sx
namespace Sx
open PySem L2
def Mem (K : PySem.W.Frag) (H : Hp) (B : Addr → Prop) (x : V) : Prop := Kn K H B x ∧ ∀ n, x = .int n → n.natAbs < 2 ^ 190
def Val (K : PySem.W.Frag) (H : Hp) (B : Addr → Prop) (v : V) : Prop := Kn K H B v ∧ ∀ p xs, v = .ref p → H p = some (.tup xs) → ∀ x ∈ xs, Mem K H B x
section
variable {K : PySem.W.Frag} {H H' : Hp} {B B' : Addr → Prop} {v x : V} {xs : List V} {p a d C : Addr}
theorem Mem.up (k : Mem K H B x) (hB : ∀ b, B b → B' b) (hk : ∀ b o, B b → H b = some o → H' b = some o) : Mem K H' B' x := ⟨k.1.up hB hk, k.2⟩
theorem Val.up (k : Val K H B v) (hB : ∀ b, B b → B' b) (hk : ∀ b o, B b → H b = some o → H' b = some o) : Val K H' B' v := by
  refine ⟨k.1.up hB hk, fun p xs e h x hx => ?_⟩
  subst e
  cases k.1 with
  | lst g b =>
    rw [hk _ _ b g] at h
    cases h
  | tup g b =>
    have g' := hk _ _ b g
    rw [g'] at h
    cases h
    exact (k.2 p xs rfl g x hx).up hB hk
  | exc ha hd e ba bd =>
    rw [hk _ _ ba ha] at h
    cases h
theorem mem_int {n : Int} (h1 : -100000000000000 < n) (h2 : n < 100000000000000) : Mem K H B (.int n) := ⟨.int n, fun m e => by
  cases e
  have : (100000000000000 : Nat) < 2 ^ 190 := by decide
  omega⟩
theorem mem_kn (k : Kn K H B x) (h : isI x = false) : Mem K H B x := ⟨k, fun n e => by
  subst e
  cases h⟩
theorem mems_nil : ∀ x ∈ ([] : List V), Mem K H B x := fun x h => by cases h
theorem mems_cons (h1 : Mem K H B x) (h2 : ∀ y ∈ xs, Mem K H B y) : ∀ y ∈ x :: xs, Mem K H B y := fun y h => by
  rcases List.mem_cons.mp h with rfl | h
  · exact h1
  · exact h2 y h
theorem val_tup (h : H p = some (.tup xs)) (b : B p) (m : ∀ x ∈ xs, Mem K H B x) : Val K H B (.ref p) := ⟨.tup h b, fun q ys e g => by
  cases e
  rw [h] at g
  cases g
  exact m⟩
theorem val_lst (h : H p = some (.lst xs)) (b : B p) : Val K H B (.ref p) := ⟨.lst h b, fun q ys e g => by
  cases e
  rw [h] at g
  cases g⟩
theorem val_exc {fs : List (Str × V)} (ha : H a = some (exo a C (some d))) (hd : H d = some (.xd fs)) (e : ExK K C) (ba : B a) (bd : B d) : Val K H B (.ref a) := ⟨.exc ha hd e ba bd, fun q ys z g => by
  cases z
  rw [ha] at g
  cases g⟩
theorem val_flat (k : Kn K H B v) (h : ∀ p, v ≠ .ref p) : Val K H B v := ⟨k, fun q ys e _ => absurd e (h q)⟩
theorem newx_same {H2 : Hp} {o u : HO} (na : H a = none) (nd : H d = none) (e : upd (upd H d u) a o = H2) : Same H H2 := by
  subst e
  intro b z h
  rw [upd_ne (ne_of_none h na), upd_ne (ne_of_none h nd)]
  exact h
theorem newx_at {H2 : Hp} {o u : HO} (e : upd (upd H d u) a o = H2) : H2 a = some o := by
  subst e
  exact upd_same
theorem newx_d {H2 : Hp} {o u : HO} (n : d ≠ a) (e : upd (upd H d u) a o = H2) : H2 d = some u := by
  subst e
  rw [upd_ne n]
  exact upd_same
theorem s_exv {σ : St} {Q : VK} {f : Str} {ta : TA} (h : ta σ H fun vs H1 => ∃ v, vs = [v] ∧ ∀ a d, H1 a = none → H1 d = none → d ≠ a → Q (.ref a) (upd (upd H1 d (.xd [(f, v)])) a (exo a C (some d)))) : tExV C f ta σ H Q := h
end
end Sx

set_option Elab.async false
set_option linter.all false
namespace Sx
/-- Euclid's way: behind the first turn the second is below the first, and their product halves -/
def EuI (M g : Nat) (x y : Nat) : Nat → Nat → Nat → Prop
  | 0, a, b => a = x ∧ b = y
  | i + 1, a, b => b < a ∧ a * b * 2 ^ i ≤ 2 ^ M
theorem eu_gcd (a b : Nat) : Nat.gcd b (a % b) = Nat.gcd a b := by
  rw [Nat.gcd_comm a b, Nat.gcd_rec b a, Nat.gcd_comm]
theorem eu_half {a b : Nat} (h : b ≤ a) (hb : 0 < b) : 2 * (a % b) ≤ a := by
  have h1 := Nat.mod_lt a hb
  have h2 : a % b ≤ a - b := by
    rw [Nat.mod_eq_sub_mod h]
    exact Nat.mod_le _ _
  omega
theorem eu_step {M g x y i a b : Nat} (hxy : y * y ≤ 2 ^ M) (h : EuI M g x y i a b) (hb : 0 < b) : EuI M g x y (i + 1) b (a % b) := by
  refine ⟨Nat.mod_lt a hb, ?_⟩
  cases i with
  | zero =>
    obtain ⟨rfl, rfl⟩ := h
    have h1 := Nat.mod_lt a hb
    calc b * (a % b) * 2 ^ 0 = b * (a % b) := by rw [Nat.pow_zero, Nat.mul_one]
      _ ≤ b * b := Nat.mul_le_mul_left _ (Nat.le_of_lt h1)
      _ ≤ 2 ^ M := hxy
  | succ i =>
    obtain ⟨h1, h2⟩ := h
    have h3 := eu_half (Nat.le_of_lt h1) hb
    calc b * (a % b) * 2 ^ (i + 1) = b * (2 * (a % b)) * 2 ^ i := by
          rw [Nat.pow_succ]
          have e : b * (a % b) * (2 ^ i * 2) = b * (a % b) * 2 * 2 ^ i := by rw [Nat.mul_comm (2 ^ i) 2, ← Nat.mul_assoc]
          rw [e, Nat.mul_assoc b (a % b) 2, Nat.mul_comm (a % b) 2]
      _ ≤ b * a * 2 ^ i := Nat.mul_le_mul_right _ (Nat.mul_le_mul_left _ h3)
      _ = a * b * 2 ^ i := by rw [Nat.mul_comm b a]
      _ ≤ 2 ^ M := h2
theorem eu_end {M g x y n a b : Nat} (hn : M < n) (h : EuI M g x y (n + 1) a b) : b = 0 := by
  obtain ⟨h1, h2⟩ := h
  cases b with
  | zero => rfl
  | succ b =>
    exfalso
    have h3 : 1 ≤ a * (b + 1) := Nat.mul_pos (by omega) (by omega)
    have h4 : 2 ^ n ≤ a * (b + 1) * 2 ^ n := by
      have := Nat.mul_le_mul_right (2 ^ n) h3
      rw [Nat.one_mul] at this
      exact this
    have h5 : 2 ^ M < 2 ^ n := Nat.pow_lt_pow_right (by decide) hn
    omega
/-- a number and its divisor's sign -/
def sgd (u l : Int) : Int := if l < 0 then -((Nat.gcd u.natAbs l.natAbs : Nat) : Int) else ((Nat.gcd u.natAbs l.natAbs : Nat) : Int)
theorem sgd_ne {u l : Int} (h : l ≠ 0) : sgd u l ≠ 0 := by
  have h1 : 0 < Nat.gcd u.natAbs l.natAbs := Nat.gcd_pos_of_pos_right _ (by omega)
  unfold sgd
  split <;> omega
theorem sgd_abs (u l : Int) : (sgd u l).natAbs = Nat.gcd u.natAbs l.natAbs := by
  unfold sgd
  split <;> omega
theorem sgd_le {u l : Int} (h : l ≠ 0) : (sgd u l).natAbs ≤ l.natAbs := by
  rw [sgd_abs]
  exact Nat.gcd_le_right _ (by omega)
theorem div_ok {u l x : Int} {b : Nat} (h : l ≠ 0) (hb : l.natAbs < 2 ^ b) (h0 : 0 < b) (h9 : b ≤ 9000) : L2.CDivV x (sgd u l) :=
  ⟨sgd_ne h, Nat.lt_of_lt_of_le (PySem.Flt.log2_lt_of h0 (Nat.lt_of_le_of_lt (sgd_le h) hb)) h9⟩
end Sx
namespace Sx
theorem sgd_dvd_l (u l : Int) : sgd u l ∣ l := by
  rw [← Int.natAbs_dvd_natAbs, sgd_abs]
  exact Nat.gcd_dvd_right _ _
theorem sgd_dvd_u (u l : Int) : sgd u l ∣ u := by
  rw [← Int.natAbs_dvd_natAbs, sgd_abs]
  exact Nat.gcd_dvd_left _ _
theorem fdiv_le {u s : Int} (h : s ∣ u) (hs : s ≠ 0) : (u.fdiv s).natAbs ≤ u.natAbs := by
  obtain ⟨c, rfl⟩ := h
  rw [Int.mul_fdiv_cancel_left _ hs, Int.natAbs_mul]
  exact Nat.le_mul_of_pos_left _ (by omega)
end Sx

set_option Elab.async false
set_option linter.all false
namespace Sx
open PySem L2
def Sm (n : Nat) (x : Int) : Prop := x.natAbs < 2 ^ n
theorem Sm.mono {n m : Nat} {x : Int} (h : Sm n x) (l : n ≤ m) : Sm m x := Nat.lt_of_lt_of_le h (Nat.pow_le_pow_right (by decide) l)
theorem Sm.neg {n : Nat} {x : Int} (h : Sm n x) : Sm n (-x) := by unfold Sm at *; rw [Int.natAbs_neg]; exact h
theorem Sm.mul {n m : Nat} {x y : Int} (h : Sm n x) (g : Sm m y) : Sm (n + m) (x * y) := by
  unfold Sm at *
  rw [Int.natAbs_mul, Nat.pow_add]
  exact Nat.mul_lt_mul'' h g
theorem Sm.add {n m : Nat} {x y : Int} (h : Sm n x) (g : Sm m y) : Sm (max n m + 1) (x + y) := by
  have h1 := h.mono (Nat.le_max_left n m)
  have g1 := g.mono (Nat.le_max_right n m)
  unfold Sm at *
  rw [Nat.pow_succ]
  have := Int.natAbs_add_le x y
  omega
theorem Sm.sub {n m : Nat} {x y : Int} (h : Sm n x) (g : Sm m y) : Sm (max n m + 1) (x - y) := by
  rw [Int.sub_eq_add_neg]
  exact h.add g.neg
theorem Sm.le {n : Nat} {x y : Int} (h : Sm n x) (l : y.natAbs ≤ x.natAbs) : Sm n y := Nat.lt_of_le_of_lt l h
theorem sm40 {x : Int} (h1 : -1000000000001 < x) (h2 : x < 1000000000001) : Sm 40 x := by
  unfold Sm
  have : (1000000000001 : Nat) < 2 ^ 40 := by decide
  omega
theorem sm_log {n : Nat} {x : Int} (h : Sm n x) : x.natAbs.log2 ≤ n := by
  by_cases h0 : x.natAbs = 0
  · rw [h0]
    exact Nat.le_trans (by decide) (Nat.zero_le n)
  · have := (Nat.log2_lt h0).mpr h
    omega
theorem c_mulW {n m : Nat} {x y : Int} (h : Sm n x) (g : Sm m y) (l : n + m < 1000000) : CMulW x y := by
  have h1 := sm_log h
  have g1 := sm_log g
  unfold CMulW
  omega
theorem c_divW {n : Nat} {x y : Int} (h0 : 0 < y) (h : Sm n y) (l : n < 9000) : CDivW x y := ⟨h0, Nat.lt_of_le_of_lt (sm_log h) l⟩
theorem c_divV {n : Nat} {u l x : Int} (h0 : l ≠ 0) (h : Sm n l) (g : n < 9000) : CDivV x (sgd u l) := ⟨sgd_ne h0, Nat.lt_of_le_of_lt (sm_log (h.le (sgd_le h0))) g⟩
theorem sm_0 : Sm 1 0 := by unfold Sm; decide
theorem sm_1 : Sm 1 1 := by unfold Sm; decide
theorem sm_3 : Sm 2 3 := by unfold Sm; decide
/-- a number over another, reduced -/
def rdU (u l : Int) : Int := u.fdiv (sgd u l)
def rdL (u l : Int) : Int := l.fdiv (sgd u l)
theorem rdU_sm {n : Nat} {u l : Int} (h0 : l ≠ 0) (h : Sm n u) : Sm n (rdU u l) := h.le (fdiv_le (sgd_dvd_u u l) (sgd_ne h0))
theorem rdL_sm {n : Nat} {u l : Int} (h0 : l ≠ 0) (h : Sm n l) : Sm n (rdL u l) := h.le (fdiv_le (sgd_dvd_l u l) (sgd_ne h0))
theorem sgd_pos {u l : Int} (h : 0 < l) : 0 < sgd u l := by
  have h1 : 0 < Nat.gcd u.natAbs l.natAbs := Nat.gcd_pos_of_pos_right _ (by omega)
  unfold sgd
  rw [if_neg (by omega)]
  omega
theorem rdL_pos {u l : Int} (h : 0 < l) : 0 < rdL u l := by
  obtain ⟨c, e⟩ := sgd_dvd_l u l
  have hs := sgd_pos (u := u) h
  have e2 : rdL u l = c := by
    unfold rdL
    rw [show l.fdiv (sgd u l) = (sgd u l * c).fdiv (sgd u l) by rw [← e], Int.mul_fdiv_cancel_left _ (by omega)]
  rw [e2]
  by_cases hc : 0 < c
  · exact hc
  · have : sgd u l * c ≤ 0 := Int.mul_nonpos_of_nonneg_of_nonpos (by omega) (by omega)
    omega
theorem sgd_neg (u l : Int) : sgd (-u) l = sgd u l := by
  unfold sgd
  rw [Int.natAbs_neg]
theorem rdU_neg {u l : Int} (h0 : l ≠ 0) : rdU (-u) l = -rdU u l := by
  unfold rdU
  rw [sgd_neg]
  obtain ⟨c, e⟩ := sgd_dvd_u u l
  have hs := sgd_ne (u := u) h0
  rw [show (-u).fdiv (sgd u l) = (sgd u l * -c).fdiv (sgd u l) by rw [Int.mul_neg, ← e], Int.mul_fdiv_cancel_left _ hs,
    show u.fdiv (sgd u l) = (sgd u l * c).fdiv (sgd u l) by rw [← e], Int.mul_fdiv_cancel_left _ hs]
theorem rdL_neg (u l : Int) : rdL (-u) l = rdL u l := by
  unfold rdL
  rw [sgd_neg]
/-- the least integer that is not less than a / b -/
theorem up_ok {a b : Int} (h : 0 < b) : a ≤ -((-a) / b) * b ∧ (-((-a) / b) - 1) * b < a := by
  have h1 := Int.emod_add_mul_ediv (-a) b
  have h2 := Int.emod_nonneg (-a) (by omega : b ≠ 0)
  have h3 := Int.emod_lt_of_pos (-a) h
  have e : b * ((-a) / b) = ((-a) / b) * b := Int.mul_comm _ _
  constructor
  · rw [Int.neg_mul]
    omega
  · rw [Int.sub_mul, Int.neg_mul]
    omega
end Sx

set_option Elab.async false
set_option linter.all false
set_option maxRecDepth 100000
set_option maxHeartbeats 2000000
namespace K03
open PySem L2 Sx
def top (i : Nat) : Stmt := PySem.Challenge.pw_nextguess_k03_sums_of_shares.main.body.getD i (.Pass ⟨0, 0, 0, 0⟩)
abbrev s_share_of : Stmt := top 6
abbrev s_plus : Stmt := top 7
abbrev s_less : Stmt := top 8
abbrev s_times : Stmt := top 9
abbrev s_over : Stmt := top 10
abbrev s_is_below : Stmt := top 11
abbrev s_total_of : Stmt := top 12
abbrev s_rounded_up : Stmt := top 13
abbrev s__law_flow : Stmt := top 15
abbrev s__law_take : Stmt := top 16
abbrev s__law_number : Stmt := top 17
abbrev s__law_reduced : Stmt := top 18
abbrev s__law_share : Stmt := top 19
abbrev s__law_beside : Stmt := top 20
abbrev s__law_same : Stmt := top 21
abbrev s__law_truth : Stmt := top 22
abbrev s__law_rounds : Stmt := top 23
abbrev s__law_over : Stmt := top 24
abbrev s__law_pair : Stmt := top 25
abbrev s__law_total : Stmt := top 26
abbrev s__law_all : Stmt := top 27
abbrev s_law : Stmt := top 28
theorem sc_share_of : FnScope ["a", "b", "common"] ["a", "b"] (defScope s_share_of) := ⟨rfl, rfl, rfl, by decide +kernel, rfl, by decide +kernel, by decide +kernel⟩
theorem sc_plus : FnScope ["one", "other"] ["one", "other"] (defScope s_plus) := ⟨rfl, rfl, rfl, by decide +kernel, rfl, by decide +kernel, by decide +kernel⟩
theorem sc_less : FnScope ["one", "other"] ["one", "other"] (defScope s_less) := ⟨rfl, rfl, rfl, by decide +kernel, rfl, by decide +kernel, by decide +kernel⟩
theorem sc_times : FnScope ["one", "other"] ["one", "other"] (defScope s_times) := ⟨rfl, rfl, rfl, by decide +kernel, rfl, by decide +kernel, by decide +kernel⟩
theorem sc_over : FnScope ["one", "other"] ["one", "other"] (defScope s_over) := ⟨rfl, rfl, rfl, by decide +kernel, rfl, by decide +kernel, by decide +kernel⟩
theorem sc_is_below : FnScope ["one", "other"] ["one", "other"] (defScope s_is_below) := ⟨rfl, rfl, rfl, by decide +kernel, rfl, by decide +kernel, by decide +kernel⟩
theorem sc_total_of : FnScope ["shares", "total", "share"] ["shares"] (defScope s_total_of) := ⟨rfl, rfl, rfl, by decide +kernel, rfl, by decide +kernel, by decide +kernel⟩
theorem sc_rounded_up : FnScope ["one"] ["one"] (defScope s_rounded_up) := ⟨rfl, rfl, rfl, by decide +kernel, rfl, by decide +kernel, by decide +kernel⟩
theorem sc__law_flow : FnScope ["script", "place", "cell"] ["script", "place"] (defScope s__law_flow) := ⟨rfl, rfl, rfl, by decide +kernel, rfl, by decide +kernel, by decide +kernel⟩
theorem sc__law_take : FnScope ["flow", "limit", "digit", "mixed"] ["flow", "limit"] (defScope s__law_take) := ⟨rfl, rfl, rfl, by decide +kernel, rfl, by decide +kernel, by decide +kernel⟩
theorem sc__law_number : FnScope ["flow", "shape"] ["flow"] (defScope s__law_number) := ⟨rfl, rfl, rfl, by decide +kernel, rfl, by decide +kernel, by decide +kernel⟩
theorem sc__law_reduced : FnScope ["upper", "lower", "one", "other", "k", "rest"] ["upper", "lower"] (defScope s__law_reduced) := ⟨rfl, rfl, rfl, by decide +kernel, rfl, by decide +kernel, by decide +kernel⟩
theorem sc__law_share : FnScope ["flow", "upper"] ["flow"] (defScope s__law_share) := ⟨rfl, rfl, rfl, by decide +kernel, rfl, by decide +kernel, by decide +kernel⟩
theorem sc__law_beside : FnScope ["flow", "share", "shape"] ["flow", "share"] (defScope s__law_beside) := ⟨rfl, rfl, rfl, by decide +kernel, rfl, by decide +kernel, by decide +kernel⟩
theorem sc__law_same : FnScope ["actual", "due", "k"] ["actual", "due"] (defScope s__law_same) := ⟨rfl, rfl, rfl, by decide +kernel, rfl, by decide +kernel, by decide +kernel⟩
theorem sc__law_truth : FnScope ["actual", "due"] ["actual", "due"] (defScope s__law_truth) := ⟨rfl, rfl, rfl, by decide +kernel, rfl, by decide +kernel, by decide +kernel⟩
theorem sc__law_rounds : FnScope ["share", "named", "actual"] ["share", "named"] (defScope s__law_rounds) := ⟨rfl, rfl, rfl, by decide +kernel, rfl, by decide +kernel, by decide +kernel⟩
theorem sc__law_over : FnScope ["one", "other", "e"] ["one", "other"] (defScope s__law_over) := ⟨rfl, rfl, rfl, by decide +kernel, rfl, by decide +kernel, by decide +kernel⟩
theorem sc__law_pair : FnScope ["one", "other", "due"] ["one", "other"] (defScope s__law_pair) := ⟨rfl, rfl, rfl, by decide +kernel, rfl, by decide +kernel, by decide +kernel⟩
theorem sc__law_total : FnScope ["shares_drawn", "as_list", "due", "share", "passed", "actual", "k", "again"] ["shares_drawn", "as_list"] (defScope s__law_total) := ⟨rfl, rfl, rfl, by decide +kernel, rfl, by decide +kernel, by decide +kernel⟩
theorem sc__law_all : FnScope ["script", "k", "flow", "one", "other", "many", "as_list", "total"] ["script"] (defScope s__law_all) := ⟨rfl, rfl, rfl, by decide +kernel, rfl, by decide +kernel, by decide +kernel⟩
theorem sc_law : FnScope ["script"] ["script"] (defScope s_law) := ⟨rfl, rfl, rfl, by decide +kernel, rfl, by decide +kernel, by decide +kernel⟩
structure Ad where
  a_share_of : Addr
  d_share_of : FuncData
  a_plus : Addr
  d_plus : FuncData
  a_less : Addr
  d_less : FuncData
  a_times : Addr
  d_times : FuncData
  a_over : Addr
  d_over : FuncData
  a_is_below : Addr
  d_is_below : FuncData
  a_total_of : Addr
  d_total_of : FuncData
  a_rounded_up : Addr
  d_rounded_up : FuncData
  a__law_flow : Addr
  d__law_flow : FuncData
  a__law_take : Addr
  d__law_take : FuncData
  a__law_number : Addr
  d__law_number : FuncData
  a__law_reduced : Addr
  d__law_reduced : FuncData
  a__law_share : Addr
  d__law_share : FuncData
  a__law_beside : Addr
  d__law_beside : FuncData
  a__law_same : Addr
  d__law_same : FuncData
  a__law_truth : Addr
  d__law_truth : FuncData
  a__law_rounds : Addr
  d__law_rounds : FuncData
  a__law_over : Addr
  d__law_over : FuncData
  a__law_pair : Addr
  d__law_pair : FuncData
  a__law_total : Addr
  d__law_total : FuncData
  a__law_all : Addr
  d__law_all : FuncData
  a_law : Addr
  d_law : FuncData
  c_InvalidNumber : Addr
  i_InvalidNumber : Addr
  c_Undefined : Addr
  i_Undefined : Addr
structure Txt (P : Program) (K : PySem.W.Frag) (mg : Str → Option Value) (A : Ad) : Prop where
  g_share_of : mg "share_of" = some (.ref A.a_share_of)
  F_share_of : Fun K "share_of" "share_of" s_share_of A.a_share_of A.d_share_of
  g_plus : mg "plus" = some (.ref A.a_plus)
  F_plus : Fun K "plus" "plus" s_plus A.a_plus A.d_plus
  g_less : mg "less" = some (.ref A.a_less)
  F_less : Fun K "less" "less" s_less A.a_less A.d_less
  g_times : mg "times" = some (.ref A.a_times)
  F_times : Fun K "times" "times" s_times A.a_times A.d_times
  g_over : mg "over" = some (.ref A.a_over)
  F_over : Fun K "over" "over" s_over A.a_over A.d_over
  g_is_below : mg "is_below" = some (.ref A.a_is_below)
  F_is_below : Fun K "is_below" "is_below" s_is_below A.a_is_below A.d_is_below
  g_total_of : mg "total_of" = some (.ref A.a_total_of)
  F_total_of : Fun K "total_of" "total_of" s_total_of A.a_total_of A.d_total_of
  g_rounded_up : mg "rounded_up" = some (.ref A.a_rounded_up)
  F_rounded_up : Fun K "rounded_up" "rounded_up" s_rounded_up A.a_rounded_up A.d_rounded_up
  g__law_flow : mg "_law_flow" = some (.ref A.a__law_flow)
  F__law_flow : Fun K "_law_flow" "_law_flow" s__law_flow A.a__law_flow A.d__law_flow
  g__law_take : mg "_law_take" = some (.ref A.a__law_take)
  F__law_take : Fun K "_law_take" "_law_take" s__law_take A.a__law_take A.d__law_take
  g__law_number : mg "_law_number" = some (.ref A.a__law_number)
  F__law_number : Fun K "_law_number" "_law_number" s__law_number A.a__law_number A.d__law_number
  g__law_reduced : mg "_law_reduced" = some (.ref A.a__law_reduced)
  F__law_reduced : Fun K "_law_reduced" "_law_reduced" s__law_reduced A.a__law_reduced A.d__law_reduced
  g__law_share : mg "_law_share" = some (.ref A.a__law_share)
  F__law_share : Fun K "_law_share" "_law_share" s__law_share A.a__law_share A.d__law_share
  g__law_beside : mg "_law_beside" = some (.ref A.a__law_beside)
  F__law_beside : Fun K "_law_beside" "_law_beside" s__law_beside A.a__law_beside A.d__law_beside
  g__law_same : mg "_law_same" = some (.ref A.a__law_same)
  F__law_same : Fun K "_law_same" "_law_same" s__law_same A.a__law_same A.d__law_same
  g__law_truth : mg "_law_truth" = some (.ref A.a__law_truth)
  F__law_truth : Fun K "_law_truth" "_law_truth" s__law_truth A.a__law_truth A.d__law_truth
  g__law_rounds : mg "_law_rounds" = some (.ref A.a__law_rounds)
  F__law_rounds : Fun K "_law_rounds" "_law_rounds" s__law_rounds A.a__law_rounds A.d__law_rounds
  g__law_over : mg "_law_over" = some (.ref A.a__law_over)
  F__law_over : Fun K "_law_over" "_law_over" s__law_over A.a__law_over A.d__law_over
  g__law_pair : mg "_law_pair" = some (.ref A.a__law_pair)
  F__law_pair : Fun K "_law_pair" "_law_pair" s__law_pair A.a__law_pair A.d__law_pair
  g__law_total : mg "_law_total" = some (.ref A.a__law_total)
  F__law_total : Fun K "_law_total" "_law_total" s__law_total A.a__law_total A.d__law_total
  g__law_all : mg "_law_all" = some (.ref A.a__law_all)
  F__law_all : Fun K "_law_all" "_law_all" s__law_all A.a__law_all A.d__law_all
  g_law : mg "law" = some (.ref A.a_law)
  F_law : Fun K "law" "law" s_law A.a_law A.d_law
  X_InvalidNumber : PySem.SupX_value.XTxt P K mg "InvalidNumber" A.c_InvalidNumber A.i_InvalidNumber
  E_InvalidNumber : Sx.ExK K A.c_InvalidNumber
  X_Undefined : PySem.SupX_what.XTxt P K mg "Undefined" A.c_Undefined A.i_Undefined
  E_Undefined : Sx.ExK K A.c_Undefined
  n_abs : mg "abs" = none
  n_bool : mg "bool" = none
  n_int : mg "int" = none
  n_isinstance : mg "isinstance" = none
  n_len : mg "len" = none
  n_list : mg "list" = none
  n_max : mg "max" = none
  n_range : mg "range" = none
  n_str : mg "str" = none
  n_tuple : mg "tuple" = none
  m_gcd : mg "gcd" = some (.builtin "math.gcd")
section
variable {P : Program} {K : PySem.W.Frag} {mg : Str → Option Value} {A : Ad}
theorem Txt.g_InvalidNumber (T : Txt P K mg A) : mg "InvalidNumber" = some (.ref A.c_InvalidNumber) := T.X_InvalidNumber.gC
theorem Txt.g_Undefined (T : Txt P K mg A) : mg "Undefined" = some (.ref A.c_Undefined) := T.X_Undefined.gC
theorem B_share_of (T : Txt P K mg A) : Binds K A.d_share_of ["a", "b"] [] := T.F_share_of.binds (ps := ["a", "b"]) fun _ _ _ _ _ _ us hl => match us, hl with | [_, _], _ => rfl
theorem B_plus (T : Txt P K mg A) : Binds K A.d_plus ["one", "other"] [] := T.F_plus.binds (ps := ["one", "other"]) fun _ _ _ _ _ _ us hl => match us, hl with | [_, _], _ => rfl
theorem B_less (T : Txt P K mg A) : Binds K A.d_less ["one", "other"] [] := T.F_less.binds (ps := ["one", "other"]) fun _ _ _ _ _ _ us hl => match us, hl with | [_, _], _ => rfl
theorem B_times (T : Txt P K mg A) : Binds K A.d_times ["one", "other"] [] := T.F_times.binds (ps := ["one", "other"]) fun _ _ _ _ _ _ us hl => match us, hl with | [_, _], _ => rfl
theorem B_over (T : Txt P K mg A) : Binds K A.d_over ["one", "other"] [] := T.F_over.binds (ps := ["one", "other"]) fun _ _ _ _ _ _ us hl => match us, hl with | [_, _], _ => rfl
theorem B_is_below (T : Txt P K mg A) : Binds K A.d_is_below ["one", "other"] [] := T.F_is_below.binds (ps := ["one", "other"]) fun _ _ _ _ _ _ us hl => match us, hl with | [_, _], _ => rfl
theorem B_total_of (T : Txt P K mg A) : Binds K A.d_total_of ["shares"] [] := T.F_total_of.binds (ps := ["shares"]) fun _ _ _ _ _ _ us hl => match us, hl with | [_], _ => rfl
theorem B_rounded_up (T : Txt P K mg A) : Binds K A.d_rounded_up ["one"] [] := T.F_rounded_up.binds (ps := ["one"]) fun _ _ _ _ _ _ us hl => match us, hl with | [_], _ => rfl
theorem B__law_flow (T : Txt P K mg A) : Binds K A.d__law_flow ["script", "place"] [] := T.F__law_flow.binds (ps := ["script", "place"]) fun _ _ _ _ _ _ us hl => match us, hl with | [_, _], _ => rfl
theorem B__law_take (T : Txt P K mg A) : Binds K A.d__law_take ["flow", "limit"] [] := T.F__law_take.binds (ps := ["flow", "limit"]) fun _ _ _ _ _ _ us hl => match us, hl with | [_, _], _ => rfl
theorem B__law_number (T : Txt P K mg A) : Binds K A.d__law_number ["flow"] [] := T.F__law_number.binds (ps := ["flow"]) fun _ _ _ _ _ _ us hl => match us, hl with | [_], _ => rfl
theorem B__law_reduced (T : Txt P K mg A) : Binds K A.d__law_reduced ["upper", "lower"] [] := T.F__law_reduced.binds (ps := ["upper", "lower"]) fun _ _ _ _ _ _ us hl => match us, hl with | [_, _], _ => rfl
theorem B__law_share (T : Txt P K mg A) : Binds K A.d__law_share ["flow"] [] := T.F__law_share.binds (ps := ["flow"]) fun _ _ _ _ _ _ us hl => match us, hl with | [_], _ => rfl
theorem B__law_beside (T : Txt P K mg A) : Binds K A.d__law_beside ["flow", "share"] [] := T.F__law_beside.binds (ps := ["flow", "share"]) fun _ _ _ _ _ _ us hl => match us, hl with | [_, _], _ => rfl
theorem B__law_same (T : Txt P K mg A) : Binds K A.d__law_same ["actual", "due"] [] := T.F__law_same.binds (ps := ["actual", "due"]) fun _ _ _ _ _ _ us hl => match us, hl with | [_, _], _ => rfl
theorem B__law_truth (T : Txt P K mg A) : Binds K A.d__law_truth ["actual", "due"] [] := T.F__law_truth.binds (ps := ["actual", "due"]) fun _ _ _ _ _ _ us hl => match us, hl with | [_, _], _ => rfl
theorem B__law_rounds (T : Txt P K mg A) : Binds K A.d__law_rounds ["share", "named"] [] := T.F__law_rounds.binds (ps := ["share", "named"]) fun _ _ _ _ _ _ us hl => match us, hl with | [_, _], _ => rfl
theorem B__law_over (T : Txt P K mg A) : Binds K A.d__law_over ["one", "other"] [] := T.F__law_over.binds (ps := ["one", "other"]) fun _ _ _ _ _ _ us hl => match us, hl with | [_, _], _ => rfl
theorem B__law_pair (T : Txt P K mg A) : Binds K A.d__law_pair ["one", "other"] [] := T.F__law_pair.binds (ps := ["one", "other"]) fun _ _ _ _ _ _ us hl => match us, hl with | [_, _], _ => rfl
theorem B__law_total (T : Txt P K mg A) : Binds K A.d__law_total ["shares_drawn", "as_list"] [] := T.F__law_total.binds (ps := ["shares_drawn", "as_list"]) fun _ _ _ _ _ _ us hl => match us, hl with | [_, _], _ => rfl
theorem B__law_all (T : Txt P K mg A) : Binds K A.d__law_all ["script"] [] := T.F__law_all.binds (ps := ["script"]) fun _ _ _ _ _ _ us hl => match us, hl with | [_], _ => rfl
theorem B_law (T : Txt P K mg A) : Binds K A.d_law ["script"] [] := T.F_law.binds (ps := ["script"]) fun _ _ _ _ _ _ us hl => match us, hl with | [_], _ => rfl
def kg_is_below_other_one : List Value → List Value → List Value := fun us ws => match us, ws with | [], [x0, x1] => [x1, x0] | _, _ => []
def kv_is_below_other_one : List V → List V → List V := fun us ws => match us, ws with | [], [x0, x1] => [x1, x0] | _, _ => []
theorem KB_is_below_other_one (T : Txt P K mg A) : KBinds K A.d_is_below ["one", "other"] ["other", "one"] kg_is_below_other_one kv_is_below_other_one := by
  obtain ⟨oc, od, kV, doc, pm, an, cdv, ct, osl, e, _, _⟩ := T.F_is_below.ex
  rw [e]
  refine ⟨fun s us ws _ hl => ?_, fun {vs us zs ws} r rz => ?_⟩
  · match us, ws, hl with
    | [], [_, _], _ => exact .of_eq rfl
  · cases r with
    | cons _ _ => exact .nil
    | nil =>
      cases rz with
      | nil => exact .nil
      | cons r0 rz =>
        cases rz with
        | nil => exact .nil
        | cons r1 rz =>
          cases rz with
          | cons _ _ => exact .nil
          | nil => exact (.cons r1 (.cons r0 .nil))
def kg_less_other_one : List Value → List Value → List Value := fun us ws => match us, ws with | [], [x0, x1] => [x1, x0] | _, _ => []
def kv_less_other_one : List V → List V → List V := fun us ws => match us, ws with | [], [x0, x1] => [x1, x0] | _, _ => []
theorem KB_less_other_one (T : Txt P K mg A) : KBinds K A.d_less ["one", "other"] ["other", "one"] kg_less_other_one kv_less_other_one := by
  obtain ⟨oc, od, kV, doc, pm, an, cdv, ct, osl, e, _, _⟩ := T.F_less.ex
  rw [e]
  refine ⟨fun s us ws _ hl => ?_, fun {vs us zs ws} r rz => ?_⟩
  · match us, ws, hl with
    | [], [_, _], _ => exact .of_eq rfl
  · cases r with
    | cons _ _ => exact .nil
    | nil =>
      cases rz with
      | nil => exact .nil
      | cons r0 rz =>
        cases rz with
        | nil => exact .nil
        | cons r1 rz =>
          cases rz with
          | cons _ _ => exact .nil
          | nil => exact (.cons r1 (.cons r0 .nil))
def kg_over_other_one : List Value → List Value → List Value := fun us ws => match us, ws with | [], [x0, x1] => [x1, x0] | _, _ => []
def kv_over_other_one : List V → List V → List V := fun us ws => match us, ws with | [], [x0, x1] => [x1, x0] | _, _ => []
theorem KB_over_other_one (T : Txt P K mg A) : KBinds K A.d_over ["one", "other"] ["other", "one"] kg_over_other_one kv_over_other_one := by
  obtain ⟨oc, od, kV, doc, pm, an, cdv, ct, osl, e, _, _⟩ := T.F_over.ex
  rw [e]
  refine ⟨fun s us ws _ hl => ?_, fun {vs us zs ws} r rz => ?_⟩
  · match us, ws, hl with
    | [], [_, _], _ => exact .of_eq rfl
  · cases r with
    | cons _ _ => exact .nil
    | nil =>
      cases rz with
      | nil => exact .nil
      | cons r0 rz =>
        cases rz with
        | nil => exact .nil
        | cons r1 rz =>
          cases rz with
          | cons _ _ => exact .nil
          | nil => exact (.cons r1 (.cons r0 .nil))
def kg_plus_other_one : List Value → List Value → List Value := fun us ws => match us, ws with | [], [x0, x1] => [x1, x0] | _, _ => []
def kv_plus_other_one : List V → List V → List V := fun us ws => match us, ws with | [], [x0, x1] => [x1, x0] | _, _ => []
theorem KB_plus_other_one (T : Txt P K mg A) : KBinds K A.d_plus ["one", "other"] ["other", "one"] kg_plus_other_one kv_plus_other_one := by
  obtain ⟨oc, od, kV, doc, pm, an, cdv, ct, osl, e, _, _⟩ := T.F_plus.ex
  rw [e]
  refine ⟨fun s us ws _ hl => ?_, fun {vs us zs ws} r rz => ?_⟩
  · match us, ws, hl with
    | [], [_, _], _ => exact .of_eq rfl
  · cases r with
    | cons _ _ => exact .nil
    | nil =>
      cases rz with
      | nil => exact .nil
      | cons r0 rz =>
        cases rz with
        | nil => exact .nil
        | cons r1 rz =>
          cases rz with
          | cons _ _ => exact .nil
          | nil => exact (.cons r1 (.cons r0 .nil))
def kg_rounded_up_one : List Value → List Value → List Value := fun us ws => match us, ws with | [], [x0] => [x0] | _, _ => []
def kv_rounded_up_one : List V → List V → List V := fun us ws => match us, ws with | [], [x0] => [x0] | _, _ => []
theorem KB_rounded_up_one (T : Txt P K mg A) : KBinds K A.d_rounded_up ["one"] ["one"] kg_rounded_up_one kv_rounded_up_one := by
  obtain ⟨oc, od, kV, doc, pm, an, cdv, ct, osl, e, _, _⟩ := T.F_rounded_up.ex
  rw [e]
  refine ⟨fun s us ws _ hl => ?_, fun {vs us zs ws} r rz => ?_⟩
  · match us, ws, hl with
    | [], [_], _ => exact .of_eq rfl
  · cases r with
    | cons _ _ => exact .nil
    | nil =>
      cases rz with
      | nil => exact .nil
      | cons r0 rz =>
        cases rz with
        | cons _ _ => exact .nil
        | nil => exact (.cons r0 .nil)
def kg_times_other_one : List Value → List Value → List Value := fun us ws => match us, ws with | [], [x0, x1] => [x1, x0] | _, _ => []
def kv_times_other_one : List V → List V → List V := fun us ws => match us, ws with | [], [x0, x1] => [x1, x0] | _, _ => []
theorem KB_times_other_one (T : Txt P K mg A) : KBinds K A.d_times ["one", "other"] ["other", "one"] kg_times_other_one kv_times_other_one := by
  obtain ⟨oc, od, kV, doc, pm, an, cdv, ct, osl, e, _, _⟩ := T.F_times.ex
  rw [e]
  refine ⟨fun s us ws _ hl => ?_, fun {vs us zs ws} r rz => ?_⟩
  · match us, ws, hl with
    | [], [_, _], _ => exact .of_eq rfl
  · cases r with
    | cons _ _ => exact .nil
    | nil =>
      cases rz with
      | nil => exact .nil
      | cons r0 rz =>
        cases rz with
        | nil => exact .nil
        | cons r1 rz =>
          cases rz with
          | cons _ _ => exact .nil
          | nil => exact (.cons r1 (.cons r0 .nil))
def kg_total_of_shares : List Value → List Value → List Value := fun us ws => match us, ws with | [], [x0] => [x0] | _, _ => []
def kv_total_of_shares : List V → List V → List V := fun us ws => match us, ws with | [], [x0] => [x0] | _, _ => []
theorem KB_total_of_shares (T : Txt P K mg A) : KBinds K A.d_total_of ["shares"] ["shares"] kg_total_of_shares kv_total_of_shares := by
  obtain ⟨oc, od, kV, doc, pm, an, cdv, ct, osl, e, _, _⟩ := T.F_total_of.ex
  rw [e]
  refine ⟨fun s us ws _ hl => ?_, fun {vs us zs ws} r rz => ?_⟩
  · match us, ws, hl with
    | [], [_], _ => exact .of_eq rfl
  · cases r with
    | cons _ _ => exact .nil
    | nil =>
      cases rz with
      | nil => exact .nil
      | cons r0 rz =>
        cases rz with
        | cons _ _ => exact .nil
        | nil => exact (.cons r0 .nil)
end
local macro_rules | `(tactic| walk_at "cond") => `(tactic| first
  | assumption
  | decide
  | exact c_mul_r (by first | decide | omega) (by first | decide | omega)
  | exact c_mul_l (by first | decide | omega) (by first | decide | omega)
  | exact c_div (by first | decide | omega) (by first | decide | omega)
  | exact c_pow (by first | decide | omega) (by first | decide | omega) (by first | decide | omega)
  | omega)
local macro_rules | `(tactic| walk_at "ne") => `(tactic| first
  | assumption
  | (refine Ne.symm ?_; assumption)
  | (refine' Flow.ne ?nh ?nn; (case nn => assumption); (case nh => walk_at "fl"))
  | (refine Ne.symm ?_; refine' Flow.ne ?nh ?nn; (case nn => assumption); (case nh => walk_at "fl"))
  | (refine' ne_of_none ?nh ?nn; (case nn => assumption); (case nh => walk_at "at"))
  | (refine Ne.symm ?_; refine' ne_of_none ?nh ?nn; (case nn => assumption); (case nh => walk_at "at")))
local macro_rules | `(tactic| walk_at "at") => `(tactic| first
  | assumption
  | (refine Same.up (by assumption) ?_; walk_at "at")
  | (refine Keep.up (by assumption) (by walk_at "ne") ?_; walk_at "at"))
local macro_rules | `(tactic| walk_at "fl") => `(tactic| first
  | assumption
  | (refine Flow.same (by assumption) ?_; walk_at "fl")
  | (refine Flow.keep (by assumption) (by walk_at "ne") ?_; walk_at "fl"))
local macro_rules | `(tactic| walk_at "fr") => `(tactic| first
  | assumption
  | (refine same_free (by assumption) ?_; walk_at "fr")
  | (refine Keep.free (by assumption) (by walk_at "ne") ?_; walk_at "fr"))
local macro_rules | `(tactic| walk_at "kp") => `(tactic| first
  | assumption
  | exact Keep.refl _ _
  | (refine Keep.trans ?_ (by assumption); walk_at "kp")
  | (refine Keep.trans ?_ (Keep.same (by assumption)); walk_at "kp"))
local macro_rules | `(tactic| walk_at "sm") => `(tactic| first
  | assumption
  | exact L2.Same.refl _
  | (refine L2.Same.trans ?_ (by assumption); walk_at "sm"))
local macro_rules | `(tactic| walk_at "sz") => `(tactic| first | exact Nat.le_of_ble_eq_true rfl | omega)
local macro_rules | `(tactic| walk_at "new") => `(tactic| (intro p np; generalize hE : upd _ p _ = H2; have s2 := new_same np hE; have h2 := new_at hE; clear hE))
local macro_rules | `(tactic| walk_at "newx") => `(tactic| (intro e d na nd hda; generalize hE : upd (upd _ d _) e _ = H2; have s2 := newx_same na nd hE; have h2 := newx_at hE; have h3 := newx_d hda hE; clear hE))
local macro_rules | `(tactic| walk_at "s1") => `(tactic| first
  | with_reducible refine s_seq ?_
  | with_reducible refine s_asg ?_
  | with_reducible refine s_name ?_
  | with_reducible refine s_ret ?_
  | with_reducible refine s_c ?_
  | ((with_reducible refine' s_var ?hv ?_); (case hv => rfl))
  | with_reducible refine s_op ?_
  | with_reducible refine s_un ?_
  | with_reducible refine s_ifS ?_
  | with_reducible refine s_cb ?_
  | with_reducible refine s_cons ?_
  | with_reducible refine s_nil ?_
  | with_reducible refine s_call ?_
  | with_reducible refine s_test ?_
  | with_reducible refine s_tB ?_
  | with_reducible refine s_bl ?_
  | with_reducible refine s_and ?_
  | with_reducible refine s_or ?_
  | with_reducible refine s_not ?_
  | with_reducible refine s_andV ?_
  | with_reducible refine s_orV ?_
  | with_reducible refine s_notV ?_
  | with_reducible refine s_blV ?_
  | with_reducible refine s_if ?_
  | with_reducible refine s_tup ?_
  | with_reducible refine s_lst ?_
  | with_reducible refine s_drop ?_
  | with_reducible refine s_next ?_
  | with_reducible refine s_sub ?_
  | with_reducible refine s_bm ?_
  | with_reducible refine s_callK ?_
  | with_reducible refine s_brk ?_
  | with_reducible refine s_cont ?_
  | with_reducible refine r_I0 ?_
  | with_reducible refine r_U ?_
  | with_reducible refine r_eqI ?_
  | with_reducible refine r_neI ?_
  | with_reducible refine r_isB ?_
  | with_reducible refine r_notB ?_
  | with_reducible refine i_t ?_
  | with_reducible refine i_f ?_
  | with_reducible refine i_nt ?_
  | with_reducible refine i_nf ?_
  | ((with_reducible refine' r_I ?hc ?_); (case hc => walk_at "cond"))
  | (with_reducible refine .inl ⟨_, rfl, ?_⟩)
  | (with_reducible refine ⟨_, rfl, ?_⟩)
  | ((with_reducible refine' r_ixL ?hx ?ha ?_); (case hx => walk_at "at"); (case ha => rfl))
  | ((with_reducible refine' r_ixT ?hx ?ha ?_); (case hx => walk_at "at"); (case ha => rfl))
  | ((with_reducible refine' r_setL ?hx ?ha ?_); (case hx => walk_at "at"); (case ha => rfl); intro H2 k2 h2; (try dsimp only [List.set, Int.toNat] at h2))
  | ((with_reducible refine' r_app ?hx ?hl ?_); (case hx => walk_at "at"); (case hl => first | exact Nat.lt_of_ble_eq_true rfl | omega); intro H2 k2 h2)
  | ((with_reducible refine' ty_list ?hx ?_); (case hx => walk_at "at"))
  | (refine And.intro (by (with_reducible show _ ≤ sizeLine); walk_at "sz") ?_; walk_at "new")
  | with_reducible refine s_exv ?_
  | walk_at "newx")
local macro_rules | `(tactic| walk_at "sx") => `(tactic| repeat (walk_at "s1"))
local macro_rules | `(tactic| walk_at "s2") => `(tactic| first
  | ((with_reducible refine' r_ixG ?hx ?hn ?_); (case hx => walk_at "at"); (case hn => omega))
  | ((with_reducible refine' r_ixGT ?hx ?hn ?_); (case hx => walk_at "at"); (case hn => omega))
  | (with_reducible refine ig_cons (fun hix => ?_) (fun hix => ?_))
  | ((with_reducible refine ig_nil ?_); omega)
  | ((with_reducible refine' i_T ?hc ?_); (case hc => omega))
  | ((with_reducible refine' i_F ?hc ?_); (case hc => omega))
  | (with_reducible refine i_2 (fun hc => ?_) (fun hc => ?_))
  | (with_reducible refine i_n2 (fun hc => ?_) (fun hc => ?_)))
local macro_rules | `(tactic| walk_at "go") => `(tactic| repeat' (first | walk_at "s1" | walk_at "s2"))

section
variable {P : Program} {w : World} {K : PySem.W.Frag} {mg : Str → Option Value} {base : Heap} {A : Ad}
def spTake : Sp := fun vs H Q _ => ∃ (a : Addr) (m : Int), vs = [.ref a, .int m] ∧ Flow H a ∧ 0 < m ∧ m < 1073741824 ∧ ∀ d H', 0 ≤ d → d < m → Flow H' a → Keep a H H' → Q (.int d) H'
theorem c_take {H : Hp} {Q : VK} {E : XK} {a : Addr} {m : Int} (f : Flow H a) (m0 : 0 < m) (m1 : m < 1073741824) (q : ∀ d H', 0 ≤ d → d < m → Flow H' a → Keep a H H' → Q (.int d) H') : spTake ([.ref a, .int m] ++ []) H Q E := ⟨a, m, rfl, f, m0, m1, q⟩
theorem ok_take (T : Txt P K mg A) : FnOk P w K mg base CX0 1 A.a__law_take A.d__law_take ["flow", "limit"] spTake := by
  refine T.F__law_take.ok sc__law_take (fun vs H Q E h => ?_) (fun cdv A' outer s H vs Q E hr h => ?_)
  · obtain ⟨a, m, rfl, _⟩ := h
    rfl
  · obtain ⟨a, m, rfl, ⟨c, n, b, p, hL⟩, m0, m1, k⟩ := h
    refine ⟨_, (pss_cons (ps_asg (pe_op op_add (pe_ix ix_seq (pv 0) pe_int (fun _ _ => rfl)) pe_int) (pg_sub (pv 0) pe_int set_list))
  (pss_cons (ps_if (pt_val (pe_ix ix_seq (pv 0) pe_int (fun _ _ => rfl))) (pss_cons (ps_set (i := 2) sc__law_take.nd rfl (Or.inl rfl) (pe_op op_mod (pe_callTy call_int1 (by rfl) T.n_int (by decide +kernel) (pa_cons (pe_ix ix_seq (pv 0) pe_int (fun _ _ => rfl)) pa_nil)) (pv 1)))
  (pss_cons (ps_asg (pe_op op_fdiv (pe_ix ix_seq (pv 0) pe_int (fun _ _ => rfl)) (pv 1)) (pg_sub (pv 0) pe_int set_list))
  (pss_one (ps_ret (pv 2))))) pss_nil)
  (pss_cons (ps_set (i := 3) sc__law_take.nd rfl (Or.inl rfl) (pe_op op_mod (pe_callTy call_int1 (by rfl) T.n_int (by decide +kernel) (pa_cons (pe_op op_add (pe_op op_add (pe_op op_mul (pe_ix ix_seq (pv 0) pe_int (fun _ _ => rfl)) pe_int) (pe_op op_mul (pe_ix ix_seq (pv 0) pe_int (fun _ _ => rfl)) pe_int)) (pe_op op_mul (pe_ix ix_seq (pv 0) pe_int (fun _ _ => rfl)) pe_int)) pa_nil)) pe_int))
  (pss_cons (ps_set (i := 3) sc__law_take.nd rfl (Or.inl rfl) (pe_op op_mod (pe_callTy call_int1 (by rfl) T.n_int (by decide +kernel) (pa_cons (pe_op op_add (pe_op op_add (pe_op op_mul (pv 3) pe_int) (pe_op op_mul (pe_ix ix_seq (pv 0) pe_int (fun _ _ => rfl)) pe_int)) pe_int) pa_nil)) pe_int))
  (pss_one (ps_ret (pe_op op_mod (pe_callTy call_int1 (by rfl) T.n_int (by decide +kernel) (pa_cons (pe_op op_fdiv (pv 3) pe_int) pa_nil)) (pv 1)))))))), ?_⟩
    walk_at "sx"
    refine i_b2 (fun hb => ?_) (fun hb => ?_)
    · walk_at "sx"
      exact k _ _ (Int.emod_nonneg _ (by omega)) (Int.emod_lt_of_pos _ m0) ⟨_, _, _, _, by assumption⟩ (by walk_at "kp")
    · walk_at "sx"
      exact k _ _ (Int.emod_nonneg _ (by omega)) (Int.emod_lt_of_pos _ m0) ⟨_, _, _, _, by assumption⟩ (by walk_at "kp")
def spFlow (K : PySem.W.Frag) : Sp := fun vs H Q _ => ∃ (l : Addr) (ns : List Int) (j : Nat), vs = [.ref l, .int (j : Int)] ∧ SqL K H l (ns.map V.int) ∧ ∀ p H', H p = none → Same H H' → Flow H' p → Q (.ref p) H'
theorem c_flow {H : Hp} {Q : VK} {E : XK} {l : Addr} {ns : List Int} {i : Int} (hi : 0 ≤ i) (h : SqL K H l (ns.map V.int)) (q : ∀ p H', H p = none → Same H H' → Flow H' p → Q (.ref p) H') : spFlow K ([.ref l, .int i] ++ []) H Q E :=
  ⟨l, ns, i.toNat, by rw [Int.toNat_of_nonneg hi]; rfl, h, q⟩
theorem ok_flow (T : Txt P K mg A) : FnOk P w K mg base CX0 1 A.a__law_flow A.d__law_flow ["script", "place"] (spFlow K) := by
  refine T.F__law_flow.ok sc__law_flow (fun vs H Q E h => ?_) (fun cdv A' outer s H vs Q E hr h => ?_)
  · obtain ⟨l, ns, j, rfl, _⟩ := h
    rfl
  · obtain ⟨l, ns, j, rfl, hs, k⟩ := h
    refine ⟨_, (pss_cons (ps_set (i := 2) sc__law_flow.nd rfl (Or.inl rfl) pe_int)
  (pss_cons (ps_if (pt_cmpR op_lt (pv 1) (pe_callB call_len (by rfl) T.n_len (by decide +kernel) (pa_cons (pv 0) pa_nil)) (nomark _)) (pss_one (ps_set (i := 2) sc__law_flow.nd rfl (Or.inl rfl) (pe_callB call_abs (by rfl) T.n_abs (by decide +kernel) (pa_cons (pe_callTy call_int1 (by rfl) T.n_int (by decide +kernel) (pa_cons (pe_ix ix_seq (pv 0) (pv 1) (fun _ _ => rfl)) pa_nil)) pa_nil)))) pss_nil)
  (pss_one (ps_ret (pe_lst (pa_cons (pv 2) (pa_cons pe_int (pa_cons (pe_cmpR op_ge (pv 2) (pe_op op_pow pe_int pe_int) (nomark _)) (pa_cons (pv 1) pa_nil))))))))), ?_⟩
    walk_at "sx"
    refine ⟨_, _, rfl, .inl ⟨_, hs, rfl⟩, ?_⟩
    walk_at "sx"
    refine i_2 (fun hb => ?_) (fun hb => ?_)
    · walk_at "sx"
      have hj : j < ns.length := by
        rw [List.length_map] at hb
        omega
      refine r_ixS hs (v := .int (ns[j])) (atI_nat (by rw [List.getElem?_map, List.getElem?_eq_getElem hj]; rfl)) ?_
      walk_at "sx"
      exact k _ _ (by walk_at "fr") (by walk_at "sm") ⟨_, _, _, _, by assumption⟩
    · walk_at "sx"
      exact k _ _ (by walk_at "fr") (by walk_at "sm") ⟨_, _, _, _, by assumption⟩
def spNum : Sp := fun vs H Q _ => ∃ (a : Addr), vs = [.ref a] ∧ Flow H a ∧ ∀ d H', 0 ≤ d → d < 1000000000000 → Flow H' a → Keep a H H' → Q (.int d) H'
theorem c_num {H : Hp} {Q : VK} {E : XK} {a : Addr} (f : Flow H a) (q : ∀ d H', 0 ≤ d → d < 1000000000000 → Flow H' a → Keep a H H' → Q (.int d) H') : spNum ([.ref a] ++ []) H Q E := ⟨a, rfl, f, q⟩
theorem ok_num (T : Txt P K mg A) : FnOk P w K mg base CX0 2 A.a__law_number A.d__law_number ["flow"] spNum := by
  refine T.F__law_number.ok sc__law_number (fun vs H Q E h => ?_) (fun cdv A' outer s H vs Q E hr h => ?_)
  · obtain ⟨a, rfl, _⟩ := h
    rfl
  · obtain ⟨a, rfl, hF, k⟩ := h
    have G__law_take := ok_take (w := w) (base := base) T
    refine ⟨_, (pss_cons (ps_set (i := 1) sc__law_number.nd rfl (Or.inl rfl) (pe_call G__law_take (hr.mono (by decide)) rfl T.g__law_take T.F__law_take.kp (B__law_take T) .nil pass0 (pa_cons (pv 0) (pa_cons pe_int pa_nil))))
  (pss_cons (ps_if (pt_cmpR op_lt (pv 1) pe_int (nomark _)) (pss_one (ps_ret (pe_call G__law_take (hr.mono (by decide)) rfl T.g__law_take T.F__law_take.kp (B__law_take T) .nil pass0 (pa_cons (pv 0) (pa_cons (pe_ix ix_seq (pe_lst (pa_cons pe_int (pa_cons pe_int (pa_cons pe_int pa_nil)))) (pv 1) (fun _ _ => rfl)) pa_nil))))) pss_nil)
  (pss_one (ps_ret (pe_op op_add (pe_op op_mul (pe_call G__law_take (hr.mono (by decide)) rfl T.g__law_take T.F__law_take.kp (B__law_take T) .nil pass0 (pa_cons (pv 0) (pa_cons pe_int pa_nil))) pe_int) (pe_call G__law_take (hr.mono (by decide)) rfl T.g__law_take T.F__law_take.kp (B__law_take T) .nil pass0 (pa_cons (pv 0) (pa_cons pe_int pa_nil)))))))), ?_⟩
    walk_at "sx"
    refine c_take hF (by decide) (by decide) (fun d1 H1 l1 u1 F1 K1 => ?_)
    walk_at "sx"
    refine i_2 (fun hc => ?_) (fun hc => ?_)
    · walk_at "sx"
      have hd : d1 = 0 ∨ d1 = 1 ∨ d1 = 2 := by omega
      rcases hd with rfl | rfl | rfl
      all_goals
        walk_at "sx"
        refine c_take (by walk_at "fl") (by decide) (by decide) (fun d2 H2 l2 u2 F2 K2 => ?_)
        walk_at "sx"
        exact k _ _ l2 (by omega) F2 (by walk_at "kp")
    · walk_at "sx"
      refine c_take (by walk_at "fl") (by decide) (by decide) (fun d2 H2 l2 u2 F2 K2 => ?_)
      walk_at "sx"
      refine c_take (by walk_at "fl") (by decide) (by decide) (fun d3 H3 l3 u3 F3 K3 => ?_)
      walk_at "sx"
      exact k _ _ (by omega) (by omega) F3 (by walk_at "kp")

end
end K03

set_option Elab.async false
set_option linter.all false
set_option maxRecDepth 100000
set_option maxHeartbeats 4000000
namespace K03
open PySem L2 Sx
local macro_rules | `(tactic| walk_at "cond") => `(tactic| first
  | assumption
  | decide
  | exact c_mul_r (by first | decide | omega) (by first | decide | omega)
  | exact c_mul_l (by first | decide | omega) (by first | decide | omega)
  | exact c_div (by first | decide | omega) (by first | decide | omega)
  | exact c_pow (by first | decide | omega) (by first | decide | omega) (by first | decide | omega)
  | omega)
local macro_rules | `(tactic| walk_at "ne") => `(tactic| first
  | assumption
  | (refine Ne.symm ?_; assumption)
  | (refine' Flow.ne ?nh ?nn; (case nn => assumption); (case nh => walk_at "fl"))
  | (refine Ne.symm ?_; refine' Flow.ne ?nh ?nn; (case nn => assumption); (case nh => walk_at "fl"))
  | (refine' ne_of_none ?nh ?nn; (case nn => assumption); (case nh => walk_at "at"))
  | (refine Ne.symm ?_; refine' ne_of_none ?nh ?nn; (case nn => assumption); (case nh => walk_at "at")))
local macro_rules | `(tactic| walk_at "at") => `(tactic| first
  | assumption
  | (refine Same.up (by assumption) ?_; walk_at "at")
  | (refine Keep.up (by assumption) (by walk_at "ne") ?_; walk_at "at"))
local macro_rules | `(tactic| walk_at "fl") => `(tactic| first
  | assumption
  | (refine Flow.same (by assumption) ?_; walk_at "fl")
  | (refine Flow.keep (by assumption) (by walk_at "ne") ?_; walk_at "fl"))
local macro_rules | `(tactic| walk_at "fr") => `(tactic| first
  | assumption
  | (refine same_free (by assumption) ?_; walk_at "fr")
  | (refine Keep.free (by assumption) (by walk_at "ne") ?_; walk_at "fr"))
local macro_rules | `(tactic| walk_at "kp") => `(tactic| first
  | assumption
  | exact Keep.refl _ _
  | (refine Keep.trans ?_ (by assumption); walk_at "kp")
  | (refine Keep.trans ?_ (Keep.same (by assumption)); walk_at "kp"))
local macro_rules | `(tactic| walk_at "sm") => `(tactic| first
  | assumption
  | exact L2.Same.refl _
  | (refine L2.Same.trans ?_ (by assumption); walk_at "sm"))
local macro_rules | `(tactic| walk_at "sz") => `(tactic| first | exact Nat.le_of_ble_eq_true rfl | omega)
local macro_rules | `(tactic| walk_at "new") => `(tactic| (intro p np; generalize hE : upd _ p _ = H2; have s2 := new_same np hE; have h2 := new_at hE; clear hE))
local macro_rules | `(tactic| walk_at "newx") => `(tactic| (intro e d na nd hda; generalize hE : upd (upd _ d _) e _ = H2; have s2 := newx_same na nd hE; have h2 := newx_at hE; have h3 := newx_d hda hE; clear hE))
local macro_rules | `(tactic| walk_at "s1") => `(tactic| first
  | with_reducible refine s_seq ?_
  | with_reducible refine s_asg ?_
  | with_reducible refine s_name ?_
  | with_reducible refine s_ret ?_
  | with_reducible refine s_c ?_
  | ((with_reducible refine' s_var ?hv ?_); (case hv => rfl))
  | with_reducible refine s_op ?_
  | with_reducible refine s_un ?_
  | with_reducible refine s_ifS ?_
  | with_reducible refine s_cb ?_
  | with_reducible refine s_cons ?_
  | with_reducible refine s_nil ?_
  | with_reducible refine s_call ?_
  | with_reducible refine s_test ?_
  | with_reducible refine s_tB ?_
  | with_reducible refine s_bl ?_
  | with_reducible refine s_and ?_
  | with_reducible refine s_or ?_
  | with_reducible refine s_not ?_
  | with_reducible refine s_andV ?_
  | with_reducible refine s_orV ?_
  | with_reducible refine s_notV ?_
  | with_reducible refine s_blV ?_
  | with_reducible refine s_if ?_
  | with_reducible refine s_tup ?_
  | with_reducible refine s_lst ?_
  | with_reducible refine s_drop ?_
  | with_reducible refine s_next ?_
  | with_reducible refine s_sub ?_
  | with_reducible refine s_bm ?_
  | with_reducible refine s_callK ?_
  | with_reducible refine s_brk ?_
  | with_reducible refine s_cont ?_
  | with_reducible refine r_I0 ?_
  | with_reducible refine r_U ?_
  | with_reducible refine r_eqI ?_
  | with_reducible refine r_neI ?_
  | with_reducible refine r_isB ?_
  | with_reducible refine r_notB ?_
  | with_reducible refine i_t ?_
  | with_reducible refine i_f ?_
  | with_reducible refine i_nt ?_
  | with_reducible refine i_nf ?_
  | ((with_reducible refine' r_I ?hc ?_); (case hc => walk_at "cond"))
  | (with_reducible refine .inl ⟨_, rfl, ?_⟩)
  | (with_reducible refine ⟨_, rfl, ?_⟩)
  | ((with_reducible refine' r_ixL ?hx ?ha ?_); (case hx => walk_at "at"); (case ha => rfl))
  | ((with_reducible refine' r_ixT ?hx ?ha ?_); (case hx => walk_at "at"); (case ha => rfl))
  | ((with_reducible refine' r_setL ?hx ?ha ?_); (case hx => walk_at "at"); (case ha => rfl); intro H2 k2 h2; (try dsimp only [List.set, Int.toNat] at h2))
  | ((with_reducible refine' r_app ?hx ?hl ?_); (case hx => walk_at "at"); (case hl => first | exact Nat.lt_of_ble_eq_true rfl | omega); intro H2 k2 h2)
  | ((with_reducible refine' ty_list ?hx ?_); (case hx => walk_at "at"))
  | (refine And.intro (by (with_reducible show _ ≤ sizeLine); walk_at "sz") ?_; walk_at "new")
  | with_reducible refine s_exv ?_
  | walk_at "newx")
local macro_rules | `(tactic| walk_at "sx") => `(tactic| repeat (walk_at "s1"))
local macro_rules | `(tactic| walk_at "s2") => `(tactic| first
  | ((with_reducible refine' r_ixG ?hx ?hn ?_); (case hx => walk_at "at"); (case hn => omega))
  | ((with_reducible refine' r_ixGT ?hx ?hn ?_); (case hx => walk_at "at"); (case hn => omega))
  | (with_reducible refine ig_cons (fun hix => ?_) (fun hix => ?_))
  | ((with_reducible refine ig_nil ?_); omega)
  | ((with_reducible refine' i_T ?hc ?_); (case hc => omega))
  | ((with_reducible refine' i_F ?hc ?_); (case hc => omega))
  | (with_reducible refine i_2 (fun hc => ?_) (fun hc => ?_))
  | (with_reducible refine i_n2 (fun hc => ?_) (fun hc => ?_)))
local macro_rules | `(tactic| walk_at "go") => `(tactic| repeat' (first | walk_at "s1" | walk_at "s2"))

local macro_rules | `(tactic| walk_at "sms") => `(tactic| first
  | assumption
  | exact Sm.neg (by walk_at "sms")
  | exact Sm.mul (by walk_at "sms") (by walk_at "sms")
  | exact Sm.add (by walk_at "sms") (by walk_at "sms")
  | exact Sm.sub (by walk_at "sms") (by walk_at "sms")
  | exact sm_1
  | exact sm_3)
local macro_rules | `(tactic| walk_at "s1") => `(tactic| first
  | ((with_reducible refine' r_I (C := CMulW) ?hc ?_); (case hc => exact c_mulW (by walk_at "sms") (by walk_at "sms") (by first | decide | omega))))
section
variable {P : Program} {w : World} {K : PySem.W.Frag} {mg : Str → Option Value} {base : Heap} {A : Ad}
abbrev Shr (H : Hp) (p : Addr) (x y : Int) : Prop := H p = some (.tup [.int x, .int y])
/-- a share stands at p: small numbers, the second above nought -/
structure Sh (n : Nat) (H : Hp) (p : Addr) (x y : Int) : Prop where
  at_ : Shr H p x y
  sx : Sm n x
  sy : Sm n y
  po : 0 < y
theorem Sh.up {n : Nat} {H H' : Hp} {p : Addr} {x y : Int} (s : Sh n H p x y) (k : ∀ o, H p = some o → H' p = some o) : Sh n H' p x y := ⟨k _ s.at_, s.sx, s.sy, s.po⟩
theorem Sh.same {n : Nat} {H H' : Hp} {p : Addr} {x y : Int} (e : Same H H') (s : Sh n H p x y) : Sh n H' p x y := s.up fun o h => e _ _ h
def spRed : Sp := fun vs H Q _ => ∃ (u l : Int), vs = [.int u, .int l] ∧ l ≠ 0 ∧ Sm 360 u ∧ Sm 360 l ∧ ∀ p H', H p = none → Same H H' → Shr H' p (rdU u l) (rdL u l) → Q (.ref p) H'
theorem c_red {H : Hp} {Q : VK} {E : XK} {u l : Int} (h0 : l ≠ 0) (hu : Sm 360 u) (hl : Sm 360 l) (q : ∀ p H', H p = none → Same H H' → Shr H' p (rdU u l) (rdL u l) → Q (.ref p) H') : spRed ([.int u, .int l] ++ []) H Q E := ⟨u, l, rfl, h0, hu, hl, q⟩
theorem abs_is (x : Int) : (if x < 0 then -x else x) = (x.natAbs : Int) := by split <;> omega
theorem ok_red (T : Txt P K mg A) : FnOk P w K mg base CX0 1 A.a__law_reduced A.d__law_reduced ["upper", "lower"] spRed := by
  refine T.F__law_reduced.ok sc__law_reduced (fun vs H Q E h => ?_) (fun cdv A' outer s H vs Q E hr h => ?_)
  · obtain ⟨u, l, rfl, _⟩ := h
    rfl
  · obtain ⟨u, l, rfl, h0, hu, hl, k⟩ := h
    refine ⟨_, (pss_cons (ps_set (i := 2) sc__law_reduced.nd rfl (Or.inl rfl) (pe_callB call_abs (by rfl) T.n_abs (by decide +kernel) (pa_cons (pv 0) pa_nil)))
  (pss_cons (ps_set (i := 3) sc__law_reduced.nd rfl (Or.inl rfl) (pe_callB call_abs (by rfl) T.n_abs (by decide +kernel) (pa_cons (pv 1) pa_nil)))
  (pss_cons (ps_for PassesOwn.never rfl (pi_range1 rfl T.n_range (pa_cons pe_int pa_nil)) (pg_name (i := 4) sc__law_reduced.nd rfl (Or.inl rfl))
  (pss_cons (ps_if (pt_cmpR op_eq (pv 3) pe_int (nomark _)) (pss_one ps_break) pss_nil)
  (pss_cons (ps_set (i := 5) sc__law_reduced.nd rfl (Or.inl rfl) (pe_op op_mod (pe_callTy call_int1 (by rfl) T.n_int (by decide +kernel) (pa_cons (pv 2) pa_nil)) (pv 3)))
  (pss_cons (ps_set (i := 2) sc__law_reduced.nd rfl (Or.inl rfl) (pv 3))
  (pss_one (ps_set (i := 3) sc__law_reduced.nd rfl (Or.inl rfl) (pv 5)))))))
  (pss_cons (ps_if (pt_cmpR op_lt (pv 1) pe_int (nomark _)) (pss_one (ps_set (i := 2) sc__law_reduced.nd rfl (Or.inl rfl) (pe_un un_neg (pv 2)))) pss_nil)
  (pss_one (ps_ret (pe_tup (pa_cons (pe_op op_fdivV (pv 0) (pv 2)) (pa_cons (pe_op op_fdivV (pv 1) (pv 2)) pa_nil))))))))), ?_⟩
    walk_at "sx"
    rw [abs_is, abs_is]
    -- behind the loop: one is the divisor
    have e1 : ∀ z : Int, z = sgd u l → L2.CDivV u z ∧ L2.CDivV l z := fun z e => by
      rw [e]
      exact ⟨c_divV h0 hl (by decide), c_divV h0 hl (by decide)⟩
    have fin : ∀ (b : Int) (v1 v2 : Option V) (D : Ends), D.rt = Q → tSeq (tIfS (tTest (tOp (rI0 fun i j => .bl (decide (i < j))) (tVar 1) (tC (.int 0)))) (tAsg (tUn (rU fun i => .int (-i)) (tVar 2)) (gName 2)) tNext)
        (tRet (tTup (tCons (tOp (rI L2.CDivV fun i j => .int (i.fdiv j)) (tVar 0) (tVar 2)) (tCons (tOp (rI L2.CDivV fun i j => .int (i.fdiv j)) (tVar 1) (tVar 2)) tNil)))) D
        [some (.int u), some (.int l), some (.int ((Nat.gcd u.natAbs l.natAbs : Nat) : Int)), some (.int b), v1, v2] H := by
      intro b v1 v2 D hD
      walk_at "sx"
      refine i_2 (fun hb => ?_) (fun hb => ?_)
      · have e : -((Nat.gcd u.natAbs l.natAbs : Nat) : Int) = sgd u l := by unfold sgd; rw [if_pos hb]
        walk_at "sx"
        rw [e]
        refine r_I (e1 _ rfl).1 ?_
        walk_at "sx"
        refine r_I (e1 _ rfl).2 ?_
        walk_at "sx"
        rw [hD]
        exact k _ _ (by walk_at "fr") (by walk_at "sm") (by assumption)
      · have e : ((Nat.gcd u.natAbs l.natAbs : Nat) : Int) = sgd u l := by unfold sgd; rw [if_neg hb]
        walk_at "sx"
        rw [e]
        refine r_I (e1 _ rfl).1 ?_
        walk_at "sx"
        refine r_I (e1 _ rfl).2 ?_
        walk_at "sx"
        rw [hD]
        exact k _ _ (by walk_at "fr") (by walk_at "sm") (by assumption)
    refine ⟨_, rfl, by decide, by decide, for_range (lo := 0) (n := 1000) (fun i σ H' => H' = H ∧ ∃ (a b : Nat) (v1 v2 : Option V), σ = [some (.int u), some (.int l), some (.int a), some (.int b), v1, v2] ∧ Nat.gcd a b = Nat.gcd u.natAbs l.natAbs ∧ EuI 720 0 u.natAbs l.natAbs i a b) ?_ ?_ ?_⟩
    · exact ⟨rfl, u.natAbs, l.natAbs, _, _, rfl, rfl, rfl, rfl⟩
    · rintro i σ H' hi ⟨rfl, a, b, v1, v2, rfl, hg, he⟩
      walk_at "sx"
      refine i_2 (fun hc => ?_) (fun hc => ?_)
      · have hb : b = 0 := by omega
        subst hb
        rw [Nat.gcd_zero_right] at hg
        subst hg
        refine s_brk ?_
        exact fin _ _ _ _ rfl
      · have hb : 0 < b := by omega
        walk_at "sx"
        refine ⟨rfl, b, a % b, _, _, rfl, by rw [eu_gcd]; exact hg, eu_step ?_ he hb⟩
        have := Nat.mul_lt_mul'' hl hl
        rw [← Nat.pow_add] at this
        exact Nat.le_of_lt this
    · rintro σ H' ⟨rfl, a, b, v1, v2, rfl, hg, he⟩
      have hb := eu_end (n := 999) (by decide) he
      subst hb
      rw [Nat.gcd_zero_right] at hg
      subst hg
      exact fin _ _ _ _ rfl
/-! the program's own -/
def spShare : Sp := fun vs H Q _ => ∃ (a b : Int), vs = [.int a, .int b] ∧ b ≠ 0 ∧ Sm 360 b ∧ ∀ p H', H p = none → Same H H' → Shr H' p (rdU a b) (rdL a b) → Q (.ref p) H'
theorem ok_share (T : Txt P K mg A) : FnOk P w K mg base CX0 1 A.a_share_of A.d_share_of ["a", "b"] spShare := by
  refine T.F_share_of.ok sc_share_of (fun vs H Q E h => ?_) (fun cdv A' outer s H vs Q E hr h => ?_)
  · obtain ⟨a, b, rfl, _⟩ := h
    rfl
  · obtain ⟨a, b, rfl, h0, hb, k⟩ := h
    refine ⟨_, (pss_cons (ps_if (pt_cmpR op_eq (pv 1) pe_int (nomark _)) (pss_one ps_never) pss_nil)
  (pss_cons (ps_set (i := 2) sc_share_of.nd rfl (Or.inl rfl) (pe_callBfun cr_gcd (by rfl) T.m_gcd (pa_cons (pv 0) (pa_cons (pv 1) pa_nil))))
  (pss_cons (ps_if (pt_cmpR op_lt (pv 1) pe_int (nomark _)) (pss_one (ps_set (i := 2) sc_share_of.nd rfl (Or.inl rfl) (pe_un un_neg (pv 2)))) pss_nil)
  (pss_one (ps_ret (pe_tup (pa_cons (pe_op op_fdivV (pv 0) (pv 2)) (pa_cons (pe_op op_fdivV (pv 1) (pv 2)) pa_nil)))))))), ?_⟩
    walk_at "sx"
    refine i_F h0 ?_
    walk_at "sx"
    refine r_gcd ?_
    walk_at "sx"
    have e1 : ∀ z : Int, z = sgd a b → L2.CDivV a z ∧ L2.CDivV b z := fun z e => by
      rw [e]
      exact ⟨c_divV h0 hb (by decide), c_divV h0 hb (by decide)⟩
    refine i_2 (fun hl => ?_) (fun hl => ?_)
    · have e : -((Nat.gcd a.natAbs b.natAbs : Nat) : Int) = sgd a b := by unfold sgd; rw [if_pos hl]
      walk_at "sx"
      rw [e]
      refine r_I (e1 _ rfl).1 ?_
      walk_at "sx"
      refine r_I (e1 _ rfl).2 ?_
      walk_at "sx"
      exact k _ _ (by walk_at "fr") (by walk_at "sm") (by assumption)
    · have e : ((Nat.gcd a.natAbs b.natAbs : Nat) : Int) = sgd a b := by unfold sgd; rw [if_neg hl]
      walk_at "sx"
      rw [e]
      refine r_I (e1 _ rfl).1 ?_
      walk_at "sx"
      refine r_I (e1 _ rfl).2 ?_
      walk_at "sx"
      exact k _ _ (by walk_at "fr") (by walk_at "sm") (by assumption)
/-- two shares in, a share of f and g of them out -/
def spTwo (f g : Int → Int → Int → Int → Int) : Sp := fun vs H Q _ => ∃ (p q : Addr) (n m : Nat) (a b c d : Int), vs = [.ref p, .ref q] ∧ Sh n H p a b ∧ Sh m H q c d ∧ n + m ≤ 355 ∧ ∀ r H', H r = none → Same H H' → Shr H' r (rdU (f a b c d) (g a b c d)) (rdL (f a b c d) (g a b c d)) → Q (.ref r) H'
abbrev fP (a b c d : Int) : Int := a * d + c * b
abbrev fM (a b c d : Int) : Int := a * d - c * b
abbrev fT (a _ c _ : Int) : Int := a * c
abbrev gD (_ b _ d : Int) : Int := b * d
abbrev fO (a _ _ d : Int) : Int := a * d
abbrev gO (_ b c _ : Int) : Int := b * c
theorem gd_pos {b d : Int} (h : 0 < b) (g : 0 < d) : b * d ≠ 0 := Int.ne_of_gt (Int.mul_pos h g)
local macro_rules | `(tactic| walk_at "s2") => `(tactic| first
  | ((with_reducible show spShare _ _ _ _); refine' ⟨_, _, rfl, ?hb, ?h0, ?_⟩; (case hb => exact gd_pos (by assumption) (by assumption)); (case h0 => exact Sm.mono (Sm.mul (by assumption) (by assumption)) (by omega)); intro p H' np s' h'))
theorem ok_plus (T : Txt P K mg A) : FnOk P w K mg base CX0 2 A.a_plus A.d_plus ["one", "other"] (spTwo fP gD) := by
  refine T.F_plus.ok sc_plus (fun vs H Q E h => ?_) (fun cdv A' outer s H vs Q E hr h => ?_)
  · obtain ⟨p, q, n, m, a, b, c, d, rfl, _⟩ := h
    rfl
  · obtain ⟨p, q, n, m, a, b, c, d, rfl, ⟨hp, sa, sb, pb⟩, ⟨hq, sc, sd, pd⟩, hnm, k⟩ := h
    have G_share_of := ok_share (w := w) (base := base) T
    refine ⟨_, (pss_one (ps_ret (pe_call G_share_of (hr.mono (by decide)) rfl T.g_share_of T.F_share_of.kp (B_share_of T) .nil pass0 (pa_cons (pe_op op_add (pe_op op_mulW (pe_ix ix_seq (pv 0) pe_int (fun _ _ => rfl)) (pe_ix ix_seq (pv 1) pe_int (fun _ _ => rfl))) (pe_op op_mulW (pe_ix ix_seq (pv 1) pe_int (fun _ _ => rfl)) (pe_ix ix_seq (pv 0) pe_int (fun _ _ => rfl)))) (pa_cons (pe_op op_mulW (pe_ix ix_seq (pv 0) pe_int (fun _ _ => rfl)) (pe_ix ix_seq (pv 1) pe_int (fun _ _ => rfl))) pa_nil))))), ?_⟩
    walk_at "go"
    exact k _ _ (by assumption) (by assumption) (by assumption)
theorem ok_less (T : Txt P K mg A) : FnOk P w K mg base CX0 2 A.a_less A.d_less ["one", "other"] (spTwo fM gD) := by
  refine T.F_less.ok sc_less (fun vs H Q E h => ?_) (fun cdv A' outer s H vs Q E hr h => ?_)
  · obtain ⟨p, q, n, m, a, b, c, d, rfl, _⟩ := h
    rfl
  · obtain ⟨p, q, n, m, a, b, c, d, rfl, ⟨hp, sa, sb, pb⟩, ⟨hq, sc, sd, pd⟩, hnm, k⟩ := h
    have G_share_of := ok_share (w := w) (base := base) T
    refine ⟨_, (pss_one (ps_ret (pe_call G_share_of (hr.mono (by decide)) rfl T.g_share_of T.F_share_of.kp (B_share_of T) .nil pass0 (pa_cons (pe_op op_sub (pe_op op_mulW (pe_ix ix_seq (pv 0) pe_int (fun _ _ => rfl)) (pe_ix ix_seq (pv 1) pe_int (fun _ _ => rfl))) (pe_op op_mulW (pe_ix ix_seq (pv 1) pe_int (fun _ _ => rfl)) (pe_ix ix_seq (pv 0) pe_int (fun _ _ => rfl)))) (pa_cons (pe_op op_mulW (pe_ix ix_seq (pv 0) pe_int (fun _ _ => rfl)) (pe_ix ix_seq (pv 1) pe_int (fun _ _ => rfl))) pa_nil))))), ?_⟩
    walk_at "go"
    exact k _ _ (by assumption) (by assumption) (by assumption)
theorem ok_times (T : Txt P K mg A) : FnOk P w K mg base CX0 2 A.a_times A.d_times ["one", "other"] (spTwo fT gD) := by
  refine T.F_times.ok sc_times (fun vs H Q E h => ?_) (fun cdv A' outer s H vs Q E hr h => ?_)
  · obtain ⟨p, q, n, m, a, b, c, d, rfl, _⟩ := h
    rfl
  · obtain ⟨p, q, n, m, a, b, c, d, rfl, ⟨hp, sa, sb, pb⟩, ⟨hq, sc, sd, pd⟩, hnm, k⟩ := h
    have G_share_of := ok_share (w := w) (base := base) T
    refine ⟨_, (pss_one (ps_ret (pe_call G_share_of (hr.mono (by decide)) rfl T.g_share_of T.F_share_of.kp (B_share_of T) .nil pass0 (pa_cons (pe_op op_mulW (pe_ix ix_seq (pv 0) pe_int (fun _ _ => rfl)) (pe_ix ix_seq (pv 1) pe_int (fun _ _ => rfl))) (pa_cons (pe_op op_mulW (pe_ix ix_seq (pv 0) pe_int (fun _ _ => rfl)) (pe_ix ix_seq (pv 1) pe_int (fun _ _ => rfl))) pa_nil))))), ?_⟩
    walk_at "go"
    exact k _ _ (by assumption) (by assumption) (by assumption)
end
end K03

set_option Elab.async false
set_option linter.all false
set_option maxRecDepth 100000
set_option maxHeartbeats 4000000
namespace K03
open PySem L2 Sx
local macro_rules | `(tactic| walk_at "cond") => `(tactic| first
  | assumption
  | decide
  | exact c_mul_r (by first | decide | omega) (by first | decide | omega)
  | exact c_mul_l (by first | decide | omega) (by first | decide | omega)
  | exact c_div (by first | decide | omega) (by first | decide | omega)
  | exact c_pow (by first | decide | omega) (by first | decide | omega) (by first | decide | omega)
  | omega)
local macro_rules | `(tactic| walk_at "ne") => `(tactic| first
  | assumption
  | (refine Ne.symm ?_; assumption)
  | (refine' Flow.ne ?nh ?nn; (case nn => assumption); (case nh => walk_at "fl"))
  | (refine Ne.symm ?_; refine' Flow.ne ?nh ?nn; (case nn => assumption); (case nh => walk_at "fl"))
  | (refine' ne_of_none ?nh ?nn; (case nn => assumption); (case nh => walk_at "at"))
  | (refine Ne.symm ?_; refine' ne_of_none ?nh ?nn; (case nn => assumption); (case nh => walk_at "at")))
local macro_rules | `(tactic| walk_at "at") => `(tactic| first
  | assumption
  | (refine Same.up (by assumption) ?_; walk_at "at")
  | (refine Keep.up (by assumption) (by walk_at "ne") ?_; walk_at "at"))
local macro_rules | `(tactic| walk_at "fl") => `(tactic| first
  | assumption
  | (refine Flow.same (by assumption) ?_; walk_at "fl")
  | (refine Flow.keep (by assumption) (by walk_at "ne") ?_; walk_at "fl"))
local macro_rules | `(tactic| walk_at "fr") => `(tactic| first
  | assumption
  | (refine same_free (by assumption) ?_; walk_at "fr")
  | (refine Keep.free (by assumption) (by walk_at "ne") ?_; walk_at "fr"))
local macro_rules | `(tactic| walk_at "kp") => `(tactic| first
  | assumption
  | exact Keep.refl _ _
  | (refine Keep.trans ?_ (by assumption); walk_at "kp")
  | (refine Keep.trans ?_ (Keep.same (by assumption)); walk_at "kp"))
local macro_rules | `(tactic| walk_at "sm") => `(tactic| first
  | assumption
  | exact L2.Same.refl _
  | (refine L2.Same.trans ?_ (by assumption); walk_at "sm"))
local macro_rules | `(tactic| walk_at "sz") => `(tactic| first | exact Nat.le_of_ble_eq_true rfl | omega)
local macro_rules | `(tactic| walk_at "new") => `(tactic| (intro p np; generalize hE : upd _ p _ = H2; have s2 := new_same np hE; have h2 := new_at hE; clear hE))
local macro_rules | `(tactic| walk_at "newx") => `(tactic| (intro e d na nd hda; generalize hE : upd (upd _ d _) e _ = H2; have s2 := newx_same na nd hE; have h2 := newx_at hE; have h3 := newx_d hda hE; clear hE))
local macro_rules | `(tactic| walk_at "s1") => `(tactic| first
  | with_reducible refine s_seq ?_
  | with_reducible refine s_asg ?_
  | with_reducible refine s_name ?_
  | with_reducible refine s_ret ?_
  | with_reducible refine s_c ?_
  | ((with_reducible refine' s_var ?hv ?_); (case hv => rfl))
  | with_reducible refine s_op ?_
  | with_reducible refine s_un ?_
  | with_reducible refine s_ifS ?_
  | with_reducible refine s_cb ?_
  | with_reducible refine s_cons ?_
  | with_reducible refine s_nil ?_
  | with_reducible refine s_call ?_
  | with_reducible refine s_test ?_
  | with_reducible refine s_tB ?_
  | with_reducible refine s_bl ?_
  | with_reducible refine s_and ?_
  | with_reducible refine s_or ?_
  | with_reducible refine s_not ?_
  | with_reducible refine s_andV ?_
  | with_reducible refine s_orV ?_
  | with_reducible refine s_notV ?_
  | with_reducible refine s_blV ?_
  | with_reducible refine s_if ?_
  | with_reducible refine s_tup ?_
  | with_reducible refine s_lst ?_
  | with_reducible refine s_drop ?_
  | with_reducible refine s_next ?_
  | with_reducible refine s_sub ?_
  | with_reducible refine s_bm ?_
  | with_reducible refine s_callK ?_
  | with_reducible refine s_brk ?_
  | with_reducible refine s_cont ?_
  | with_reducible refine r_I0 ?_
  | with_reducible refine r_U ?_
  | with_reducible refine r_eqI ?_
  | with_reducible refine r_neI ?_
  | with_reducible refine r_isB ?_
  | with_reducible refine r_notB ?_
  | with_reducible refine i_t ?_
  | with_reducible refine i_f ?_
  | with_reducible refine i_nt ?_
  | with_reducible refine i_nf ?_
  | ((with_reducible refine' r_I ?hc ?_); (case hc => walk_at "cond"))
  | (with_reducible refine .inl ⟨_, rfl, ?_⟩)
  | (with_reducible refine ⟨_, rfl, ?_⟩)
  | ((with_reducible refine' r_ixL ?hx ?ha ?_); (case hx => walk_at "at"); (case ha => rfl))
  | ((with_reducible refine' r_ixT ?hx ?ha ?_); (case hx => walk_at "at"); (case ha => rfl))
  | ((with_reducible refine' r_setL ?hx ?ha ?_); (case hx => walk_at "at"); (case ha => rfl); intro H2 k2 h2; (try dsimp only [List.set, Int.toNat] at h2))
  | ((with_reducible refine' r_app ?hx ?hl ?_); (case hx => walk_at "at"); (case hl => first | exact Nat.lt_of_ble_eq_true rfl | omega); intro H2 k2 h2)
  | ((with_reducible refine' ty_list ?hx ?_); (case hx => walk_at "at"))
  | (refine And.intro (by (with_reducible show _ ≤ sizeLine); walk_at "sz") ?_; walk_at "new")
  | with_reducible refine s_exv ?_
  | walk_at "newx")
local macro_rules | `(tactic| walk_at "sx") => `(tactic| repeat (walk_at "s1"))
local macro_rules | `(tactic| walk_at "s2") => `(tactic| first
  | ((with_reducible refine' r_ixG ?hx ?hn ?_); (case hx => walk_at "at"); (case hn => omega))
  | ((with_reducible refine' r_ixGT ?hx ?hn ?_); (case hx => walk_at "at"); (case hn => omega))
  | (with_reducible refine ig_cons (fun hix => ?_) (fun hix => ?_))
  | ((with_reducible refine ig_nil ?_); omega)
  | ((with_reducible refine' i_T ?hc ?_); (case hc => omega))
  | ((with_reducible refine' i_F ?hc ?_); (case hc => omega))
  | (with_reducible refine i_2 (fun hc => ?_) (fun hc => ?_))
  | (with_reducible refine i_n2 (fun hc => ?_) (fun hc => ?_)))
local macro_rules | `(tactic| walk_at "go") => `(tactic| repeat' (first | walk_at "s1" | walk_at "s2"))

local macro_rules | `(tactic| walk_at "sms") => `(tactic| first
  | assumption
  | exact Sm.neg (by walk_at "sms")
  | exact Sm.mul (by walk_at "sms") (by walk_at "sms")
  | exact Sm.add (by walk_at "sms") (by walk_at "sms")
  | exact Sm.sub (by walk_at "sms") (by walk_at "sms")
  | exact sm_1
  | exact sm_3)
local macro_rules | `(tactic| walk_at "s1") => `(tactic| first
  | ((with_reducible refine' r_I (C := CMulW) ?hc ?_); (case hc => exact c_mulW (by walk_at "sms") (by walk_at "sms") (by first | decide | omega)))
  | ((with_reducible refine' r_I (C := CDivW) ?hc ?_); (case hc => exact c_divW (by assumption) (by walk_at "sms") (by first | decide | omega)))
  | (with_reducible refine ⟨_, _, rfl, ?_⟩))
section
variable {P : Program} {w : World} {K : PySem.W.Frag} {mg : Str → Option Value} {base : Heap} {A : Ad}
def spOver (C : Addr) : Sp := fun vs H Q E => ∃ (p q : Addr) (n m : Nat) (a b c d : Int), vs = [.ref p, .ref q] ∧ Sh n H p a b ∧ Sh m H q c d ∧ n + m ≤ 355 ∧
  (c = 0 → ∀ e, H e = none → E (.ref C) (some e) (upd H e (.xd [("what", .str "nought")]))) ∧
  (c ≠ 0 → ∀ r H', H r = none → Same H H' → Shr H' r (rdU (a * d) (b * c)) (rdL (a * d) (b * c)) → Q (.ref r) H')
theorem ok_over (T : Txt P K mg A) : FnOk P w K mg base (L2N.CX P w) 2 A.a_over A.d_over ["one", "other"] (spOver A.c_Undefined) := by
  refine T.F_over.okN sc_over (fun vs H Q E h => ?_) (fun cdv A' outer s H vs Q E hr h => ?_)
  · obtain ⟨p, q, n, m, a, b, c, d, rfl, _⟩ := h
    rfl
  · obtain ⟨p, q, n, m, a, b, c, d, rfl, ⟨hp, sa, sb, pb⟩, ⟨hq, sc, sd, pd⟩, hnm, kE, k⟩ := h
    have G_share_of := ok_share (w := w) (base := base) T
    refine ⟨_, (pss_cons (ps_if (pt_cmpR op_eq (pe_ix ix_seq (pv 1) pe_int (fun _ _ => rfl)) pe_int (nomark _)) (pss_one (Sup_what.ps_raiseSupN rfl T.X_Undefined hr (L2N.takes_of rfl rfl rfl rfl) (pa_cons pe_str pa_nil))) pss_nil)
  (pss_one (ps_ret (pe_call G_share_of (hr.mono (by decide)) rfl T.g_share_of T.F_share_of.kp (B_share_of T) .nil pass0 (pa_cons (pe_op op_mulW (pe_ix ix_seq (pv 0) pe_int (fun _ _ => rfl)) (pe_ix ix_seq (pv 1) pe_int (fun _ _ => rfl))) (pa_cons (pe_op op_mulW (pe_ix ix_seq (pv 0) pe_int (fun _ _ => rfl)) (pe_ix ix_seq (pv 1) pe_int (fun _ _ => rfl))) pa_nil)))))), ?_⟩
    walk_at "sx"
    refine i_2 (fun h0 => ?_) (fun h0 => ?_)
    · refine ⟨_, rfl, fun e he => kE h0 e he⟩
    · walk_at "sx"
      refine ⟨_, _, rfl, Int.mul_ne_zero (by omega) h0, Sm.mono (Sm.mul sb sc) (by omega), fun r H' nr s' h' => ?_⟩
      exact k h0 r H' nr s' h'
def spBelow : Sp := fun vs H Q _ => ∃ (p q : Addr) (n m : Nat) (a b c d : Int), vs = [.ref p, .ref q] ∧ Sh n H p a b ∧ Sh m H q c d ∧ n + m ≤ 700 ∧ Q (.bl (decide (a * d < c * b))) H
theorem ok_below (T : Txt P K mg A) : FnOk P w K mg base CX0 1 A.a_is_below A.d_is_below ["one", "other"] spBelow := by
  refine T.F_is_below.ok sc_is_below (fun vs H Q E h => ?_) (fun cdv A' outer s H vs Q E hr h => ?_)
  · obtain ⟨p, q, n, m, a, b, c, d, rfl, _⟩ := h
    rfl
  · obtain ⟨p, q, n, m, a, b, c, d, rfl, ⟨hp, sa, sb, pb⟩, ⟨hq, sc, sd, pd⟩, hnm, k⟩ := h
    refine ⟨_, (pss_one (ps_ret (pe_cmpR op_lt (pe_op op_mulW (pe_ix ix_seq (pv 0) pe_int (fun _ _ => rfl)) (pe_ix ix_seq (pv 1) pe_int (fun _ _ => rfl))) (pe_op op_mulW (pe_ix ix_seq (pv 1) pe_int (fun _ _ => rfl)) (pe_ix ix_seq (pv 0) pe_int (fun _ _ => rfl))) (nomark _)))), ?_⟩
    walk_at "sx"
    exact k
/-! sums of many -/
inductive ShL (H : Hp) : List V → List (Int × Int) → Prop where
  | nil : ShL H [] []
  | cons {p : Addr} {a b : Int} {xs : List V} {ps : List (Int × Int)} (h : Sh 40 H p a b) (t : ShL H xs ps) : ShL H (.ref p :: xs) ((a, b) :: ps)
theorem ShL.same {H H' : Hp} (e : Same H H') : ∀ {xs ps}, ShL H xs ps → ShL H' xs ps
  | _, _, .nil => .nil
  | _, _, .cons h t => .cons (h.same e) (ShL.same e t)
theorem ShL.len {H : Hp} : ∀ {xs ps}, ShL H xs ps → xs.length = ps.length
  | _, _, .nil => rfl
  | _, _, .cons _ t => congrArg Nat.succ (ShL.len t)
theorem ShL.get {H : Hp} : ∀ {xs ps} {i : Nat} {x : V}, ShL H xs ps → xs[i]? = some x → ∃ p a b, x = .ref p ∧ ps[i]? = some (a, b) ∧ Sh 40 H p a b
  | _, _, i, x, .nil, e => by simp at e
  | _, _, 0, x, .cons h t, e => by
    simp only [List.getElem?_cons_zero, Option.some.injEq] at e
    exact ⟨_, _, _, e.symm, by simp, h⟩
  | _, _, i + 1, x, .cons h t, e => by
    obtain ⟨p, a, b, h1, h2, h3⟩ := ShL.get (i := i) (x := x) t (by simpa using e)
    exact ⟨p, a, b, h1, by simpa using h2, h3⟩
theorem ShL.app {H : Hp} {p : Addr} {a b : Int} (h : Sh 40 H p a b) : ∀ {xs ps}, ShL H xs ps → ShL H (xs ++ [.ref p]) (ps ++ [(a, b)])
  | _, _, .nil => .cons h .nil
  | _, _, .cons g t => .cons g (ShL.app h t)
def stp (t s : Int × Int) : Int × Int := (rdU (fP t.1 t.2 s.1 s.2) (gD t.1 t.2 s.1 s.2), rdL (fP t.1 t.2 s.1 s.2) (gD t.1 t.2 s.1 s.2))
def tot (ps : List (Int × Int)) : Int × Int := ps.foldl stp (0, 1)
theorem tot_snoc (ps : List (Int × Int)) (s : Int × Int) : tot (ps ++ [s]) = stp (tot ps) s := by
  unfold tot
  rw [List.foldl_append]
  rfl
theorem stp_sh {n : Nat} {t s : Int × Int} (h1 : Sm n t.1) (h2 : Sm n t.2) (h3 : 0 < t.2) (g1 : Sm 40 s.1) (g2 : Sm 40 s.2) (g3 : 0 < s.2) : Sm (n + 41) (stp t s).1 ∧ Sm (n + 41) (stp t s).2 ∧ 0 < (stp t s).2 := by
  have h0 : 0 < t.2 * s.2 := Int.mul_pos h3 g3
  refine ⟨rdU_sm (Int.ne_of_gt h0) ?_, rdL_sm (Int.ne_of_gt h0) ((h2.mul g2).mono (by omega)), rdL_pos h0⟩
  exact ((h1.mul g2).add (g1.mul h2)).mono (by omega)
def spTot (sq : Hp → Addr → List V → Prop) : Sp := fun vs H Q _ => ∃ (l : Addr) (xs : List V) (ps : List (Int × Int)), vs = [.ref l] ∧ sq H l xs ∧ ShL H xs ps ∧ xs.length ≤ 8 ∧ ∀ t H', Same H H' → Sh (41 * xs.length + 1) H' t (tot ps).1 (tot ps).2 → Q (.ref t) H'
theorem take_more {α : Type} {l : List α} {i : Nat} {x : α} (h : l[i]? = some x) : l.take (i + 1) = l.take i ++ [x] := by
  rw [List.take_succ, h]
  rfl
theorem ok_totalL (T : Txt P K mg A) : FnOk P w K mg base CX0 3 A.a_total_of A.d_total_of ["shares"] (spTot (SqL K)) := by
  refine T.F_total_of.ok sc_total_of (fun vs H Q E h => ?_) (fun cdv A' outer s H vs Q E hr h => ?_)
  · obtain ⟨l, xs, ps, rfl, _⟩ := h
    rfl
  · obtain ⟨l, xs, ps, rfl, hs, hps, hlen, k⟩ := h
    have G_plus := ok_plus (w := w) (base := base) T
    refine ⟨_, (pss_cons (ps_set (i := 1) sc_total_of.nd rfl (Or.inl rfl) (pe_tup (pa_cons pe_int (pa_cons pe_int pa_nil))))
  (pss_cons (ps_for PassesOwn.never rfl (pi_list (pv 0)) (pg_name (i := 2) sc_total_of.nd rfl (Or.inl rfl))
  (pss_one (ps_set (i := 1) sc_total_of.nd rfl (Or.inl rfl) (pe_call G_plus (hr.mono (by decide)) rfl T.g_plus T.F_plus.kp (B_plus T) .nil pass0 (pa_cons (pv 1) (pa_cons (pv 2) pa_nil))))))
  (pss_one (ps_ret (pv 1))))), ?_⟩
    walk_at "sx"
    rename_i t0 n0 H0 s0 h0
    refine ⟨_, rfl, l, rfl, ⟨_, s0.seq hs⟩, for_list (K := K) (a := l) (xs := xs) (fun i σ H' => Same H H' ∧ ∃ (t : Addr) (v : Option V), σ = [some (.ref l), some (.ref t), v] ∧ Sh (41 * i + 1) H' t (tot (ps.take i)).1 (tot (ps.take i)).2) ?_ ?_ ?_ ?_⟩
    · exact ⟨s0, t0, _, rfl, ⟨h0, sm_0, sm_1, (by decide : (0 : Int) < 1)⟩⟩
    · rintro i σ H' _ ⟨s', _⟩
      exact s'.seq hs
    · rintro i x σ H' hx ⟨s', t, v, rfl, ht⟩
      obtain ⟨p, a, b, rfl, hpi, hp⟩ := hps.get hx
      have hi : i < xs.length := (List.getElem?_eq_some_iff.mp hx).1
      have hp' := hp.same s'
      walk_at "sx"
      refine ⟨t, p, _, _, _, _, _, _, rfl, ht, hp', by omega, fun r H2 nr s2 h2 => ?_⟩
      walk_at "sx"
      have st := stp_sh (s := (a, b)) ht.sx ht.sy ht.po hp.sx hp.sy hp.po
      refine ⟨s'.trans s2, r, _, rfl, ?_⟩
      rw [take_more hpi, tot_snoc]
      exact ⟨h2, st.1.mono (by omega), st.2.1.mono (by omega), st.2.2⟩
    · rintro σ H' ⟨s', t, v, rfl, ht⟩
      rw [hps.len, List.take_length, ← hps.len] at ht
      walk_at "sx"
      exact k t H' s' ht
theorem ok_totalT (T : Txt P K mg A) : FnOk P w K mg base CX0 3 A.a_total_of A.d_total_of ["shares"] (spTot (SqT K)) := by
  refine T.F_total_of.ok sc_total_of (fun vs H Q E h => ?_) (fun cdv A' outer s H vs Q E hr h => ?_)
  · obtain ⟨l, xs, ps, rfl, _⟩ := h
    rfl
  · obtain ⟨l, xs, ps, rfl, hs, hps, hlen, k⟩ := h
    have G_plus := ok_plus (w := w) (base := base) T
    refine ⟨_, (pss_cons (ps_set (i := 1) sc_total_of.nd rfl (Or.inl rfl) (pe_tup (pa_cons pe_int (pa_cons pe_int pa_nil))))
  (pss_cons (ps_for PassesOwn.never rfl (pi_tup (pv 0)) (pg_name (i := 2) sc_total_of.nd rfl (Or.inl rfl))
  (pss_one (ps_set (i := 1) sc_total_of.nd rfl (Or.inl rfl) (pe_call G_plus (hr.mono (by decide)) rfl T.g_plus T.F_plus.kp (B_plus T) .nil pass0 (pa_cons (pv 1) (pa_cons (pv 2) pa_nil))))))
  (pss_one (ps_ret (pv 1))))), ?_⟩
    walk_at "sx"
    rename_i t0 n0 H0 s0 h0
    have seqT : ∀ H', Same H H' → SqT K H' l xs := fun H' e => by
      rcases hs with (h | ⟨o, h⟩) | h
      · exact .inl (.inl (e _ _ h))
      · exact .inl (.inr ⟨o, e _ _ h⟩)
      · exact .inr h
    refine ⟨_, rfl, l, rfl, ⟨_, seqT _ s0⟩, for_tup (K := K) (a := l) (xs := xs) (fun i σ H' => Same H H' ∧ ∃ (t : Addr) (v : Option V), σ = [some (.ref l), some (.ref t), v] ∧ Sh (41 * i + 1) H' t (tot (ps.take i)).1 (tot (ps.take i)).2) ?_ ?_ ?_ ?_⟩
    · exact ⟨s0, t0, _, rfl, ⟨h0, sm_0, sm_1, (by decide : (0 : Int) < 1)⟩⟩
    · rintro i σ H' _ ⟨s', _⟩
      exact seqT _ s'
    · rintro i x σ H' hx ⟨s', t, v, rfl, ht⟩
      obtain ⟨p, a, b, rfl, hpi, hp⟩ := hps.get hx
      have hi : i < xs.length := (List.getElem?_eq_some_iff.mp hx).1
      have hp' := hp.same s'
      walk_at "sx"
      refine ⟨t, p, _, _, _, _, _, _, rfl, ht, hp', by omega, fun r H2 nr s2 h2 => ?_⟩
      walk_at "sx"
      have st := stp_sh (s := (a, b)) ht.sx ht.sy ht.po hp.sx hp.sy hp.po
      refine ⟨s'.trans s2, r, _, rfl, ?_⟩
      rw [take_more hpi, tot_snoc]
      exact ⟨h2, st.1.mono (by omega), st.2.1.mono (by omega), st.2.2⟩
    · rintro σ H' ⟨s', t, v, rfl, ht⟩
      rw [hps.len, List.take_length, ← hps.len] at ht
      walk_at "sx"
      exact k t H' s' ht
def spUp : Sp := fun vs H Q _ => ∃ (p : Addr) (n : Nat) (a b : Int), vs = [.ref p] ∧ Sh n H p a b ∧ n ≤ 400 ∧ Q (.int (-((-a) / b))) H
theorem ok_up (T : Txt P K mg A) : FnOk P w K mg base CX0 1 A.a_rounded_up A.d_rounded_up ["one"] spUp := by
  refine T.F_rounded_up.ok sc_rounded_up (fun vs H Q E h => ?_) (fun cdv A' outer s H vs Q E hr h => ?_)
  · obtain ⟨p, n, a, b, rfl, _⟩ := h
    rfl
  · obtain ⟨p, n, a, b, rfl, ⟨hp, sa, sb, pb⟩, hn, k⟩ := h
    refine ⟨_, (pss_one (ps_ret (pe_un un_neg (pe_op op_fdivW (pe_un un_neg (pe_ix ix_seq (pv 0) pe_int (fun _ _ => rfl))) (pe_ix ix_seq (pv 0) pe_int (fun _ _ => rfl)))))), ?_⟩
    walk_at "sx"
    exact k
end
end K03

set_option Elab.async false
set_option linter.all false
set_option maxRecDepth 100000
set_option maxHeartbeats 8000000
namespace K03
open PySem L2 Sx
local macro_rules | `(tactic| walk_at "cond") => `(tactic| first
  | assumption
  | decide
  | exact c_mul_r (by first | decide | omega) (by first | decide | omega)
  | exact c_mul_l (by first | decide | omega) (by first | decide | omega)
  | exact c_div (by first | decide | omega) (by first | decide | omega)
  | exact c_pow (by first | decide | omega) (by first | decide | omega) (by first | decide | omega)
  | omega)
local macro_rules | `(tactic| walk_at "ne") => `(tactic| first
  | assumption
  | (refine Ne.symm ?_; assumption)
  | (refine' Flow.ne ?nh ?nn; (case nn => assumption); (case nh => walk_at "fl"))
  | (refine Ne.symm ?_; refine' Flow.ne ?nh ?nn; (case nn => assumption); (case nh => walk_at "fl"))
  | (refine' ne_of_none ?nh ?nn; (case nn => assumption); (case nh => walk_at "at"))
  | (refine Ne.symm ?_; refine' ne_of_none ?nh ?nn; (case nn => assumption); (case nh => walk_at "at")))
local macro_rules | `(tactic| walk_at "at") => `(tactic| first
  | assumption
  | (refine Same.up (by assumption) ?_; walk_at "at")
  | (refine Keep.up (by assumption) (by walk_at "ne") ?_; walk_at "at"))
local macro_rules | `(tactic| walk_at "fl") => `(tactic| first
  | assumption
  | (refine Flow.same (by assumption) ?_; walk_at "fl")
  | (refine Flow.keep (by assumption) (by walk_at "ne") ?_; walk_at "fl"))
local macro_rules | `(tactic| walk_at "fr") => `(tactic| first
  | assumption
  | (refine same_free (by assumption) ?_; walk_at "fr")
  | (refine Keep.free (by assumption) (by walk_at "ne") ?_; walk_at "fr"))
local macro_rules | `(tactic| walk_at "kp") => `(tactic| first
  | assumption
  | exact Keep.refl _ _
  | (refine Keep.trans ?_ (by assumption); walk_at "kp")
  | (refine Keep.trans ?_ (Keep.same (by assumption)); walk_at "kp"))
local macro_rules | `(tactic| walk_at "sm") => `(tactic| first
  | assumption
  | exact L2.Same.refl _
  | (refine L2.Same.trans ?_ (by assumption); walk_at "sm"))
local macro_rules | `(tactic| walk_at "sz") => `(tactic| first | exact Nat.le_of_ble_eq_true rfl | omega)
local macro_rules | `(tactic| walk_at "new") => `(tactic| (intro p np; generalize hE : upd _ p _ = H2; have s2 := new_same np hE; have h2 := new_at hE; clear hE))
local macro_rules | `(tactic| walk_at "newx") => `(tactic| (intro e d na nd hda; generalize hE : upd (upd _ d _) e _ = H2; have s2 := newx_same na nd hE; have h2 := newx_at hE; have h3 := newx_d hda hE; clear hE))
local macro_rules | `(tactic| walk_at "s1") => `(tactic| first
  | with_reducible refine s_seq ?_
  | with_reducible refine s_asg ?_
  | with_reducible refine s_name ?_
  | with_reducible refine s_ret ?_
  | with_reducible refine s_c ?_
  | ((with_reducible refine' s_var ?hv ?_); (case hv => rfl))
  | with_reducible refine s_op ?_
  | with_reducible refine s_un ?_
  | with_reducible refine s_ifS ?_
  | with_reducible refine s_cb ?_
  | with_reducible refine s_cons ?_
  | with_reducible refine s_nil ?_
  | with_reducible refine s_call ?_
  | with_reducible refine s_test ?_
  | with_reducible refine s_tB ?_
  | with_reducible refine s_bl ?_
  | with_reducible refine s_and ?_
  | with_reducible refine s_or ?_
  | with_reducible refine s_not ?_
  | with_reducible refine s_andV ?_
  | with_reducible refine s_orV ?_
  | with_reducible refine s_notV ?_
  | with_reducible refine s_blV ?_
  | with_reducible refine s_if ?_
  | with_reducible refine s_tup ?_
  | with_reducible refine s_lst ?_
  | with_reducible refine s_drop ?_
  | with_reducible refine s_next ?_
  | with_reducible refine s_sub ?_
  | with_reducible refine s_bm ?_
  | with_reducible refine s_callK ?_
  | with_reducible refine s_brk ?_
  | with_reducible refine s_cont ?_
  | with_reducible refine r_I0 ?_
  | with_reducible refine r_U ?_
  | with_reducible refine r_eqI ?_
  | with_reducible refine r_neI ?_
  | with_reducible refine r_isB ?_
  | with_reducible refine r_notB ?_
  | with_reducible refine i_t ?_
  | with_reducible refine i_f ?_
  | with_reducible refine i_nt ?_
  | with_reducible refine i_nf ?_
  | ((with_reducible refine' r_I ?hc ?_); (case hc => walk_at "cond"))
  | (with_reducible refine .inl ⟨_, rfl, ?_⟩)
  | (with_reducible refine ⟨_, rfl, ?_⟩)
  | ((with_reducible refine' r_ixL ?hx ?ha ?_); (case hx => walk_at "at"); (case ha => rfl))
  | ((with_reducible refine' r_ixT ?hx ?ha ?_); (case hx => walk_at "at"); (case ha => rfl))
  | ((with_reducible refine' r_setL ?hx ?ha ?_); (case hx => walk_at "at"); (case ha => rfl); intro H2 k2 h2; (try dsimp only [List.set, Int.toNat] at h2))
  | ((with_reducible refine' r_app ?hx ?hl ?_); (case hx => walk_at "at"); (case hl => first | exact Nat.lt_of_ble_eq_true rfl | omega); intro H2 k2 h2)
  | ((with_reducible refine' ty_list ?hx ?_); (case hx => walk_at "at"))
  | (refine And.intro (by (with_reducible show _ ≤ sizeLine); walk_at "sz") ?_; walk_at "new")
  | with_reducible refine s_exv ?_
  | walk_at "newx")
local macro_rules | `(tactic| walk_at "sx") => `(tactic| repeat (walk_at "s1"))
local macro_rules | `(tactic| walk_at "s2") => `(tactic| first
  | ((with_reducible refine' r_ixG ?hx ?hn ?_); (case hx => walk_at "at"); (case hn => omega))
  | ((with_reducible refine' r_ixGT ?hx ?hn ?_); (case hx => walk_at "at"); (case hn => omega))
  | (with_reducible refine ig_cons (fun hix => ?_) (fun hix => ?_))
  | ((with_reducible refine ig_nil ?_); omega)
  | ((with_reducible refine' i_T ?hc ?_); (case hc => omega))
  | ((with_reducible refine' i_F ?hc ?_); (case hc => omega))
  | (with_reducible refine i_2 (fun hc => ?_) (fun hc => ?_))
  | (with_reducible refine i_n2 (fun hc => ?_) (fun hc => ?_)))
local macro_rules | `(tactic| walk_at "go") => `(tactic| repeat' (first | walk_at "s1" | walk_at "s2"))

local macro_rules | `(tactic| walk_at "sms") => `(tactic| first
  | assumption
  | exact Sm.neg (by walk_at "sms")
  | exact Sm.mul (by walk_at "sms") (by walk_at "sms")
  | exact Sm.add (by walk_at "sms") (by walk_at "sms")
  | exact Sm.sub (by walk_at "sms") (by walk_at "sms")
  | exact sm_1
  | exact sm_3)
theorem s_callS {σ : L2.St} {H : Hp} {Q : VK} {sp : Sp} {E : L2.St → XK} {t : TA} (h : t σ H fun vs H1 => sp vs H1 Q (E σ)) : tCallS sp E t σ H Q := h
theorem s_callKS {σ : L2.St} {H : Hp} {Q : VK} {sp : Sp} {gV : List V → List V → List V} {E : L2.St → XK} {t : TA} (h : t σ H fun zs H2 => sp (gV [] zs) H2 Q (E σ)) : tCallKS sp gV E t σ H Q := h
local macro_rules | `(tactic| walk_at "s1") => `(tactic| first
  | ((with_reducible refine' r_I (C := CMulW) ?hc ?_); (case hc => exact c_mulW (by walk_at "sms") (by walk_at "sms") (by first | decide | omega)))
  | ((with_reducible refine' r_I (C := CDivW) ?hc ?_); (case hc => exact c_divW (by assumption) (by walk_at "sms") (by first | decide | omega)))
  | (with_reducible refine ⟨_, _, rfl, ?_⟩)
  | with_reducible refine s_callS ?_
  | with_reducible refine s_callKS ?_)
section
variable {P : Program} {w : World} {K : PySem.W.Frag} {mg : Str → Option Value} {base : Heap} {A : Ad}
theorem Sh.keep {n : Nat} {H H' : Hp} {p a : Addr} {x y : Int} (e : Keep a H H') (ne : p ≠ a) (s : Sh n H p x y) : Sh n H' p x y := s.up fun o h => e _ _ ne h
theorem Sh.nf {n : Nat} {H : Hp} {p a : Addr} {x y : Int} (s : Sh n H p x y) (f : Flow H a) : p ≠ a := by
  obtain ⟨c, n, b, q, h⟩ := f
  exact ne_of s.at_ h (by intro z; cases z)
def spDraw : Sp := fun vs H Q _ => ∃ (a : Addr), vs = [.ref a] ∧ Flow H a ∧ ∀ p x y H', Sh 40 H' p x y → Flow H' a → Keep a H H' → Q (.ref p) H'
theorem ok_draw (T : Txt P K mg A) : FnOk P w K mg base CX0 3 A.a__law_share A.d__law_share ["flow"] spDraw := by
  refine T.F__law_share.ok sc__law_share (fun vs H Q E h => ?_) (fun cdv A' outer s H vs Q E hr h => ?_)
  · obtain ⟨a, rfl, _⟩ := h
    rfl
  · obtain ⟨a, rfl, hF, k⟩ := h
    have G__law_take := ok_take (w := w) (base := base) T
    have G__law_number := ok_num (w := w) (base := base) T
    have G__law_reduced := ok_red (w := w) (base := base) T
    refine ⟨_, (pss_cons (ps_set (i := 1) sc__law_share.nd rfl (Or.inl rfl) (pe_call G__law_number (hr.mono (by decide)) rfl T.g__law_number T.F__law_number.kp (B__law_number T) .nil pass0 (pa_cons (pv 0) pa_nil)))
  (pss_cons (ps_if (pt_cmpR op_eq (pe_call G__law_take (hr.mono (by decide)) rfl T.g__law_take T.F__law_take.kp (B__law_take T) .nil pass0 (pa_cons (pv 0) (pa_cons pe_int pa_nil))) pe_int (nomark _)) (pss_one (ps_set (i := 1) sc__law_share.nd rfl (Or.inl rfl) (pe_un un_neg (pv 1)))) pss_nil)
  (pss_one (ps_ret (pe_call G__law_reduced (hr.mono (by decide)) rfl T.g__law_reduced T.F__law_reduced.kp (B__law_reduced T) .nil pass0 (pa_cons (pv 1) (pa_cons (pe_callB (call_max2 rfl) (by rfl) T.n_max (by decide +kernel) (pa_cons pe_int (pa_cons (pe_call G__law_number (hr.mono (by decide)) rfl T.g__law_number T.F__law_number.kp (B__law_number T) .nil pass0 (pa_cons (pv 0) pa_nil)) pa_nil))) pa_nil))))))), ?_⟩
    have fin : ∀ (u n : Int) (H1 : Hp) (Q1 : VK), -1000000000000 < u → u < 1000000000000 → 0 ≤ n → n < 1000000000000 → Flow H1 a → Keep a H H1 → (∀ p x y H', Sh 40 H' p x y → Flow H' a → Keep a H H' → Q1 (.ref p) H') →
        spRed ([.int u, .int (if n > 1 then n else 1)] ++ []) H1 Q1 E0 := by
      intro u n H1 Q1 u0 u1 n0 n1 F1 K1 k1
      have hz : 0 < (if n > 1 then n else 1) ∧ (if n > 1 then n else 1) < 1000000000000 := by split <;> omega
      have su : Sm 40 u := sm40 (by omega) (by omega)
      have sl : Sm 40 (if n > 1 then n else 1) := sm40 (by omega) (by omega)
      refine c_red (by omega) (su.mono (by decide)) (sl.mono (by decide)) (fun p H2 np s2 h2 => ?_)
      exact k1 p _ _ H2 ⟨h2, rdU_sm (by omega) su, rdL_sm (by omega) sl, rdL_pos (by omega)⟩ (F1.same s2) (K1.trans (Keep.same s2))
    walk_at "sx"
    refine c_num hF (fun u H1 l1 u1 F1 K1 => ?_)
    walk_at "sx"
    refine c_take F1 (by decide) (by decide) (fun d H2 l2 u2 F2 K2 => ?_)
    walk_at "sx"
    refine i_2 (fun hc => ?_) (fun hc => ?_)
    all_goals
      walk_at "sx"
      refine c_num F2 (fun n H3 l3 u3 F3 K3 => ?_)
      walk_at "sx"
      exact fin _ _ _ _ (by omega) (by omega) l3 u3 F3 (by walk_at "kp") k
def spBeside : Sp := fun vs H Q _ => ∃ (a p : Addr) (x y : Int), vs = [.ref a, .ref p] ∧ Flow H a ∧ Sh 40 H p x y ∧ ∀ q x' y' H', Sh 40 H' q x' y' → Flow H' a → Keep a H H' → Q (.ref q) H'
theorem ok_beside (T : Txt P K mg A) : FnOk P w K mg base CX0 4 A.a__law_beside A.d__law_beside ["flow", "share"] spBeside := by
  refine T.F__law_beside.ok sc__law_beside (fun vs H Q E h => ?_) (fun cdv A' outer s H vs Q E hr h => ?_)
  · obtain ⟨a, p, x, y, rfl, _⟩ := h
    rfl
  · obtain ⟨a, p, x, y, rfl, hF, hp, k⟩ := h
    have G__law_take := ok_take (w := w) (base := base) T
    have G__law_share := ok_draw (w := w) (base := base) T
    have G__law_reduced := ok_red (w := w) (base := base) T
    refine ⟨_, (pss_cons (ps_set (i := 2) sc__law_beside.nd rfl (Or.inl rfl) (pe_call G__law_take (hr.mono (by decide)) rfl T.g__law_take T.F__law_take.kp (B__law_take T) .nil pass0 (pa_cons (pv 0) (pa_cons pe_int pa_nil))))
  (pss_cons (ps_if (pt_cmpR op_eq (pv 2) pe_int (nomark _)) (pss_one (ps_ret (pv 1))) pss_nil)
  (pss_cons (ps_if (pt_cmpR op_eq (pv 2) pe_int (nomark _)) (pss_one (ps_ret (pe_tup (pa_cons (pe_un un_neg (pe_ix ix_seq (pv 1) pe_int (fun _ _ => rfl))) (pa_cons (pe_ix ix_seq (pv 1) pe_int (fun _ _ => rfl)) pa_nil))))) pss_nil)
  (pss_cons (ps_if (pt_cmpR op_eq (pv 2) pe_int (nomark _)) (pss_one (ps_ret (pe_tup (pa_cons pe_int (pa_cons pe_int pa_nil))))) pss_nil)
  (pss_cons (ps_if (pt_cmpR op_eq (pv 2) pe_int (nomark _)) (pss_one (ps_ret (pe_call G__law_reduced (hr.mono (by decide)) rfl T.g__law_reduced T.F__law_reduced.kp (B__law_reduced T) .nil pass0 (pa_cons (pe_op op_sub (pe_call G__law_take (hr.mono (by decide)) rfl T.g__law_take T.F__law_take.kp (B__law_take T) .nil pass0 (pa_cons (pv 0) (pa_cons pe_int pa_nil))) pe_int) (pa_cons (pe_ix ix_seq (pv 1) pe_int (fun _ _ => rfl)) pa_nil))))) pss_nil)
  (pss_one (ps_ret (pe_call G__law_share (hr.mono (by decide)) rfl T.g__law_share T.F__law_share.kp (B__law_share T) .nil pass0 (pa_cons (pv 0) pa_nil))))))))), ?_⟩
    have pa := hp.nf hF
    walk_at "sx"
    refine c_take hF (by decide) (by decide) (fun d H1 l1 u1 F1 K1 => ?_)
    have hp1 := hp.keep K1 pa
    have ha1 := hp1.at_
    walk_at "sx"
    refine i_2 (fun hc => ?_) (fun hc => ?_)
    · walk_at "sx"
      exact k _ _ _ _ hp1 F1 K1
    · walk_at "sx"
      refine i_2 (fun hc => ?_) (fun hc => ?_)
      · walk_at "sx"
        exact k _ _ _ _ ⟨by assumption, hp.sx.neg, hp.sy, hp.po⟩ (by walk_at "fl") (by walk_at "kp")
      · walk_at "sx"
        refine i_2 (fun hc => ?_) (fun hc => ?_)
        · walk_at "sx"
          exact k _ _ _ _ ⟨by assumption, sm_0.mono (by decide), sm_1.mono (by decide), by decide⟩ (by walk_at "fl") (by walk_at "kp")
        · walk_at "sx"
          refine i_2 (fun hc => ?_) (fun hc => ?_)
          · walk_at "sx"
            refine c_take F1 (by decide) (by decide) (fun d2 H2 l2 u2 F2 K2 => ?_)
            have ha2 := (hp1.keep K2 pa).at_
            walk_at "sx"
            have hy : y ≠ 0 := Int.ne_of_gt hp.po
            have sd : Sm 40 (d2 - 4) := sm40 (by omega) (by omega)
            refine c_red hy (sd.mono (by decide)) (hp.sy.mono (by decide)) (fun q H3 nq s3 h3 => ?_)
            exact k q _ _ H3 ⟨h3, rdU_sm hy sd, rdL_sm hy hp.sy, rdL_pos hp.po⟩ (by walk_at "fl") (by walk_at "kp")
          · walk_at "sx"
            refine ⟨a, rfl, F1, fun q x' y' H2 hq F2 K2 => ?_⟩
            exact k q x' y' H2 hq F2 (by walk_at "kp")
def spSame : Sp := fun vs H Q _ => ∃ (p q : Addr) (a b c d : Int), vs = [.ref p, .ref q] ∧ Shr H p a b ∧ Shr H q c d ∧ a = c ∧ b = d ∧ Q (.bl true) H
theorem ok_same (T : Txt P K mg A) : FnOk P w K mg base CX0 1 A.a__law_same A.d__law_same ["actual", "due"] spSame := by
  refine T.F__law_same.ok sc__law_same (fun vs H Q E h => ?_) (fun cdv A' outer s H vs Q E hr h => ?_)
  · obtain ⟨p, q, a, b, c, d, rfl, _⟩ := h
    rfl
  · obtain ⟨p, q, a, b, c, d, rfl, hp, hq, rfl, rfl, k⟩ := h
    refine ⟨_, (pss_cons (ps_if (PW.pt (pw_or (pt_not (pt_val (pe_callB call_isiV (by rfl) T.n_isinstance (by decide +kernel) (pa_cons (pv 0) (pa_cons (pe_bltn (v := .ty "tuple") (u := .type "tuple") (by rfl) T.n_tuple (by decide +kernel) rfl) pa_nil))))) (pw_or1 (pt_cmpR op_ne (pe_callB call_len (by rfl) T.n_len (by decide +kernel) (pa_cons (pv 0) pa_nil)) pe_int (nomark _))))) (pss_one (ps_ret pe_bl)) pss_nil)
  (pss_cons (ps_for PassesOwn.never rfl (pi_range1 rfl T.n_range (pa_cons pe_int pa_nil)) (pg_name (i := 2) sc__law_same.nd rfl (Or.inl rfl))
  (pss_one (ps_if (PW.pt (pw_or (pt_not (pt_val (pe_callB call_isiV (by rfl) T.n_isinstance (by decide +kernel) (pa_cons (pe_ix ix_seq (pv 0) (pv 2) (fun _ _ => rfl)) (pa_cons (pe_bltn (v := .ty "int") (u := .type "int") (by rfl) T.n_int (by decide +kernel) rfl) pa_nil))))) (pw_or (pt_val (pe_callB call_isiV (by rfl) T.n_isinstance (by decide +kernel) (pa_cons (pe_ix ix_seq (pv 0) (pv 2) (fun _ _ => rfl)) (pa_cons (pe_bltn (v := .ty "bool") (u := .type "bool") (by rfl) T.n_bool (by decide +kernel) rfl) pa_nil)))) (pw_or1 (pt_cmpR op_ne (pe_ix ix_seq (pv 0) (pv 2) (fun _ _ => rfl)) (pe_ix ix_seq (pv 1) (pv 2) (fun _ _ => rfl)) (nomark _)))))) (pss_one (ps_ret pe_bl)) pss_nil)))
  (pss_one (ps_ret pe_bl)))), ?_⟩
    walk_at "sx"
    refine c_isiT (B := fun _ => True) (.tup hp trivial) ?_
    rw [isT_of hp]
    walk_at "sx"
    refine i_nt ?_
    walk_at "sx"
    refine ⟨_, _, rfl, .inr ⟨_, SqT.of hp, rfl⟩, ?_⟩
    walk_at "sx"
    refine i_n2 (fun z => absurd rfl z) (fun _ => ?_)
    refine ⟨_, rfl, by decide, by decide, for_range (lo := 0) (n := 2) (fun i σ H' => H' = H ∧ ∃ v, σ = [some (.ref p), some (.ref q), v]) ⟨rfl, _, rfl⟩ ?_ ?_⟩
    · rintro i σ H' hi ⟨rfl, v, rfl⟩
      have hi2 : i = 0 ∨ i = 1 := by omega
      rcases hi2 with rfl | rfl
      all_goals
        walk_at "sx"
        refine c_isiI (B := fun _ => True) (.int _) ?_
        walk_at "sx"
        refine i_nt ?_
        walk_at "sx"
        refine c_isiB (B := fun _ => True) (.int _) ?_
        walk_at "sx"
        refine i_f ?_
        walk_at "sx"
        refine i_n2 (fun z => absurd rfl z) (fun _ => ?_)
        walk_at "sx"
        exact ⟨rfl, _, rfl⟩
    · rintro σ H' ⟨rfl, v, rfl⟩
      walk_at "sx"
      exact k
def spTruth : Sp := fun vs H Q _ => ∃ (a b : Bool), vs = [.bl a, .bl b] ∧ a = b ∧ Q (.bl true) H
theorem ok_truth (T : Txt P K mg A) : FnOk P w K mg base CX0 1 A.a__law_truth A.d__law_truth ["actual", "due"] spTruth := by
  refine T.F__law_truth.ok sc__law_truth (fun vs H Q E h => ?_) (fun cdv A' outer s H vs Q E hr h => ?_)
  · obtain ⟨a, b, rfl, _⟩ := h
    rfl
  · obtain ⟨a, b, rfl, rfl, k⟩ := h
    refine ⟨_, (pss_cons (ps_if (pt_val (pv 1)) (pss_one (ps_ret (pe_cmpR op_isBl (pv 0) pe_bl (nomark _)))) pss_nil)
  (pss_one (ps_ret (pe_cmpR op_isBl (pv 0) pe_bl (nomark _))))), ?_⟩
    walk_at "sx"
    refine i_b2 (fun hb => ?_) (fun hb => ?_)
    all_goals
      subst hb
      walk_at "sx"
      exact k
theorem sm_div {n : Nat} {a b : Int} (h : Sm n a) (hb : 0 < b) : Sm (n + 1) (a / b) := by
  have h1 := Int.emod_add_mul_ediv a b
  have h2 := Int.emod_nonneg a (by omega : b ≠ 0)
  have h3 := Int.emod_lt_of_pos a hb
  unfold Sm at *
  rw [Nat.pow_succ]
  by_cases q0 : 0 ≤ a / b
  · have h4 : a / b ≤ b * (a / b) := by
      have := Int.mul_le_mul_of_nonneg_right (show (1 : Int) ≤ b by omega) q0
      rw [Int.one_mul] at this
      exact this
    omega
  · have h4 : b * (a / b + 1) ≤ a / b + 1 := by
      have := Int.mul_le_mul_of_nonpos_right (show (1 : Int) ≤ b by omega) (show a / b + 1 ≤ 0 by omega)
      rw [Int.one_mul] at this
      exact this
    rw [Int.mul_add, Int.mul_one] at h4
    omega
def spRounds : Sp := fun vs H Q _ => ∃ (p : Addr) (n : Nat) (x y : Int) (b : Bool), vs = [.ref p, .bl b] ∧ Sh n H p x y ∧ n ≤ 400 ∧ Q (.bl true) H
theorem ok_rounds (T : Txt P K mg A) : FnOk P w K mg base CX0 2 A.a__law_rounds A.d__law_rounds ["share", "named"] spRounds := by
  refine T.F__law_rounds.ok sc__law_rounds (fun vs H Q E h => ?_) (fun cdv A' outer s H vs Q E hr h => ?_)
  · obtain ⟨p, n, x, y, b, rfl, _⟩ := h
    rfl
  · obtain ⟨p, n, x, y, b, rfl, hS, hn, k⟩ := h
    have G_rounded_up := ok_up (w := w) (base := base) T
    obtain ⟨u1, u2⟩ := up_ok (a := x) hS.po
    have sq : Sm (n + 1) (-x / y) := sm_div hS.sx.neg hS.po
    have hp := hS.at_
    have sy := hS.sy
    refine ⟨_, (pss_cons (ps_if (pt_val (pv 1)) (pss_one (ps_set (i := 2) sc__law_rounds.nd rfl (Or.inl rfl) (pe_kw0 G_rounded_up (hr.mono (by decide)) rfl T.g_rounded_up T.F_rounded_up.kp (KB_rounded_up_one T) pass0 (pk_cons (pv 0) pk_nil)))) (pss_one (ps_set (i := 2) sc__law_rounds.nd rfl (Or.inl rfl) (pe_call G_rounded_up (hr.mono (by decide)) rfl T.g_rounded_up T.F_rounded_up.kp (B_rounded_up T) .nil pass0 (pa_cons (pv 0) pa_nil)))))
  (pss_cons (ps_if (PW.pt (pw_or (pt_not (pt_val (pe_callB call_isiV (by rfl) T.n_isinstance (by decide +kernel) (pa_cons (pv 2) (pa_cons (pe_bltn (v := .ty "int") (u := .type "int") (by rfl) T.n_int (by decide +kernel) rfl) pa_nil))))) (pw_or1 (pt_val (pe_callB call_isiV (by rfl) T.n_isinstance (by decide +kernel) (pa_cons (pv 2) (pa_cons (pe_bltn (v := .ty "bool") (u := .type "bool") (by rfl) T.n_bool (by decide +kernel) rfl) pa_nil))))))) (pss_one (ps_ret pe_bl)) pss_nil)
  (pss_one (ps_ret (pe_and (pe_cmpR op_ge (pe_op op_mulW (pv 2) (pe_ix ix_seq (pv 0) pe_int (fun _ _ => rfl))) (pe_ix ix_seq (pv 0) pe_int (fun _ _ => rfl)) (nomark _)) (pe_one (pe_cmpR op_lt (pe_op op_mulW (pe_op op_sub (pv 2) pe_int) (pe_ix ix_seq (pv 0) pe_int (fun _ _ => rfl))) (pe_ix ix_seq (pv 0) pe_int (fun _ _ => rfl)) (nomark _)))))))), ?_⟩
    walk_at "sx"
    refine i_b2 (fun hb => ?_) (fun hb => ?_)
    all_goals
      walk_at "sx"
      refine ⟨p, n, x, y, rfl, hS, hn, ?_⟩
      walk_at "sx"
      refine c_isiI (B := fun _ => True) (.int _) ?_
      walk_at "sx"
      refine i_nt ?_
      walk_at "sx"
      refine c_isiB (B := fun _ => True) (.int _) ?_
      walk_at "sx"
      refine i_f ?_
      walk_at "sx"
      refine i_T u1 ?_
      walk_at "sx"
      rw [decide_eq_true u2]
      exact k
end
end K03

set_option Elab.async false
set_option linter.all false
set_option maxRecDepth 100000
set_option maxHeartbeats 8000000
namespace K03
open PySem L2 Sx
local macro_rules | `(tactic| walk_at "cond") => `(tactic| first
  | assumption
  | decide
  | exact c_mul_r (by first | decide | omega) (by first | decide | omega)
  | exact c_mul_l (by first | decide | omega) (by first | decide | omega)
  | exact c_div (by first | decide | omega) (by first | decide | omega)
  | exact c_pow (by first | decide | omega) (by first | decide | omega) (by first | decide | omega)
  | omega)
local macro_rules | `(tactic| walk_at "ne") => `(tactic| first
  | assumption
  | (refine Ne.symm ?_; assumption)
  | (refine' Flow.ne ?nh ?nn; (case nn => assumption); (case nh => walk_at "fl"))
  | (refine Ne.symm ?_; refine' Flow.ne ?nh ?nn; (case nn => assumption); (case nh => walk_at "fl"))
  | (refine' ne_of_none ?nh ?nn; (case nn => assumption); (case nh => walk_at "at"))
  | (refine Ne.symm ?_; refine' ne_of_none ?nh ?nn; (case nn => assumption); (case nh => walk_at "at")))
local macro_rules | `(tactic| walk_at "at") => `(tactic| first
  | assumption
  | (refine Same.up (by assumption) ?_; walk_at "at")
  | (refine Keep.up (by assumption) (by walk_at "ne") ?_; walk_at "at"))
local macro_rules | `(tactic| walk_at "fl") => `(tactic| first
  | assumption
  | (refine Flow.same (by assumption) ?_; walk_at "fl")
  | (refine Flow.keep (by assumption) (by walk_at "ne") ?_; walk_at "fl"))
local macro_rules | `(tactic| walk_at "fr") => `(tactic| first
  | assumption
  | (refine same_free (by assumption) ?_; walk_at "fr")
  | (refine Keep.free (by assumption) (by walk_at "ne") ?_; walk_at "fr"))
local macro_rules | `(tactic| walk_at "kp") => `(tactic| first
  | assumption
  | exact Keep.refl _ _
  | (refine Keep.trans ?_ (by assumption); walk_at "kp")
  | (refine Keep.trans ?_ (Keep.same (by assumption)); walk_at "kp"))
local macro_rules | `(tactic| walk_at "sm") => `(tactic| first
  | assumption
  | exact L2.Same.refl _
  | (refine L2.Same.trans ?_ (by assumption); walk_at "sm"))
local macro_rules | `(tactic| walk_at "sz") => `(tactic| first | exact Nat.le_of_ble_eq_true rfl | omega)
local macro_rules | `(tactic| walk_at "new") => `(tactic| (intro p np; generalize hE : upd _ p _ = H2; have s2 := new_same np hE; have h2 := new_at hE; clear hE))
local macro_rules | `(tactic| walk_at "newx") => `(tactic| (intro e d na nd hda; generalize hE : upd (upd _ d _) e _ = H2; have s2 := newx_same na nd hE; have h2 := newx_at hE; have h3 := newx_d hda hE; clear hE))
local macro_rules | `(tactic| walk_at "s1") => `(tactic| first
  | with_reducible refine s_seq ?_
  | with_reducible refine s_asg ?_
  | with_reducible refine s_name ?_
  | with_reducible refine s_ret ?_
  | with_reducible refine s_c ?_
  | ((with_reducible refine' s_var ?hv ?_); (case hv => rfl))
  | with_reducible refine s_op ?_
  | with_reducible refine s_un ?_
  | with_reducible refine s_ifS ?_
  | with_reducible refine s_cb ?_
  | with_reducible refine s_cons ?_
  | with_reducible refine s_nil ?_
  | with_reducible refine s_call ?_
  | with_reducible refine s_test ?_
  | with_reducible refine s_tB ?_
  | with_reducible refine s_bl ?_
  | with_reducible refine s_and ?_
  | with_reducible refine s_or ?_
  | with_reducible refine s_not ?_
  | with_reducible refine s_andV ?_
  | with_reducible refine s_orV ?_
  | with_reducible refine s_notV ?_
  | with_reducible refine s_blV ?_
  | with_reducible refine s_if ?_
  | with_reducible refine s_tup ?_
  | with_reducible refine s_lst ?_
  | with_reducible refine s_drop ?_
  | with_reducible refine s_next ?_
  | with_reducible refine s_sub ?_
  | with_reducible refine s_bm ?_
  | with_reducible refine s_callK ?_
  | with_reducible refine s_brk ?_
  | with_reducible refine s_cont ?_
  | with_reducible refine r_I0 ?_
  | with_reducible refine r_U ?_
  | with_reducible refine r_eqI ?_
  | with_reducible refine r_neI ?_
  | with_reducible refine r_isB ?_
  | with_reducible refine r_notB ?_
  | with_reducible refine i_t ?_
  | with_reducible refine i_f ?_
  | with_reducible refine i_nt ?_
  | with_reducible refine i_nf ?_
  | ((with_reducible refine' r_I ?hc ?_); (case hc => walk_at "cond"))
  | (with_reducible refine .inl ⟨_, rfl, ?_⟩)
  | (with_reducible refine ⟨_, rfl, ?_⟩)
  | ((with_reducible refine' r_ixL ?hx ?ha ?_); (case hx => walk_at "at"); (case ha => rfl))
  | ((with_reducible refine' r_ixT ?hx ?ha ?_); (case hx => walk_at "at"); (case ha => rfl))
  | ((with_reducible refine' r_setL ?hx ?ha ?_); (case hx => walk_at "at"); (case ha => rfl); intro H2 k2 h2; (try dsimp only [List.set, Int.toNat] at h2))
  | ((with_reducible refine' r_app ?hx ?hl ?_); (case hx => walk_at "at"); (case hl => first | exact Nat.lt_of_ble_eq_true rfl | omega); intro H2 k2 h2)
  | ((with_reducible refine' ty_list ?hx ?_); (case hx => walk_at "at"))
  | (refine And.intro (by (with_reducible show _ ≤ sizeLine); walk_at "sz") ?_; walk_at "new")
  | with_reducible refine s_exv ?_
  | walk_at "newx")
local macro_rules | `(tactic| walk_at "sx") => `(tactic| repeat (walk_at "s1"))
local macro_rules | `(tactic| walk_at "s2") => `(tactic| first
  | ((with_reducible refine' r_ixG ?hx ?hn ?_); (case hx => walk_at "at"); (case hn => omega))
  | ((with_reducible refine' r_ixGT ?hx ?hn ?_); (case hx => walk_at "at"); (case hn => omega))
  | (with_reducible refine ig_cons (fun hix => ?_) (fun hix => ?_))
  | ((with_reducible refine ig_nil ?_); omega)
  | ((with_reducible refine' i_T ?hc ?_); (case hc => omega))
  | ((with_reducible refine' i_F ?hc ?_); (case hc => omega))
  | (with_reducible refine i_2 (fun hc => ?_) (fun hc => ?_))
  | (with_reducible refine i_n2 (fun hc => ?_) (fun hc => ?_)))
local macro_rules | `(tactic| walk_at "go") => `(tactic| repeat' (first | walk_at "s1" | walk_at "s2"))

local macro_rules | `(tactic| walk_at "sms") => `(tactic| first
  | assumption
  | exact Sm.neg (by walk_at "sms")
  | exact Sm.mul (by walk_at "sms") (by walk_at "sms")
  | exact Sm.add (by walk_at "sms") (by walk_at "sms")
  | exact Sm.sub (by walk_at "sms") (by walk_at "sms")
  | exact sm_1
  | exact sm_3)
local macro_rules | `(tactic| walk_at "s1") => `(tactic| first
  | ((with_reducible refine' r_I (C := CMulW) ?hc ?_); (case hc => exact c_mulW (by walk_at "sms") (by walk_at "sms") (by first | decide | omega)))
  | ((with_reducible refine' r_I (C := CDivW) ?hc ?_); (case hc => exact c_divW (by assumption) (by walk_at "sms") (by first | decide | omega)))
  | (with_reducible refine ⟨_, _, rfl, ?_⟩)
  | with_reducible refine s_callS ?_
  | with_reducible refine s_callKS ?_)

local macro_rules | `(tactic| walk_at "sh") => `(tactic| first
  | assumption
  | (refine Sh.same (by assumption) ?_; walk_at "sh"))
def spLOver : Sp := fun vs H Q _ => ∃ (p q : Addr) (n m : Nat) (a b c d : Int), vs = [.ref p, .ref q] ∧ Sh n H p a b ∧ Sh m H q c d ∧ n + m ≤ 355 ∧ ∀ H', Same H H' → Q (.bl true) H'
def spLPair : Sp := fun vs H Q _ => ∃ (p q : Addr) (n m : Nat) (a b c d : Int), vs = [.ref p, .ref q] ∧ Sh n H p a b ∧ Sh m H q c d ∧ n ≤ 300 ∧ m ≤ 40 ∧ ∀ H', Same H H' → Q (.bl true) H'
local macro_rules | `(tactic| walk_at "s2") => `(tactic| first
  | ((with_reducible show spTwo _ _ _ _ _ _); refine' ⟨_, _, _, _, _, _, _, _, rfl, ?h1, ?h2, ?h3, ?_⟩; (case h1 => walk_at "sh"); (case h2 => walk_at "sh"); (case h3 => omega); intro r H' nr s' h')
  | ((with_reducible show spRed _ _ _ _); refine' ⟨_, _, rfl, ?h1, ?h2, ?h3, ?_⟩; (case h1 => assumption); (case h2 => assumption); (case h3 => assumption); intro r H' nr s' h')
  | ((with_reducible show spSame _ _ _ _); refine' ⟨_, _, _, _, _, _, rfl, ?h1, ?h2, ?h3, ?h4, ?_⟩; (case h1 => walk_at "at"); (case h2 => walk_at "at"); (case h3 => first | rfl | assumption); (case h4 => first | rfl | assumption))
  | ((with_reducible show spTruth _ _ _ _); refine' ⟨_, _, rfl, ?h1, ?_⟩; (case h1 => first | rfl | assumption))
  | ((with_reducible show spBelow _ _ _ _); refine' ⟨_, _, _, _, _, _, _, _, rfl, ?h1, ?h2, ?h3, ?_⟩; (case h1 => walk_at "sh"); (case h2 => walk_at "sh"); (case h3 => omega))
  | ((with_reducible show spLOver _ _ _ _); refine' ⟨_, _, _, _, _, _, _, _, rfl, ?h1, ?h2, ?h3, ?_⟩; (case h1 => walk_at "sh"); (case h2 => walk_at "sh"); (case h3 => omega); intro H' s')
  | ((with_reducible show spLPair _ _ _ _); refine' ⟨_, _, _, _, _, _, _, _, rfl, ?h1, ?h2, ?h3, ?h4, ?_⟩; (case h1 => walk_at "sh"); (case h2 => walk_at "sh"); (case h3 => omega); (case h4 => omega); intro H' s')
  | ((with_reducible show spRounds _ _ _ _); refine' ⟨_, _, _, _, _, rfl, ?h1, ?h2, ?_⟩; (case h1 => walk_at "sh"); (case h2 => omega)))
section
variable {P : Program} {w : World} {K : PySem.W.Frag} {mg : Str → Option Value} {base : Heap} {A : Ad}
theorem ok_lover (T : Txt P K mg A) : FnOk P w K mg base CX0 3 A.a__law_over A.d__law_over ["one", "other"] spLOver := by
  refine T.F__law_over.ok sc__law_over (fun vs H Q E h => ?_) (fun cdv A' outer s H vs Q E hr h => ?_)
  · obtain ⟨p, q, n, m, a, b, c, d, rfl, _⟩ := h
    rfl
  · obtain ⟨p, q, n, m, a, b, c, d, rfl, hp, hq, hnm, k⟩ := h
    have G_over := ok_over (w := w) (base := base) T
    have G__law_reduced := ok_red (w := w) (base := base) T
    have G__law_same := ok_same (w := w) (base := base) T
    have hpa := hp.at_
    have hqa := hq.at_
    have sa := hp.sx
    have sb := hp.sy
    have sc := hq.sx
    have sd := hq.sy
    refine ⟨_, (pss_cons (ps_if (pt_cmpR op_ne (pe_ix ix_seq (pv 1) pe_int (fun _ _ => rfl)) pe_int (nomark _)) (pss_one (ps_ret (pe_call G__law_same (hr.mono (by decide)) rfl T.g__law_same T.F__law_same.kp (B__law_same T) .nil pass0 (pa_cons (pe_call G_over (hr.mono (by decide)) rfl T.g_over T.F_over.kp (B_over T) .nil passN (pa_cons (pv 0) (pa_cons (pv 1) pa_nil))) (pa_cons (pe_call G__law_reduced (hr.mono (by decide)) rfl T.g__law_reduced T.F__law_reduced.kp (B__law_reduced T) .nil pass0 (pa_cons (pe_op op_mulW (pe_ix ix_seq (pv 0) pe_int (fun _ _ => rfl)) (pe_ix ix_seq (pv 1) pe_int (fun _ _ => rfl))) (pa_cons (pe_op op_mulW (pe_ix ix_seq (pv 0) pe_int (fun _ _ => rfl)) (pe_ix ix_seq (pv 1) pe_int (fun _ _ => rfl))) pa_nil))) pa_nil))))) pss_nil)
  (pss_cons (L2N.ps_try_as (i := 2) rfl rfl sc__law_over.nd rfl rfl ⟨rfl, by decide, .inl T.g_Undefined⟩ takesN0 (fun W pn xe tk _ => (pss_one (ps_expr (pe_kwS0 G_over (hr.mono (by decide)) rfl T.g_over T.F_over.kp (KB_over_other_one T) (fun σ => L2N.passAt tk σ) (pk_cons (pv 1) (pk_cons (pv 0) pk_nil))))))
  (fun a oe cls d pn hz hf => (pss_one (ps_ret (pe_and (pe_callB (id := "isinstance") (r := rIsiV K) call_isiV (by rfl) T.n_isinstance (by decide +kernel) (pa_cons (pe_xf T.X_Undefined.xf T.X_Undefined.noN hz.zc hf (pv 2)) (pa_cons (pe_bltn (v := .ty "str") (u := .type "str") (by rfl) T.n_str (by decide +kernel) rfl) pa_nil))) (pe_one (pe_cmpR op_eq (pe_xf T.X_Undefined.xf T.X_Undefined.noN hz.zc hf (pv 2)) pe_str (nomark _))))))))
  (pss_one (ps_ret pe_bl)))), ?_⟩
    walk_at "sx"
    refine i_n2 (fun h0 => ?_) (fun h0 => ?_)
    · walk_at "sx"
      refine ⟨p, q, n, m, a, b, c, d, rfl, hp, hq, hnm, fun z => absurd z h0, fun _ r H1 nr s1 h1 => ?_⟩
      walk_at "sx"
      have hl : b * c ≠ 0 := Int.mul_ne_zero (Int.ne_of_gt hp.po) h0
      refine c_red hl (Sm.mono (Sm.mul sa sd) (by omega)) (Sm.mono (Sm.mul sb sc) (by omega)) (fun r2 H2 nr2 s2 h2 => ?_)
      walk_at "sx"
      refine ⟨r, r2, _, _, _, _, rfl, by walk_at "at", by walk_at "at", rfl, rfl, ?_⟩
      exact k _ (by walk_at "sm")
    · have lk : List.lookup ("what" : Str) [(("what" : Str), V.str "nought")] = some (V.str "nought") := by simp [List.lookup]
      walk_at "sx"
      refine ⟨p, q, n, m, a, b, c, d, rfl, hp, hq, hnm, ?_, ?_⟩
      · intro _ x hx
        refine ⟨true, T.X_Undefined.te, fun _ z hz => ?_, fun z => Bool.noConfusion z⟩
        walk_at "sx"
        refine ⟨_, rfl, rfl, rfl, x, _, _, rfl, upd_same, lk, ?_⟩
        walk_at "sx"
        refine c_isiS (B := fun _ => True) (.str _) ?_
        walk_at "sx"
        refine i_t ?_
        walk_at "sx"
        refine ⟨_, rfl, rfl, rfl, x, _, _, rfl, upd_same, lk, ?_⟩
        walk_at "sx"
        refine r_eq rfl ?_
        rw [decide_eq_true rfl]
        exact k _ (Same.new hx)
      · intro z
        exact absurd (by assumption) z
theorem ok_lpair (T : Txt P K mg A) : FnOk P w K mg base CX0 4 A.a__law_pair A.d__law_pair ["one", "other"] spLPair := by
  refine T.F__law_pair.ok sc__law_pair (fun vs H Q E h => ?_) (fun cdv A' outer s H vs Q E hr h => ?_)
  · obtain ⟨p, q, n, m, a, b, c, d, rfl, _⟩ := h
    rfl
  · obtain ⟨p, q, n, m, a, b, c, d, rfl, hp, hq, hn, hm, k⟩ := h
    have G_plus := ok_plus (w := w) (base := base) T
    have G_less := ok_less (w := w) (base := base) T
    have G_times := ok_times (w := w) (base := base) T
    have G_is_below := ok_below (w := w) (base := base) T
    have G__law_over := ok_lover (w := w) (base := base) T
    have G__law_reduced := ok_red (w := w) (base := base) T
    have G__law_same := ok_same (w := w) (base := base) T
    have G__law_truth := ok_truth (w := w) (base := base) T
    have hpa := hp.at_
    have hqa := hq.at_
    have sa := hp.sx
    have sb := hp.sy
    have sc := hq.sx
    have sd := hq.sy
    have pb := hp.po
    have pd := hq.po
    have hbd : b * d ≠ 0 := gd_pos pb pd
    have s1 : Sm 360 (a * d + c * b) := Sm.mono (Sm.add (Sm.mul sa sd) (Sm.mul sc sb)) (by omega)
    have s2 : Sm 360 (a * d - c * b) := Sm.mono (Sm.sub (Sm.mul sa sd) (Sm.mul sc sb)) (by omega)
    have s3 : Sm 360 (a * c) := Sm.mono (Sm.mul sa sc) (by omega)
    have s4 : Sm 360 (b * d) := Sm.mono (Sm.mul sb sd) (by omega)
    have eg : gD c d a b = b * d := Int.mul_comm _ _
    have ep : fP c d a b = a * d + c * b := Int.add_comm _ _
    have em : fM c d a b = -(a * d - c * b) := by show c * b - a * d = _; omega
    have et : fT c d a b = a * c := Int.mul_comm _ _
    have e1 : rdU (fP c d a b) (gD c d a b) = rdU (a * d + c * b) (b * d) := by rw [ep, eg]
    have e2 : rdL (fP c d a b) (gD c d a b) = rdL (a * d + c * b) (b * d) := by rw [ep, eg]
    have e3 : rdU (fM c d a b) (gD c d a b) = -rdU (a * d - c * b) (b * d) := by rw [em, eg, rdU_neg hbd]
    have e4 : rdL (fM c d a b) (gD c d a b) = rdL (a * d - c * b) (b * d) := by rw [em, eg, rdL_neg]
    have e5 : rdU (fT c d a b) (gD c d a b) = rdU (a * c) (b * d) := by rw [et, eg]
    have e6 : rdL (fT c d a b) (gD c d a b) = rdL (a * c) (b * d) := by rw [et, eg]
    have e7 : decide (a * b < a * b) = false := by simp
    have kk := k
    refine ⟨_, (pss_cons (ps_set (i := 2) sc__law_pair.nd rfl (Or.inl rfl) (pe_call G__law_reduced (hr.mono (by decide)) rfl T.g__law_reduced T.F__law_reduced.kp (B__law_reduced T) .nil pass0 (pa_cons (pe_op op_add (pe_op op_mulW (pe_ix ix_seq (pv 0) pe_int (fun _ _ => rfl)) (pe_ix ix_seq (pv 1) pe_int (fun _ _ => rfl))) (pe_op op_mulW (pe_ix ix_seq (pv 1) pe_int (fun _ _ => rfl)) (pe_ix ix_seq (pv 0) pe_int (fun _ _ => rfl)))) (pa_cons (pe_op op_mulW (pe_ix ix_seq (pv 0) pe_int (fun _ _ => rfl)) (pe_ix ix_seq (pv 1) pe_int (fun _ _ => rfl))) pa_nil))))
  (pss_cons (ps_if (PW.pt (pw_or (pt_not (pt_val (pe_call G__law_same (hr.mono (by decide)) rfl T.g__law_same T.F__law_same.kp (B__law_same T) .nil pass0 (pa_cons (pe_call G_plus (hr.mono (by decide)) rfl T.g_plus T.F_plus.kp (B_plus T) .nil pass0 (pa_cons (pv 0) (pa_cons (pv 1) pa_nil))) (pa_cons (pv 2) pa_nil))))) (pw_or1 (pt_not (pt_val (pe_call G__law_same (hr.mono (by decide)) rfl T.g__law_same T.F__law_same.kp (B__law_same T) .nil pass0 (pa_cons (pe_kw0 G_plus (hr.mono (by decide)) rfl T.g_plus T.F_plus.kp (KB_plus_other_one T) pass0 (pk_cons (pv 0) (pk_cons (pv 1) pk_nil))) (pa_cons (pv 2) pa_nil)))))))) (pss_one (ps_ret pe_bl)) pss_nil)
  (pss_cons (ps_set (i := 2) sc__law_pair.nd rfl (Or.inl rfl) (pe_call G__law_reduced (hr.mono (by decide)) rfl T.g__law_reduced T.F__law_reduced.kp (B__law_reduced T) .nil pass0 (pa_cons (pe_op op_sub (pe_op op_mulW (pe_ix ix_seq (pv 0) pe_int (fun _ _ => rfl)) (pe_ix ix_seq (pv 1) pe_int (fun _ _ => rfl))) (pe_op op_mulW (pe_ix ix_seq (pv 1) pe_int (fun _ _ => rfl)) (pe_ix ix_seq (pv 0) pe_int (fun _ _ => rfl)))) (pa_cons (pe_op op_mulW (pe_ix ix_seq (pv 0) pe_int (fun _ _ => rfl)) (pe_ix ix_seq (pv 1) pe_int (fun _ _ => rfl))) pa_nil))))
  (pss_cons (ps_if (PW.pt (pw_or (pt_not (pt_val (pe_call G__law_same (hr.mono (by decide)) rfl T.g__law_same T.F__law_same.kp (B__law_same T) .nil pass0 (pa_cons (pe_call G_less (hr.mono (by decide)) rfl T.g_less T.F_less.kp (B_less T) .nil pass0 (pa_cons (pv 0) (pa_cons (pv 1) pa_nil))) (pa_cons (pv 2) pa_nil))))) (pw_or1 (pt_not (pt_val (pe_call G__law_same (hr.mono (by decide)) rfl T.g__law_same T.F__law_same.kp (B__law_same T) .nil pass0 (pa_cons (pe_kw0 G_less (hr.mono (by decide)) rfl T.g_less T.F_less.kp (KB_less_other_one T) pass0 (pk_cons (pv 0) (pk_cons (pv 1) pk_nil))) (pa_cons (pe_tup (pa_cons (pe_un un_neg (pe_ix ix_seq (pv 2) pe_int (fun _ _ => rfl))) (pa_cons (pe_ix ix_seq (pv 2) pe_int (fun _ _ => rfl)) pa_nil))) pa_nil)))))))) (pss_one (ps_ret pe_bl)) pss_nil)
  (pss_cons (ps_set (i := 2) sc__law_pair.nd rfl (Or.inl rfl) (pe_call G__law_reduced (hr.mono (by decide)) rfl T.g__law_reduced T.F__law_reduced.kp (B__law_reduced T) .nil pass0 (pa_cons (pe_op op_mulW (pe_ix ix_seq (pv 0) pe_int (fun _ _ => rfl)) (pe_ix ix_seq (pv 1) pe_int (fun _ _ => rfl))) (pa_cons (pe_op op_mulW (pe_ix ix_seq (pv 0) pe_int (fun _ _ => rfl)) (pe_ix ix_seq (pv 1) pe_int (fun _ _ => rfl))) pa_nil))))
  (pss_cons (ps_if (PW.pt (pw_or (pt_not (pt_val (pe_call G__law_same (hr.mono (by decide)) rfl T.g__law_same T.F__law_same.kp (B__law_same T) .nil pass0 (pa_cons (pe_call G_times (hr.mono (by decide)) rfl T.g_times T.F_times.kp (B_times T) .nil pass0 (pa_cons (pv 0) (pa_cons (pv 1) pa_nil))) (pa_cons (pv 2) pa_nil))))) (pw_or1 (pt_not (pt_val (pe_call G__law_same (hr.mono (by decide)) rfl T.g__law_same T.F__law_same.kp (B__law_same T) .nil pass0 (pa_cons (pe_kw0 G_times (hr.mono (by decide)) rfl T.g_times T.F_times.kp (KB_times_other_one T) pass0 (pk_cons (pv 0) (pk_cons (pv 1) pk_nil))) (pa_cons (pv 2) pa_nil)))))))) (pss_one (ps_ret pe_bl)) pss_nil)
  (pss_cons (ps_if (PW.pt (pw_or (pt_not (pt_val (pe_call G__law_over (hr.mono (by decide)) rfl T.g__law_over T.F__law_over.kp (B__law_over T) .nil pass0 (pa_cons (pv 0) (pa_cons (pv 1) pa_nil))))) (pw_or1 (pt_not (pt_val (pe_call G__law_over (hr.mono (by decide)) rfl T.g__law_over T.F__law_over.kp (B__law_over T) .nil pass0 (pa_cons (pv 1) (pa_cons (pv 0) pa_nil)))))))) (pss_one (ps_ret pe_bl)) pss_nil)
  (pss_cons (ps_set (i := 2) sc__law_pair.nd rfl (Or.inl rfl) (pe_cmpR op_lt (pe_op op_mulW (pe_ix ix_seq (pv 0) pe_int (fun _ _ => rfl)) (pe_ix ix_seq (pv 1) pe_int (fun _ _ => rfl))) (pe_op op_mulW (pe_ix ix_seq (pv 1) pe_int (fun _ _ => rfl)) (pe_ix ix_seq (pv 0) pe_int (fun _ _ => rfl))) (nomark _)))
  (pss_cons (ps_if (PW.pt (pw_or (pt_not (pt_val (pe_call G__law_truth (hr.mono (by decide)) rfl T.g__law_truth T.F__law_truth.kp (B__law_truth T) .nil pass0 (pa_cons (pe_call G_is_below (hr.mono (by decide)) rfl T.g_is_below T.F_is_below.kp (B_is_below T) .nil pass0 (pa_cons (pv 0) (pa_cons (pv 1) pa_nil))) (pa_cons (pv 2) pa_nil))))) (pw_or1 (pt_not (pt_val (pe_call G__law_truth (hr.mono (by decide)) rfl T.g__law_truth T.F__law_truth.kp (B__law_truth T) .nil pass0 (pa_cons (pe_kw0 G_is_below (hr.mono (by decide)) rfl T.g_is_below T.F_is_below.kp (KB_is_below_other_one T) pass0 (pk_cons (pv 1) (pk_cons (pv 0) pk_nil))) (pa_cons (pv 2) pa_nil)))))))) (pss_one (ps_ret pe_bl)) pss_nil)
  (pss_cons (ps_set (i := 2) sc__law_pair.nd rfl (Or.inl rfl) (pe_cmpR op_lt (pe_op op_mulW (pe_ix ix_seq (pv 1) pe_int (fun _ _ => rfl)) (pe_ix ix_seq (pv 0) pe_int (fun _ _ => rfl))) (pe_op op_mulW (pe_ix ix_seq (pv 0) pe_int (fun _ _ => rfl)) (pe_ix ix_seq (pv 1) pe_int (fun _ _ => rfl))) (nomark _)))
  (pss_one (ps_ret (pe_and (pe_call G__law_truth (hr.mono (by decide)) rfl T.g__law_truth T.F__law_truth.kp (B__law_truth T) .nil pass0 (pa_cons (pe_call G_is_below (hr.mono (by decide)) rfl T.g_is_below T.F_is_below.kp (B_is_below T) .nil pass0 (pa_cons (pv 1) (pa_cons (pv 0) pa_nil))) (pa_cons (pv 2) pa_nil))) (pe_one (pe_call G__law_truth (hr.mono (by decide)) rfl T.g__law_truth T.F__law_truth.kp (B__law_truth T) .nil pass0 (pa_cons (pe_call G_is_below (hr.mono (by decide)) rfl T.g_is_below T.F_is_below.kp (B_is_below T) .nil pass0 (pa_cons (pv 0) (pa_cons (pv 0) pa_nil))) (pa_cons pe_bl pa_nil))))))))))))))))), ?_⟩
    walk_at "go"
    exact k _ (by walk_at "sm")
end
end K03

set_option Elab.async false
set_option linter.all false
set_option maxRecDepth 100000
set_option maxHeartbeats 8000000
namespace K03
open PySem L2 Sx
local macro_rules | `(tactic| walk_at "cond") => `(tactic| first
  | assumption
  | decide
  | exact c_mul_r (by first | decide | omega) (by first | decide | omega)
  | exact c_mul_l (by first | decide | omega) (by first | decide | omega)
  | exact c_div (by first | decide | omega) (by first | decide | omega)
  | exact c_pow (by first | decide | omega) (by first | decide | omega) (by first | decide | omega)
  | omega)
local macro_rules | `(tactic| walk_at "ne") => `(tactic| first
  | assumption
  | (refine Ne.symm ?_; assumption)
  | (refine' Flow.ne ?nh ?nn; (case nn => assumption); (case nh => walk_at "fl"))
  | (refine Ne.symm ?_; refine' Flow.ne ?nh ?nn; (case nn => assumption); (case nh => walk_at "fl"))
  | (refine' ne_of_none ?nh ?nn; (case nn => assumption); (case nh => walk_at "at"))
  | (refine Ne.symm ?_; refine' ne_of_none ?nh ?nn; (case nn => assumption); (case nh => walk_at "at")))
local macro_rules | `(tactic| walk_at "at") => `(tactic| first
  | assumption
  | (refine Same.up (by assumption) ?_; walk_at "at")
  | (refine Keep.up (by assumption) (by walk_at "ne") ?_; walk_at "at"))
local macro_rules | `(tactic| walk_at "fl") => `(tactic| first
  | assumption
  | (refine Flow.same (by assumption) ?_; walk_at "fl")
  | (refine Flow.keep (by assumption) (by walk_at "ne") ?_; walk_at "fl"))
local macro_rules | `(tactic| walk_at "fr") => `(tactic| first
  | assumption
  | (refine same_free (by assumption) ?_; walk_at "fr")
  | (refine Keep.free (by assumption) (by walk_at "ne") ?_; walk_at "fr"))
local macro_rules | `(tactic| walk_at "kp") => `(tactic| first
  | assumption
  | exact Keep.refl _ _
  | (refine Keep.trans ?_ (by assumption); walk_at "kp")
  | (refine Keep.trans ?_ (Keep.same (by assumption)); walk_at "kp"))
local macro_rules | `(tactic| walk_at "sm") => `(tactic| first
  | assumption
  | exact L2.Same.refl _
  | (refine L2.Same.trans ?_ (by assumption); walk_at "sm"))
local macro_rules | `(tactic| walk_at "sz") => `(tactic| first | exact Nat.le_of_ble_eq_true rfl | omega)
local macro_rules | `(tactic| walk_at "new") => `(tactic| (intro p np; generalize hE : upd _ p _ = H2; have s2 := new_same np hE; have h2 := new_at hE; clear hE))
local macro_rules | `(tactic| walk_at "newx") => `(tactic| (intro e d na nd hda; generalize hE : upd (upd _ d _) e _ = H2; have s2 := newx_same na nd hE; have h2 := newx_at hE; have h3 := newx_d hda hE; clear hE))
local macro_rules | `(tactic| walk_at "s1") => `(tactic| first
  | with_reducible refine s_seq ?_
  | with_reducible refine s_asg ?_
  | with_reducible refine s_name ?_
  | with_reducible refine s_ret ?_
  | with_reducible refine s_c ?_
  | ((with_reducible refine' s_var ?hv ?_); (case hv => rfl))
  | with_reducible refine s_op ?_
  | with_reducible refine s_un ?_
  | with_reducible refine s_ifS ?_
  | with_reducible refine s_cb ?_
  | with_reducible refine s_cons ?_
  | with_reducible refine s_nil ?_
  | with_reducible refine s_call ?_
  | with_reducible refine s_test ?_
  | with_reducible refine s_tB ?_
  | with_reducible refine s_bl ?_
  | with_reducible refine s_and ?_
  | with_reducible refine s_or ?_
  | with_reducible refine s_not ?_
  | with_reducible refine s_andV ?_
  | with_reducible refine s_orV ?_
  | with_reducible refine s_notV ?_
  | with_reducible refine s_blV ?_
  | with_reducible refine s_if ?_
  | with_reducible refine s_tup ?_
  | with_reducible refine s_lst ?_
  | with_reducible refine s_drop ?_
  | with_reducible refine s_next ?_
  | with_reducible refine s_sub ?_
  | with_reducible refine s_bm ?_
  | with_reducible refine s_callK ?_
  | with_reducible refine s_brk ?_
  | with_reducible refine s_cont ?_
  | with_reducible refine r_I0 ?_
  | with_reducible refine r_U ?_
  | with_reducible refine r_eqI ?_
  | with_reducible refine r_neI ?_
  | with_reducible refine r_isB ?_
  | with_reducible refine r_notB ?_
  | with_reducible refine i_t ?_
  | with_reducible refine i_f ?_
  | with_reducible refine i_nt ?_
  | with_reducible refine i_nf ?_
  | ((with_reducible refine' r_I ?hc ?_); (case hc => walk_at "cond"))
  | (with_reducible refine .inl ⟨_, rfl, ?_⟩)
  | (with_reducible refine ⟨_, rfl, ?_⟩)
  | ((with_reducible refine' r_ixL ?hx ?ha ?_); (case hx => walk_at "at"); (case ha => rfl))
  | ((with_reducible refine' r_ixT ?hx ?ha ?_); (case hx => walk_at "at"); (case ha => rfl))
  | ((with_reducible refine' r_setL ?hx ?ha ?_); (case hx => walk_at "at"); (case ha => rfl); intro H2 k2 h2; (try dsimp only [List.set, Int.toNat] at h2))
  | ((with_reducible refine' r_app ?hx ?hl ?_); (case hx => walk_at "at"); (case hl => first | exact Nat.lt_of_ble_eq_true rfl | omega); intro H2 k2 h2)
  | ((with_reducible refine' ty_list ?hx ?_); (case hx => walk_at "at"))
  | (refine And.intro (by (with_reducible show _ ≤ sizeLine); walk_at "sz") ?_; walk_at "new")
  | with_reducible refine s_exv ?_
  | walk_at "newx")
local macro_rules | `(tactic| walk_at "sx") => `(tactic| repeat (walk_at "s1"))
local macro_rules | `(tactic| walk_at "s2") => `(tactic| first
  | ((with_reducible refine' r_ixG ?hx ?hn ?_); (case hx => walk_at "at"); (case hn => omega))
  | ((with_reducible refine' r_ixGT ?hx ?hn ?_); (case hx => walk_at "at"); (case hn => omega))
  | (with_reducible refine ig_cons (fun hix => ?_) (fun hix => ?_))
  | ((with_reducible refine ig_nil ?_); omega)
  | ((with_reducible refine' i_T ?hc ?_); (case hc => omega))
  | ((with_reducible refine' i_F ?hc ?_); (case hc => omega))
  | (with_reducible refine i_2 (fun hc => ?_) (fun hc => ?_))
  | (with_reducible refine i_n2 (fun hc => ?_) (fun hc => ?_)))
local macro_rules | `(tactic| walk_at "go") => `(tactic| repeat' (first | walk_at "s1" | walk_at "s2"))

local macro_rules | `(tactic| walk_at "sms") => `(tactic| first
  | assumption
  | exact Sm.neg (by walk_at "sms")
  | exact Sm.mul (by walk_at "sms") (by walk_at "sms")
  | exact Sm.add (by walk_at "sms") (by walk_at "sms")
  | exact Sm.sub (by walk_at "sms") (by walk_at "sms")
  | exact sm_1
  | exact sm_3)
local macro_rules | `(tactic| walk_at "s1") => `(tactic| first
  | ((with_reducible refine' r_I (C := CMulW) ?hc ?_); (case hc => exact c_mulW (by walk_at "sms") (by walk_at "sms") (by first | decide | omega)))
  | ((with_reducible refine' r_I (C := CDivW) ?hc ?_); (case hc => exact c_divW (by assumption) (by walk_at "sms") (by first | decide | omega)))
  | (with_reducible refine ⟨_, _, rfl, ?_⟩)
  | with_reducible refine s_callS ?_
  | with_reducible refine s_callKS ?_)

local macro_rules | `(tactic| walk_at "sh") => `(tactic| first
  | assumption
  | (refine Sh.same (by assumption) ?_; walk_at "sh"))
local macro_rules | `(tactic| walk_at "s2") => `(tactic| first
  | ((with_reducible show spTwo _ _ _ _ _ _); refine' ⟨_, _, _, _, _, _, _, _, rfl, ?h1, ?h2, ?h3, ?_⟩; (case h1 => walk_at "sh"); (case h2 => walk_at "sh"); (case h3 => omega); intro r H' nr s' h')
  | ((with_reducible show spRed _ _ _ _); refine' ⟨_, _, rfl, ?h1, ?h2, ?h3, ?_⟩; (case h1 => assumption); (case h2 => assumption); (case h3 => assumption); intro r H' nr s' h')
  | ((with_reducible show spSame _ _ _ _); refine' ⟨_, _, _, _, _, _, rfl, ?h1, ?h2, ?h3, ?h4, ?_⟩; (case h1 => walk_at "at"); (case h2 => walk_at "at"); (case h3 => first | rfl | assumption); (case h4 => first | rfl | assumption))
  | ((with_reducible show spTruth _ _ _ _); refine' ⟨_, _, rfl, ?h1, ?_⟩; (case h1 => first | rfl | assumption))
  | ((with_reducible show spBelow _ _ _ _); refine' ⟨_, _, _, _, _, _, _, _, rfl, ?h1, ?h2, ?h3, ?_⟩; (case h1 => walk_at "sh"); (case h2 => walk_at "sh"); (case h3 => omega))
  | ((with_reducible show spLOver _ _ _ _); refine' ⟨_, _, _, _, _, _, _, _, rfl, ?h1, ?h2, ?h3, ?_⟩; (case h1 => walk_at "sh"); (case h2 => walk_at "sh"); (case h3 => omega); intro H' s')
  | ((with_reducible show spLPair _ _ _ _); refine' ⟨_, _, _, _, _, _, _, _, rfl, ?h1, ?h2, ?h3, ?h4, ?_⟩; (case h1 => walk_at "sh"); (case h2 => walk_at "sh"); (case h3 => omega); (case h4 => omega); intro H' s')
  | ((with_reducible show spRounds _ _ _ _); refine' ⟨_, _, _, _, _, rfl, ?h1, ?h2, ?_⟩; (case h1 => walk_at "sh"); (case h2 => omega)))
section
variable {P : Program} {w : World} {K : PySem.W.Frag} {mg : Str → Option Value} {base : Heap} {A : Ad}
def spLTotal : Sp := fun vs H Q _ => ∃ (l : Addr) (xs : List V) (ps : List (Int × Int)) (b : Bool), vs = [.ref l, .bl b] ∧ H l = some (.lst xs) ∧ ShL H xs ps ∧ xs.length ≤ 7 ∧ ∀ r t x y H', Same H H' → H' r = some (.lst [.ref t]) → Sh 300 H' t x y → Q (.ref r) H'
theorem ShL.getp {H : Hp} {xs ps} {i : Nat} (h : ShL H xs ps) (hi : i < xs.length) : ∃ p a b, xs[i]? = some (.ref p) ∧ ps[i]? = some (a, b) ∧ Sh 40 H p a b := by
  obtain ⟨p, a, b, h1, h2, h3⟩ := h.get (List.getElem?_eq_getElem hi)
  exact ⟨p, a, b, by rw [List.getElem?_eq_getElem hi, h1], h2, h3⟩
theorem ShL.keep {H H' : Hp} {z : Addr} {o : HO} (e : Keep z H H') (hz : H z = some (.lst [])) : True := trivial
theorem Sh.mono {n m : Nat} {H : Hp} {p : Addr} {x y : Int} (s : Sh n H p x y) (l : n ≤ m) : Sh m H p x y := ⟨s.at_, s.sx.mono l, s.sy.mono l, s.po⟩
theorem ShL.up {H H' : Hp} (e : ∀ p a b, Shr H p a b → Shr H' p a b) : ∀ {xs ps}, ShL H xs ps → ShL H' xs ps
  | _, _, .nil => .nil
  | _, _, .cons h t => .cons ⟨e _ _ _ h.at_, h.sx, h.sy, h.po⟩ (ShL.up e t)
theorem shr_keep {H H' : Hp} {z : Addr} {xs : List V} (e : Keep z H H') (hz : H z = some (.lst xs)) : ∀ p a b, Shr H p a b → Shr H' p a b := fun p a b h => e _ _ (ne_of h hz (by intro q; cases q)) h
theorem ok_ltotal (T : Txt P K mg A) : FnOk P w K mg base CX0 4 A.a__law_total A.d__law_total ["shares_drawn", "as_list"] spLTotal := by
  refine T.F__law_total.ok sc__law_total (fun vs H Q E h => ?_) (fun cdv A' outer s H vs Q E hr h => ?_)
  · obtain ⟨l, xs, ps, b, rfl, _⟩ := h
    rfl
  · obtain ⟨l, xs, ps, b, rfl, hl, hps, hlen, k⟩ := h
    have G_total_of := ok_totalL (w := w) (base := base) T
    have G_totalT := ok_totalT (w := w) (base := base) T
    have G__law_reduced := ok_red (w := w) (base := base) T
    have G__law_same := ok_same (w := w) (base := base) T
    refine ⟨_, (pss_cons (ps_set (i := 2) sc__law_total.nd rfl (Or.inl rfl) (pe_tup (pa_cons pe_int (pa_cons pe_int pa_nil))))
  (pss_cons (ps_for PassesOwn.never rfl (pi_list (pv 0)) (pg_name (i := 3) sc__law_total.nd rfl (Or.inl rfl))
  (pss_one (ps_set (i := 2) sc__law_total.nd rfl (Or.inl rfl) (pe_call G__law_reduced (hr.mono (by decide)) rfl T.g__law_reduced T.F__law_reduced.kp (B__law_reduced T) .nil pass0 (pa_cons (pe_op op_add (pe_op op_mulW (pe_ix ix_seq (pv 2) pe_int (fun _ _ => rfl)) (pe_ix ix_seq (pv 3) pe_int (fun _ _ => rfl))) (pe_op op_mulW (pe_ix ix_seq (pv 3) pe_int (fun _ _ => rfl)) (pe_ix ix_seq (pv 2) pe_int (fun _ _ => rfl)))) (pa_cons (pe_op op_mulW (pe_ix ix_seq (pv 2) pe_int (fun _ _ => rfl)) (pe_ix ix_seq (pv 3) pe_int (fun _ _ => rfl))) pa_nil))))))
  (pss_cons (ps_if (pt_val (pv 1)) (pss_cons (ps_set (i := 4) sc__law_total.nd rfl (Or.inl rfl) (pe_callTy call_list_of (by rfl) T.n_list (by decide +kernel) (pa_cons (pv 0) pa_nil)))
  (pss_cons (ps_set (i := 5) sc__law_total.nd rfl (Or.inl rfl) (pe_call G_total_of (hr.mono (by decide)) rfl T.g_total_of T.F_total_of.kp (B_total_of T) .nil pass0 (pa_cons (pv 4) pa_nil)))
  (pss_cons (ps_if (pt_cmpR op_ne (pe_callB call_len (by rfl) T.n_len (by decide +kernel) (pa_cons (pv 4) pa_nil)) (pe_callB call_len (by rfl) T.n_len (by decide +kernel) (pa_cons (pv 0) pa_nil)) (nomark _)) (pss_one (ps_ret (pe_lst pa_nil))) pss_nil)
  (pss_cons (ps_for PassesOwn.never rfl (pi_range1 rfl T.n_range (pa_cons (pe_callB call_len (by rfl) T.n_len (by decide +kernel) (pa_cons (pv 4) pa_nil)) pa_nil)) (pg_name (i := 6) sc__law_total.nd rfl (Or.inl rfl))
  (pss_one (ps_if (pt_not (pt_val (pe_call G__law_same (hr.mono (by decide)) rfl T.g__law_same T.F__law_same.kp (B__law_same T) .nil pass0 (pa_cons (pe_ix ix_seq (pv 4) (pv 6) (fun _ _ => rfl)) (pa_cons (pe_ix ix_seq (pv 0) (pv 6) (fun _ _ => rfl)) pa_nil))))) (pss_one (ps_ret (pe_lst pa_nil))) pss_nil)))
  (pss_cons (ps_expr (pe_bm PySem.F.plainAttrs_list PySem.F.slot_list_append PySem.F.type_list_append mt_append (pv 4) (pa_cons (pe_tup (pa_cons pe_int (pa_cons pe_int pa_nil))) pa_nil)))
  (pss_cons (ps_set (i := 7) sc__law_total.nd rfl (Or.inl rfl) (pe_call G_total_of (hr.mono (by decide)) rfl T.g_total_of T.F_total_of.kp (B_total_of T) .nil pass0 (pa_cons (pv 4) pa_nil)))
  (pss_one (ps_if (pt_not (pt_val (pe_call G__law_same (hr.mono (by decide)) rfl T.g__law_same T.F__law_same.kp (B__law_same T) .nil pass0 (pa_cons (pv 7) (pa_cons (pe_call G__law_reduced (hr.mono (by decide)) rfl T.g__law_reduced T.F__law_reduced.kp (B__law_reduced T) .nil pass0 (pa_cons (pe_op op_add (pe_op op_mulW (pe_ix ix_seq (pv 2) pe_int (fun _ _ => rfl)) pe_int) (pe_ix ix_seq (pv 2) pe_int (fun _ _ => rfl))) (pa_cons (pe_op op_mulW (pe_ix ix_seq (pv 2) pe_int (fun _ _ => rfl)) pe_int) pa_nil))) pa_nil))))) (pss_one (ps_ret (pe_lst pa_nil))) pss_nil)))))))) (pss_one (ps_set (i := 5) sc__law_total.nd rfl (Or.inl rfl) (pe_kw0 G_totalT (hr.mono (by decide)) rfl T.g_total_of T.F_total_of.kp (KB_total_of_shares T) pass0 (pk_cons (pe_callTy call_tuple_of (by rfl) T.n_tuple (by decide +kernel) (pa_cons (pv 0) pa_nil)) pk_nil)))))
  (pss_cons (ps_if (pt_val (pe_call G__law_same (hr.mono (by decide)) rfl T.g__law_same T.F__law_same.kp (B__law_same T) .nil pass0 (pa_cons (pv 5) (pa_cons (pv 2) pa_nil)))) (pss_one (ps_ret (pe_lst (pa_cons (pv 5) pa_nil)))) pss_nil)
  (pss_one (ps_ret (pe_lst pa_nil))))))), ?_⟩
    walk_at "sx"
    rename_i t0 n0 H0 s0 h0
    refine ⟨_, rfl, l, rfl, ⟨_, SqL.of (s0 _ _ hl)⟩, for_list (K := K) (a := l) (xs := xs) (fun i σ H' => Same H H' ∧ ∃ (t : Addr) (v : Option V), σ = [some (.ref l), some (.bl b), some (.ref t), v, none, none, none, none] ∧ Sh (41 * i + 1) H' t (tot (ps.take i)).1 (tot (ps.take i)).2) ?_ ?_ ?_ ?_⟩
    · exact ⟨s0, t0, _, rfl, ⟨h0, sm_0, sm_1, (by decide : (0 : Int) < 1)⟩⟩
    · rintro i σ H' _ ⟨s', _⟩
      exact SqL.of (s' _ _ hl)
    · rintro i x σ H' hx ⟨s', t, v, rfl, ht⟩
      obtain ⟨p, a, c, rfl, hpi, hp⟩ := hps.get hx
      have hi : i < xs.length := (List.getElem?_eq_some_iff.mp hx).1
      have hp' := hp.same s'
      have hpa := hp'.at_
      have hta := ht.at_
      have q1 := ht.sx
      have q2 := ht.sy
      have q3 := hp.sx
      have q4 := hp.sy
      walk_at "sx"
      refine c_red (gd_pos ht.po hp.po) (Sm.mono (Sm.add (Sm.mul q1 q4) (Sm.mul q3 q2)) (by omega)) (Sm.mono (Sm.mul q2 q4) (by omega)) (fun r H2 nr s2 h2 => ?_)
      walk_at "sx"
      have st := stp_sh (s := (a, c)) ht.sx ht.sy ht.po hp.sx hp.sy hp.po
      refine ⟨s'.trans s2, r, _, rfl, ?_⟩
      rw [take_more hpi, tot_snoc]
      exact ⟨h2, st.1.mono (by omega), st.2.1.mono (by omega), st.2.2⟩
    · rintro σ H' ⟨s', t, v, rfl, ht⟩
      rw [hps.len, List.take_length, ← hps.len] at ht
      have hta := ht.at_
      have q1 := ht.sx
      have q2 := ht.sy
      have hl' := s' _ _ hl
      have hps' := hps.same s'
      walk_at "sx"
      refine i_b2 (fun hb => ?_) (fun hb => ?_)
      · walk_at "sx"
        refine ⟨_, _, rfl, .inl (SqL.of hl'), ?_⟩
        intro g ng
        generalize hE : upd H' g _ = H2
        have s2 := new_same ng hE
        have hg := new_at hE
        clear hE
        walk_at "sx"
        refine ⟨g, xs, ps, rfl, SqL.of hg, hps'.same s2, by omega, fun u H3 s3 hu => ?_⟩
        have hg3 := s3 _ _ hg
        have hl3 := s3 _ _ (s2 _ _ hl')
        have hps3 := (hps'.same s2).same s3
        walk_at "sx"
        refine ⟨_, _, rfl, .inl ⟨_, SqL.of hg3, rfl⟩, ?_⟩
        walk_at "sx"
        refine ⟨_, _, rfl, .inl ⟨_, SqL.of hl3, rfl⟩, ?_⟩
        walk_at "sx"
        refine i_n2 (fun z => absurd rfl z) (fun _ => ?_)
        unfold tFor iRng1
        walk_at "sx"
        refine ⟨_, _, rfl, .inl ⟨_, SqL.of hg3, rfl⟩, ?_⟩
        walk_at "sx"
        refine ⟨by omega, by omega, for_range (lo := 0) (n := xs.length) (fun i σ H' => H' = H3 ∧ ∃ v6, σ = [some (.ref l), some (.bl b), some (.ref t), v, some (.ref g), some (.ref u), v6, none]) ⟨rfl, _, rfl⟩ ?_ ?_⟩
        · rintro i σ H4 hi ⟨rfl, v6, rfl⟩
          obtain ⟨p, a, c, e1, e2, e3⟩ := hps3.getp hi
          have hat : atI xs (0 + (i : Int)) = some (.ref p) := by
            rw [Int.zero_add]
            exact atI_nat e1
          have e4 := e3.at_
          walk_at "sx"
          refine r_ixL hg3 hat ?_
          walk_at "sx"
          refine r_ixL hl3 hat ?_
          walk_at "sx"
          refine ⟨p, p, a, c, a, c, rfl, e4, e4, rfl, rfl, ?_⟩
          walk_at "sx"
          exact ⟨rfl, _, rfl⟩
        · rintro σ H4 ⟨rfl, v6, rfl⟩
          have hta4 := s3 _ _ (s2 _ _ hta)
          have hua4 := hu.at_
          walk_at "sx"
          rename_i w nw H5 s5 hw
          refine r_app (s5 _ _ hg3) (by show xs.length < 16777216; omega) (fun H6 k6 h6 => ?_)
          have kk := shr_keep k6 (s5 _ _ hg3)
          have hw6 : Sh 40 H6 w 1 3 := ⟨kk _ _ _ hw, sm_1.mono (by decide), sm_3.mono (by decide), by decide⟩
          have hps6 : ShL H6 xs ps := (hps3.same s5).up kk
          have hta6 := kk _ _ _ (s5 _ _ hta4)
          have hua6 := kk _ _ _ (s5 _ _ hua4)
          walk_at "sx"
          refine ⟨g, _, _, rfl, SqL.of h6, ShL.app hw6 hps6, by rw [List.length_append]; show xs.length + 1 ≤ 8; omega, fun z H7 s7 hz => ?_⟩
          have hza := hz.at_
          have hta7 := s7 _ _ hta6
          have hua7 := s7 _ _ hua6
          walk_at "sx"
          refine c_red (gd_pos ht.po (by decide)) (Sm.mono (Sm.add (Sm.mul q1 sm_3) q2) (by omega)) (Sm.mono (Sm.mul q2 sm_3) (by omega)) (fun r H8 nr s8 h8 => ?_)
          walk_at "sx"
          refine ⟨z, r, _, _, _, _, rfl, s8 _ _ hza, h8, ?_, ?_, ?_⟩
          · rw [tot_snoc]
            show rdU ((tot ps).1 * 3 + 1 * (tot ps).2) _ = _
            rw [Int.one_mul]
          · rw [tot_snoc]
            show rdL ((tot ps).1 * 3 + 1 * (tot ps).2) _ = _
            rw [Int.one_mul]
          · walk_at "sx"
            refine ⟨u, t, _, _, _, _, rfl, s8 _ _ hua7, s8 _ _ hta7, rfl, rfl, ?_⟩
            walk_at "sx"
            rename_i e ne H9 s9 he
            have hg0 : H g = none := same_free s' (by assumption)
            have sH5 : Same H H5 := s'.trans (s2.trans (s3.trans s5))
            exact k _ _ _ _ _ ((Keep.toSame sH5 hg0 k6).trans (s7.trans (s8.trans s9))) he ⟨s9 _ _ (s8 _ _ hua7), hu.sx.mono (by omega), hu.sy.mono (by omega), hu.po⟩
      · walk_at "sx"
        refine ⟨_, _, rfl, .inl ⟨SqL.of hl', ?_⟩⟩
        intro g ng
        generalize hE : upd H' g _ = H2
        have s2 := new_same ng hE
        have hg := new_at hE
        clear hE
        walk_at "sx"
        refine ⟨g, xs, ps, rfl, SqT.of hg, hps'.same s2, by omega, fun u H3 s3 hu => ?_⟩
        have hua := hu.at_
        walk_at "go"
        exact k _ _ _ _ _ (by walk_at "sm") (by assumption) ((hu.same (by assumption)).mono (by omega))
end
end K03

set_option Elab.async false
set_option linter.all false
set_option maxRecDepth 100000
set_option maxHeartbeats 8000000
namespace K03
open PySem L2 Sx
local macro_rules | `(tactic| walk_at "cond") => `(tactic| first
  | assumption
  | decide
  | exact c_mul_r (by first | decide | omega) (by first | decide | omega)
  | exact c_mul_l (by first | decide | omega) (by first | decide | omega)
  | exact c_div (by first | decide | omega) (by first | decide | omega)
  | exact c_pow (by first | decide | omega) (by first | decide | omega) (by first | decide | omega)
  | omega)
local macro_rules | `(tactic| walk_at "ne") => `(tactic| first
  | assumption
  | (refine Ne.symm ?_; assumption)
  | (refine' Flow.ne ?nh ?nn; (case nn => assumption); (case nh => walk_at "fl"))
  | (refine Ne.symm ?_; refine' Flow.ne ?nh ?nn; (case nn => assumption); (case nh => walk_at "fl"))
  | (refine' ne_of_none ?nh ?nn; (case nn => assumption); (case nh => walk_at "at"))
  | (refine Ne.symm ?_; refine' ne_of_none ?nh ?nn; (case nn => assumption); (case nh => walk_at "at")))
local macro_rules | `(tactic| walk_at "at") => `(tactic| first
  | assumption
  | (refine Same.up (by assumption) ?_; walk_at "at")
  | (refine Keep.up (by assumption) (by walk_at "ne") ?_; walk_at "at"))
local macro_rules | `(tactic| walk_at "fl") => `(tactic| first
  | assumption
  | (refine Flow.same (by assumption) ?_; walk_at "fl")
  | (refine Flow.keep (by assumption) (by walk_at "ne") ?_; walk_at "fl"))
local macro_rules | `(tactic| walk_at "fr") => `(tactic| first
  | assumption
  | (refine same_free (by assumption) ?_; walk_at "fr")
  | (refine Keep.free (by assumption) (by walk_at "ne") ?_; walk_at "fr"))
local macro_rules | `(tactic| walk_at "kp") => `(tactic| first
  | assumption
  | exact Keep.refl _ _
  | (refine Keep.trans ?_ (by assumption); walk_at "kp")
  | (refine Keep.trans ?_ (Keep.same (by assumption)); walk_at "kp"))
local macro_rules | `(tactic| walk_at "sm") => `(tactic| first
  | assumption
  | exact L2.Same.refl _
  | (refine L2.Same.trans ?_ (by assumption); walk_at "sm"))
local macro_rules | `(tactic| walk_at "sz") => `(tactic| first | exact Nat.le_of_ble_eq_true rfl | omega)
local macro_rules | `(tactic| walk_at "new") => `(tactic| (intro p np; generalize hE : upd _ p _ = H2; have s2 := new_same np hE; have h2 := new_at hE; clear hE))
local macro_rules | `(tactic| walk_at "newx") => `(tactic| (intro e d na nd hda; generalize hE : upd (upd _ d _) e _ = H2; have s2 := newx_same na nd hE; have h2 := newx_at hE; have h3 := newx_d hda hE; clear hE))
local macro_rules | `(tactic| walk_at "s1") => `(tactic| first
  | with_reducible refine s_seq ?_
  | with_reducible refine s_asg ?_
  | with_reducible refine s_name ?_
  | with_reducible refine s_ret ?_
  | with_reducible refine s_c ?_
  | ((with_reducible refine' s_var ?hv ?_); (case hv => rfl))
  | with_reducible refine s_op ?_
  | with_reducible refine s_un ?_
  | with_reducible refine s_ifS ?_
  | with_reducible refine s_cb ?_
  | with_reducible refine s_cons ?_
  | with_reducible refine s_nil ?_
  | with_reducible refine s_call ?_
  | with_reducible refine s_test ?_
  | with_reducible refine s_tB ?_
  | with_reducible refine s_bl ?_
  | with_reducible refine s_and ?_
  | with_reducible refine s_or ?_
  | with_reducible refine s_not ?_
  | with_reducible refine s_andV ?_
  | with_reducible refine s_orV ?_
  | with_reducible refine s_notV ?_
  | with_reducible refine s_blV ?_
  | with_reducible refine s_if ?_
  | with_reducible refine s_tup ?_
  | with_reducible refine s_lst ?_
  | with_reducible refine s_drop ?_
  | with_reducible refine s_next ?_
  | with_reducible refine s_sub ?_
  | with_reducible refine s_bm ?_
  | with_reducible refine s_callK ?_
  | with_reducible refine s_brk ?_
  | with_reducible refine s_cont ?_
  | with_reducible refine r_I0 ?_
  | with_reducible refine r_U ?_
  | with_reducible refine r_eqI ?_
  | with_reducible refine r_neI ?_
  | with_reducible refine r_isB ?_
  | with_reducible refine r_notB ?_
  | with_reducible refine i_t ?_
  | with_reducible refine i_f ?_
  | with_reducible refine i_nt ?_
  | with_reducible refine i_nf ?_
  | ((with_reducible refine' r_I ?hc ?_); (case hc => walk_at "cond"))
  | (with_reducible refine .inl ⟨_, rfl, ?_⟩)
  | (with_reducible refine ⟨_, rfl, ?_⟩)
  | ((with_reducible refine' r_ixL ?hx ?ha ?_); (case hx => walk_at "at"); (case ha => rfl))
  | ((with_reducible refine' r_ixT ?hx ?ha ?_); (case hx => walk_at "at"); (case ha => rfl))
  | ((with_reducible refine' r_setL ?hx ?ha ?_); (case hx => walk_at "at"); (case ha => rfl); intro H2 k2 h2; (try dsimp only [List.set, Int.toNat] at h2))
  | ((with_reducible refine' r_app ?hx ?hl ?_); (case hx => walk_at "at"); (case hl => first | exact Nat.lt_of_ble_eq_true rfl | omega); intro H2 k2 h2)
  | ((with_reducible refine' ty_list ?hx ?_); (case hx => walk_at "at"))
  | (refine And.intro (by (with_reducible show _ ≤ sizeLine); walk_at "sz") ?_; walk_at "new")
  | with_reducible refine s_exv ?_
  | walk_at "newx")
local macro_rules | `(tactic| walk_at "sx") => `(tactic| repeat (walk_at "s1"))
local macro_rules | `(tactic| walk_at "s2") => `(tactic| first
  | ((with_reducible refine' r_ixG ?hx ?hn ?_); (case hx => walk_at "at"); (case hn => omega))
  | ((with_reducible refine' r_ixGT ?hx ?hn ?_); (case hx => walk_at "at"); (case hn => omega))
  | (with_reducible refine ig_cons (fun hix => ?_) (fun hix => ?_))
  | ((with_reducible refine ig_nil ?_); omega)
  | ((with_reducible refine' i_T ?hc ?_); (case hc => omega))
  | ((with_reducible refine' i_F ?hc ?_); (case hc => omega))
  | (with_reducible refine i_2 (fun hc => ?_) (fun hc => ?_))
  | (with_reducible refine i_n2 (fun hc => ?_) (fun hc => ?_)))
local macro_rules | `(tactic| walk_at "go") => `(tactic| repeat' (first | walk_at "s1" | walk_at "s2"))

local macro_rules | `(tactic| walk_at "sms") => `(tactic| first
  | assumption
  | exact Sm.neg (by walk_at "sms")
  | exact Sm.mul (by walk_at "sms") (by walk_at "sms")
  | exact Sm.add (by walk_at "sms") (by walk_at "sms")
  | exact Sm.sub (by walk_at "sms") (by walk_at "sms")
  | exact sm_1
  | exact sm_3)
local macro_rules | `(tactic| walk_at "s1") => `(tactic| first
  | ((with_reducible refine' r_I (C := CMulW) ?hc ?_); (case hc => exact c_mulW (by walk_at "sms") (by walk_at "sms") (by first | decide | omega)))
  | ((with_reducible refine' r_I (C := CDivW) ?hc ?_); (case hc => exact c_divW (by assumption) (by walk_at "sms") (by first | decide | omega)))
  | (with_reducible refine ⟨_, _, rfl, ?_⟩)
  | with_reducible refine s_callS ?_
  | with_reducible refine s_callKS ?_)

local macro_rules | `(tactic| walk_at "sh") => `(tactic| first
  | assumption
  | (refine Sh.same (by assumption) ?_; walk_at "sh"))
local macro_rules | `(tactic| walk_at "s2") => `(tactic| first
  | ((with_reducible show spTwo _ _ _ _ _ _); refine' ⟨_, _, _, _, _, _, _, _, rfl, ?h1, ?h2, ?h3, ?_⟩; (case h1 => walk_at "sh"); (case h2 => walk_at "sh"); (case h3 => omega); intro r H' nr s' h')
  | ((with_reducible show spRed _ _ _ _); refine' ⟨_, _, rfl, ?h1, ?h2, ?h3, ?_⟩; (case h1 => assumption); (case h2 => assumption); (case h3 => assumption); intro r H' nr s' h')
  | ((with_reducible show spSame _ _ _ _); refine' ⟨_, _, _, _, _, _, rfl, ?h1, ?h2, ?h3, ?h4, ?_⟩; (case h1 => walk_at "at"); (case h2 => walk_at "at"); (case h3 => first | rfl | assumption); (case h4 => first | rfl | assumption))
  | ((with_reducible show spTruth _ _ _ _); refine' ⟨_, _, rfl, ?h1, ?_⟩; (case h1 => first | rfl | assumption))
  | ((with_reducible show spBelow _ _ _ _); refine' ⟨_, _, _, _, _, _, _, _, rfl, ?h1, ?h2, ?h3, ?_⟩; (case h1 => walk_at "sh"); (case h2 => walk_at "sh"); (case h3 => omega))
  | ((with_reducible show spLOver _ _ _ _); refine' ⟨_, _, _, _, _, _, _, _, rfl, ?h1, ?h2, ?h3, ?_⟩; (case h1 => walk_at "sh"); (case h2 => walk_at "sh"); (case h3 => omega); intro H' s')
  | ((with_reducible show spLPair _ _ _ _); refine' ⟨_, _, _, _, _, _, _, _, rfl, ?h1, ?h2, ?h3, ?h4, ?_⟩; (case h1 => walk_at "sh"); (case h2 => walk_at "sh"); (case h3 => omega); (case h4 => omega); intro H' s')
  | ((with_reducible show spRounds _ _ _ _); refine' ⟨_, _, _, _, _, rfl, ?h1, ?h2, ?_⟩; (case h1 => walk_at "sh"); (case h2 => omega)))
section
variable {P : Program} {w : World} {K : PySem.W.Frag} {mg : Str → Option Value} {base : Heap} {A : Ad}
theorem s_yes {σ : L2.St} {H : Hp} {Q : Bool → Hp → Prop} (h : Q true H) : tYes σ H Q := h
theorem shr_flow {H H' : Hp} {f : Addr} (e : Keep f H H') (hf : Flow H f) : ∀ p a b, Shr H p a b → Shr H' p a b := fun p a b h => by
  obtain ⟨c, n, d, q, hz⟩ := hf
  exact e _ _ (ne_of h hz (by intro q; cases q)) h
def spLaw (K : PySem.W.Frag) : Sp := fun vs H Q _ => ∃ (a : Addr) (ns : List Int), vs = [.ref a] ∧ SqL K H a (ns.map V.int) ∧ ns.length ≤ 63 ∧ ∀ H', Q (.bl true) H'
theorem ok_all (T : Txt P K mg A) : FnOk P w K mg base CX0 6 A.a__law_all A.d__law_all ["script"] (spLaw K) := by
  refine T.F__law_all.ok sc__law_all (fun vs H Q E h => ?_) (fun cdv A' outer s H vs Q E hr h => ?_)
  · obtain ⟨a, ns, rfl, _⟩ := h
    rfl
  · obtain ⟨a, ns, rfl, hS, _, k⟩ := h
    have G__law_flow := ok_flow (w := w) (base := base) T
    have G__law_take := ok_take (w := w) (base := base) T
    have G__law_share := ok_draw (w := w) (base := base) T
    have G__law_beside := ok_beside (w := w) (base := base) T
    have G__law_pair := ok_lpair (w := w) (base := base) T
    have G__law_rounds := ok_rounds (w := w) (base := base) T
    have G__law_total := ok_ltotal (w := w) (base := base) T
    refine ⟨_, (pss_cons (ps_for PassesOwn.never rfl (pi_range1 rfl T.n_range (pa_cons pe_int pa_nil)) (pg_name (i := 1) sc__law_all.nd rfl (Or.inl rfl))
  (pss_cons (ps_set (i := 2) sc__law_all.nd rfl (Or.inr rfl) (pe_call G__law_flow (hr.mono (by decide)) rfl T.g__law_flow T.F__law_flow.kp (B__law_flow T) .nil pass0 (pa_cons (pv 0) (pa_cons (pv 1) pa_nil))))
  (pss_cons (ps_set (i := 3) sc__law_all.nd rfl (Or.inl rfl) (pe_call G__law_share (hr.mono (by decide)) rfl T.g__law_share T.F__law_share.kp (B__law_share T) .nil pass0 (pa_cons (pv 2) pa_nil)))
  (pss_cons (ps_set (i := 4) sc__law_all.nd rfl (Or.inl rfl) (pe_call G__law_beside (hr.mono (by decide)) rfl T.g__law_beside T.F__law_beside.kp (B__law_beside T) .nil pass0 (pa_cons (pv 2) (pa_cons (pv 3) pa_nil))))
  (pss_one (ps_if (PW.pt (pw_or (pt_not (pt_val (pe_call G__law_pair (hr.mono (by decide)) rfl T.g__law_pair T.F__law_pair.kp (B__law_pair T) .nil pass0 (pa_cons (pv 3) (pa_cons (pv 4) pa_nil))))) (pw_or (pt_not (pt_val (pe_call G__law_rounds (hr.mono (by decide)) rfl T.g__law_rounds T.F__law_rounds.kp (B__law_rounds T) .nil pass0 (pa_cons (pv 3) (pa_cons pe_bl pa_nil))))) (pw_or1 (pt_not (pt_val (pe_call G__law_rounds (hr.mono (by decide)) rfl T.g__law_rounds T.F__law_rounds.kp (B__law_rounds T) .nil pass0 (pa_cons (pv 4) (pa_cons pe_bl pa_nil))))))))) (pss_one (ps_ret pe_bl)) pss_nil))))))
  (pss_cons (ps_set (i := 2) sc__law_all.nd rfl (Or.inr rfl) (pe_call G__law_flow (hr.mono (by decide)) rfl T.g__law_flow T.F__law_flow.kp (B__law_flow T) .nil pass0 (pa_cons (pv 0) (pa_cons pe_int pa_nil))))
  (pss_cons (ps_set (i := 5) sc__law_all.nd rfl (Or.inl rfl) (pe_call G__law_take (hr.mono (by decide)) rfl T.g__law_take T.F__law_take.kp (B__law_take T) .nil pass0 (pa_cons (pv 2) (pa_cons pe_int pa_nil))))
  (pss_cons (ps_set (i := 6) sc__law_all.nd rfl (Or.inl rfl) (pe_cmpR op_eq (pe_call G__law_take (hr.mono (by decide)) rfl T.g__law_take T.F__law_take.kp (B__law_take T) .nil pass0 (pa_cons (pv 2) (pa_cons pe_int pa_nil))) pe_int (nomark _)))
  (pss_cons (ps_set (i := 7) sc__law_all.nd rfl (Or.inl rfl) (pe_call G__law_total (hr.mono (by decide)) rfl T.g__law_total T.F__law_total.kp (B__law_total T) .nil pass0 (pa_cons (pe_lc (own := [("k", 1)]) (g := gName 1) (by rfl) sc__law_all.nd (pi_range1 rfl T.n_range (pa_cons (pv 5) pa_nil)) (blkOk_by (own := [("k", 1)]) (N := ["script", "k", "flow", "one", "other", "many", "as_list", "total"]) (sc := defScope s__law_all) (by decide +kernel)) (fun _ _ _ _ _ => pg_name (i := 1) sc__law_all.nd rfl (Or.inl rfl)) (fun _ _ _ _ _ => pts_nil) (fun _ _ _ _ _ => (pe_call G__law_share (hr.mono (by decide)) rfl T.g__law_share T.F__law_share.kp (B__law_share T) .nil pass0 (pa_cons (pv 2) pa_nil)))) (pa_cons (pv 6) pa_nil))))
  (pss_cons (ps_if (pt_cmpR (op_eqD hr.units) (pv 7) (pe_lst pa_nil) (nomark _)) (pss_one (ps_ret pe_bl)) pss_nil)
  (pss_cons (ps_set (i := 3) sc__law_all.nd rfl (Or.inl rfl) (pe_call G__law_share (hr.mono (by decide)) rfl T.g__law_share T.F__law_share.kp (B__law_share T) .nil pass0 (pa_cons (pe_call G__law_flow (hr.mono (by decide)) rfl T.g__law_flow T.F__law_flow.kp (B__law_flow T) .nil pass0 (pa_cons (pv 0) (pa_cons pe_int pa_nil))) pa_nil)))
  (pss_one (ps_ret (pe_and (pe_call G__law_pair (hr.mono (by decide)) rfl T.g__law_pair T.F__law_pair.kp (B__law_pair T) .nil pass0 (pa_cons (pe_ix ix_seq (pv 7) pe_int (fun _ _ => rfl)) (pa_cons (pv 3) pa_nil))) (pe_one (pe_call G__law_rounds (hr.mono (by decide)) rfl T.g__law_rounds T.F__law_rounds.kp (B__law_rounds T) .nil pass0 (pa_cons (pe_ix ix_seq (pv 7) pe_int (fun _ _ => rfl)) (pa_cons pe_bl pa_nil)))))))))))))), ?_⟩
    refine s_seq ?_
    refine ⟨_, rfl, by decide, by decide, for_range (lo := 0) (n := 5) (fun i σ H' => Same H H' ∧ ∃ (v1 v2 v3 v4 : Option V), σ = [some (.ref a), v1, v2, v3, v4, none, none, none]) ⟨L2.Same.refl _, _, _, _, _, rfl⟩ ?_ ?_⟩
    · rintro i σ H' hi ⟨sH, v1, v2, v3, v4, rfl⟩
      walk_at "sx"
      refine c_flow (by omega) (sH.seq hS) (fun f H2 nf s2 F2 => ?_)
      walk_at "sx"
      refine ⟨f, rfl, F2, fun p x y H3 hp F3 K3 => ?_⟩
      walk_at "sx"
      refine ⟨f, p, x, y, rfl, F3, hp, fun q x' y' H4 hq F4 K4 => ?_⟩
      have hp4 := hp.keep K4 (hp.nf F3)
      have s24 : Same H' H4 := Keep.toSame s2 nf (Keep.trans K3 K4)
      walk_at "go"
      refine ⟨sH.trans (s24.trans (by assumption)), _, _, _, _, rfl⟩
    · rintro σ H1 ⟨sH, v1, v2, v3, v4, rfl⟩
      walk_at "sx"
      refine c_flow (by omega) (sH.seq hS) (fun f H2 nf s2 F2 => ?_)
      walk_at "sx"
      refine c_take F2 (by decide) (by decide) (fun m H3 l3 u3 F3 K3 => ?_)
      walk_at "sx"
      refine c_take F3 (by decide) (by decide) (fun d H4 l4 u4 F4 K4 => ?_)
      have s14 : Same H1 H4 := Keep.toSame s2 nf (Keep.trans K3 K4)
      walk_at "sx"
      refine ⟨_, rfl, _, rfl, by omega, by omega, fun D hD => lc_range (lo := 0) (n := m.toNat) (fun i H' => Keep f H4 H' ∧ Flow H' f ∧ ∃ es ps, H' D = some (.lst es) ∧ es.length = i ∧ ShL H' es ps) ?_ ?_ ?_⟩
      · refine ⟨Keep.same (Same.new hD), F4.same (Same.new hD), [], [], upd_same, rfl, .nil⟩
      · rintro i H' hi ⟨kf, hf, es, ps, hd, hlen, hps⟩
        have fD : f ≠ D := F4.ne hD
        refine s_name ⟨rfl, s_yes (i_t ?_)⟩
        walk_at "sx"
        refine ⟨f, rfl, hf, fun p x y H5 hp F5 K5 => ?_⟩
        have hd5 := K5 _ _ (Ne.symm fD) hd
        refine ⟨es, hd5, by show es.length < 16777216; omega, ?_⟩
        generalize hE : upd H5 D _ = H6
        have k6 := put_keep hE
        have h6 := new_at hE
        clear hE
        have kk := shr_keep k6 hd5
        refine ⟨fun b o n h => k6 b o (ne_of_none h hD) (K5 b o n (kf b o n h)), F5.keep k6 fD, _, ps ++ [(x, y)], h6, by rw [List.length_append, hlen]; rfl, ?_⟩
        exact ShL.app ⟨kk _ _ _ hp.at_, hp.sx, hp.sy, hp.po⟩ ((hps.up (shr_flow K5 hf)).up kk)
      · rintro H' ⟨kf, hf, es, ps, hd, hlen, hps⟩
        have s1' : Same H1 H' := Keep.toSame s14 nf kf
        walk_at "sx"
        refine ⟨D, es, ps, _, rfl, hd, hps, by omega, fun r t x y H5 s5 h5 ht => ?_⟩
        have hta := ht.at_
        walk_at "sx"
        rename_i z nz H6 s6 h6
        refine ⟨.list [.tuple [.int x, .int y]], .list [], .lst (SqL.of (s6 _ _ h5)) (.cons (.tup (SqT.of (s6 _ _ hta)) (.cons (.int x) (.cons (.int y) .nil))) .nil), .lst (SqL.of h6) .nil, ?_, ?_, ?_⟩
        · rfl
        · rfl
        · walk_at "sx"
          refine i_f ?_
          have sH6 := sH.trans (s1'.trans (s5.trans s6))
          have ht6 := ht.same s6
          have h56 := s6 _ _ h5
          walk_at "sx"
          refine c_flow (by omega) (sH6.seq hS) (fun f2 H7 nf2 s7 F7 => ?_)
          walk_at "sx"
          refine ⟨f2, rfl, F7, fun p x2 y2 H8 hp F8 K8 => ?_⟩
          have rf : r ≠ f2 := ne_of_none h56 nf2
          have h8 := K8 _ _ rf (s7 _ _ h56)
          have ht8 := (ht6.same s7).keep K8 ((ht6.same s7).nf F7)
          walk_at "go"
          exact k _
theorem ok_law (T : Txt P K mg A) : FnOk P w K mg base CX0 9 A.a_law A.d_law ["script"] (spLaw K) := by
  refine T.F_law.ok sc_law (fun vs H Q E h => ?_) (fun cdv A' outer s H vs Q E hr h => ?_)
  · obtain ⟨a, ns, rfl, _⟩ := h
    rfl
  · obtain ⟨a, ns, rfl, hS, hn, k⟩ := h
    have G__law_all := ok_all (w := w) (base := base) T
    refine ⟨_, (pss_one (ps_try_thru0 (pss_one (ps_ret (pe_call G__law_all (hr.mono (by decide)) rfl T.g__law_all T.F__law_all.kp (B__law_all T) .nil pass0 (pa_cons (pv 0) pa_nil)))))), ?_⟩
    walk_at "sx"
    exact ⟨a, ns, rfl, hS, hn, k⟩
end
abbrev sI_InvalidNumber : Stmt := inClass (top 3) 0
abbrev sI_Undefined : Stmt := inClass (top 4) 0
theorem all_mk {l : PySem.W.OpenLaw} {w : World} {K : PySem.W.Frag} {h : Heap} {mg : Str → Option Value} {fa : Addr} (X : K.In h) (G : h.Ns mainGlobals mg) (hfa : mg "law" = some (.ref fa))
    {f0 : Addr} {od0 an0 : Option Addr} {sl0 : Array (Option Value)} {oc0 kV0 dc0 pm0 cd0 ct0 : Value} {f1 : Addr} {od1 an1 : Option Addr} {sl1 : Array (Option Value)} {oc1 kV1 dc1 pm1 cd1 ct1 : Value} {f2 : Addr} {od2 an2 : Option Addr} {sl2 : Array (Option Value)} {oc2 kV2 dc2 pm2 cd2 ct2 : Value} {f3 : Addr} {od3 an3 : Option Addr} {sl3 : Array (Option Value)} {oc3 kV3 dc3 pm3 cd3 ct3 : Value} {f4 : Addr} {od4 an4 : Option Addr} {sl4 : Array (Option Value)} {oc4 kV4 dc4 pm4 cd4 ct4 : Value} {f5 : Addr} {od5 an5 : Option Addr} {sl5 : Array (Option Value)} {oc5 kV5 dc5 pm5 cd5 ct5 : Value} {f6 : Addr} {od6 an6 : Option Addr} {sl6 : Array (Option Value)} {oc6 kV6 dc6 pm6 cd6 ct6 : Value} {f7 : Addr} {od7 an7 : Option Addr} {sl7 : Array (Option Value)} {oc7 kV7 dc7 pm7 cd7 ct7 : Value} {f8 : Addr} {od8 an8 : Option Addr} {sl8 : Array (Option Value)} {oc8 kV8 dc8 pm8 cd8 ct8 : Value} {f9 : Addr} {od9 an9 : Option Addr} {sl9 : Array (Option Value)} {oc9 kV9 dc9 pm9 cd9 ct9 : Value} {f10 : Addr} {od10 an10 : Option Addr} {sl10 : Array (Option Value)} {oc10 kV10 dc10 pm10 cd10 ct10 : Value} {f11 : Addr} {od11 an11 : Option Addr} {sl11 : Array (Option Value)} {oc11 kV11 dc11 pm11 cd11 ct11 : Value} {f12 : Addr} {od12 an12 : Option Addr} {sl12 : Array (Option Value)} {oc12 kV12 dc12 pm12 cd12 ct12 : Value} {f13 : Addr} {od13 an13 : Option Addr} {sl13 : Array (Option Value)} {oc13 kV13 dc13 pm13 cd13 ct13 : Value} {f14 : Addr} {od14 an14 : Option Addr} {sl14 : Array (Option Value)} {oc14 kV14 dc14 pm14 cd14 ct14 : Value} {f15 : Addr} {od15 an15 : Option Addr} {sl15 : Array (Option Value)} {oc15 kV15 dc15 pm15 cd15 ct15 : Value} {f16 : Addr} {od16 an16 : Option Addr} {sl16 : Array (Option Value)} {oc16 kV16 dc16 pm16 cd16 ct16 : Value} {f17 : Addr} {od17 an17 : Option Addr} {sl17 : Array (Option Value)} {oc17 kV17 dc17 pm17 cd17 ct17 : Value} {f18 : Addr} {od18 an18 : Option Addr} {sl18 : Array (Option Value)} {oc18 kV18 dc18 pm18 cd18 ct18 : Value} {f19 : Addr} {od19 an19 : Option Addr} {sl19 : Array (Option Value)} {oc19 kV19 dc19 pm19 cd19 ct19 : Value} {f20 : Addr} {od20 an20 : Option Addr} {sl20 : Array (Option Value)} {oc20 kV20 dc20 pm20 cd20 ct20 : Value} {f21 : Addr} {od21 an21 : Option Addr} {sl21 : Array (Option Value)} {oc21 kV21 dc21 pm21 cd21 ct21 : Value} {C_InvalidNumber I_InvalidNumber : Addr} {nm_InvalidNumber q_InvalidNumber : Str} {N_InvalidNumber : Addr} {bs_InvalidNumber bm_InvalidNumber sub_InvalidNumber : List Value} {sn_InvalidNumber : List Str} {ab_InvalidNumber : Bool} {col_InvalidNumber : Option Bool} {dd_InvalidNumber : Option Addr} {k0_InvalidNumber k1_InvalidNumber k2_InvalidNumber k3_InvalidNumber k5_InvalidNumber : Option Value} {oi_InvalidNumber ci_InvalidNumber pi_InvalidNumber di_InvalidNumber : Value} {oo_InvalidNumber ai_InvalidNumber : Option Addr} {ca_InvalidNumber cc_InvalidNumber : Addr} {si2_InvalidNumber sj_InvalidNumber sk_InvalidNumber : Array (Option Value)} {cl1_InvalidNumber cl2_InvalidNumber : Value} {cd1_InvalidNumber cd2_InvalidNumber : Option Addr} {vs_InvalidNumber : Array Value} {tf_InvalidNumber : Tok} {file_InvalidNumber : Str} {C_Undefined I_Undefined : Addr} {nm_Undefined q_Undefined : Str} {N_Undefined : Addr} {bs_Undefined bm_Undefined sub_Undefined : List Value} {sn_Undefined : List Str} {ab_Undefined : Bool} {col_Undefined : Option Bool} {dd_Undefined : Option Addr} {k0_Undefined k1_Undefined k2_Undefined k3_Undefined k5_Undefined : Option Value} {oi_Undefined ci_Undefined pi_Undefined di_Undefined : Value} {oo_Undefined ai_Undefined : Option Addr} {ca_Undefined cc_Undefined : Addr} {si2_Undefined sj_Undefined sk_Undefined : Array (Option Value)} {cl1_Undefined cl2_Undefined : Value} {cd1_Undefined cd2_Undefined : Option Addr} {vs_Undefined : Array Value} {tf_Undefined : Tok} {file_Undefined : Str}
    (a0 : PySem.W.nsIn K mainGlobals "share_of" = some (some (.ref f0)))
    (l0 : K.lookup f0 = some ⟨oc0, od0, .func (PySem.W.fnOf "share_of" "share_of" (defArgs s_share_of) (defBody s_share_of) (defScope s_share_of) .none kV0 dc0 pm0 an0 cd0 ct0), sl0⟩)
    (c0 : PySem.W.codeIn K cd0 "share_of" = true)
    (k0 : PySem.W.keepIn K (.ref f0) = true)
    (a1 : PySem.W.nsIn K mainGlobals "plus" = some (some (.ref f1)))
    (l1 : K.lookup f1 = some ⟨oc1, od1, .func (PySem.W.fnOf "plus" "plus" (defArgs s_plus) (defBody s_plus) (defScope s_plus) .none kV1 dc1 pm1 an1 cd1 ct1), sl1⟩)
    (c1 : PySem.W.codeIn K cd1 "plus" = true)
    (k1 : PySem.W.keepIn K (.ref f1) = true)
    (a2 : PySem.W.nsIn K mainGlobals "less" = some (some (.ref f2)))
    (l2 : K.lookup f2 = some ⟨oc2, od2, .func (PySem.W.fnOf "less" "less" (defArgs s_less) (defBody s_less) (defScope s_less) .none kV2 dc2 pm2 an2 cd2 ct2), sl2⟩)
    (c2 : PySem.W.codeIn K cd2 "less" = true)
    (k2 : PySem.W.keepIn K (.ref f2) = true)
    (a3 : PySem.W.nsIn K mainGlobals "times" = some (some (.ref f3)))
    (l3 : K.lookup f3 = some ⟨oc3, od3, .func (PySem.W.fnOf "times" "times" (defArgs s_times) (defBody s_times) (defScope s_times) .none kV3 dc3 pm3 an3 cd3 ct3), sl3⟩)
    (c3 : PySem.W.codeIn K cd3 "times" = true)
    (k3 : PySem.W.keepIn K (.ref f3) = true)
    (a4 : PySem.W.nsIn K mainGlobals "over" = some (some (.ref f4)))
    (l4 : K.lookup f4 = some ⟨oc4, od4, .func (PySem.W.fnOf "over" "over" (defArgs s_over) (defBody s_over) (defScope s_over) .none kV4 dc4 pm4 an4 cd4 ct4), sl4⟩)
    (c4 : PySem.W.codeIn K cd4 "over" = true)
    (k4 : PySem.W.keepIn K (.ref f4) = true)
    (a5 : PySem.W.nsIn K mainGlobals "is_below" = some (some (.ref f5)))
    (l5 : K.lookup f5 = some ⟨oc5, od5, .func (PySem.W.fnOf "is_below" "is_below" (defArgs s_is_below) (defBody s_is_below) (defScope s_is_below) .none kV5 dc5 pm5 an5 cd5 ct5), sl5⟩)
    (c5 : PySem.W.codeIn K cd5 "is_below" = true)
    (k5 : PySem.W.keepIn K (.ref f5) = true)
    (a6 : PySem.W.nsIn K mainGlobals "total_of" = some (some (.ref f6)))
    (l6 : K.lookup f6 = some ⟨oc6, od6, .func (PySem.W.fnOf "total_of" "total_of" (defArgs s_total_of) (defBody s_total_of) (defScope s_total_of) .none kV6 dc6 pm6 an6 cd6 ct6), sl6⟩)
    (c6 : PySem.W.codeIn K cd6 "total_of" = true)
    (k6 : PySem.W.keepIn K (.ref f6) = true)
    (a7 : PySem.W.nsIn K mainGlobals "rounded_up" = some (some (.ref f7)))
    (l7 : K.lookup f7 = some ⟨oc7, od7, .func (PySem.W.fnOf "rounded_up" "rounded_up" (defArgs s_rounded_up) (defBody s_rounded_up) (defScope s_rounded_up) .none kV7 dc7 pm7 an7 cd7 ct7), sl7⟩)
    (c7 : PySem.W.codeIn K cd7 "rounded_up" = true)
    (k7 : PySem.W.keepIn K (.ref f7) = true)
    (a8 : PySem.W.nsIn K mainGlobals "_law_flow" = some (some (.ref f8)))
    (l8 : K.lookup f8 = some ⟨oc8, od8, .func (PySem.W.fnOf "_law_flow" "_law_flow" (defArgs s__law_flow) (defBody s__law_flow) (defScope s__law_flow) .none kV8 dc8 pm8 an8 cd8 ct8), sl8⟩)
    (c8 : PySem.W.codeIn K cd8 "_law_flow" = true)
    (k8 : PySem.W.keepIn K (.ref f8) = true)
    (a9 : PySem.W.nsIn K mainGlobals "_law_take" = some (some (.ref f9)))
    (l9 : K.lookup f9 = some ⟨oc9, od9, .func (PySem.W.fnOf "_law_take" "_law_take" (defArgs s__law_take) (defBody s__law_take) (defScope s__law_take) .none kV9 dc9 pm9 an9 cd9 ct9), sl9⟩)
    (c9 : PySem.W.codeIn K cd9 "_law_take" = true)
    (k9 : PySem.W.keepIn K (.ref f9) = true)
    (a10 : PySem.W.nsIn K mainGlobals "_law_number" = some (some (.ref f10)))
    (l10 : K.lookup f10 = some ⟨oc10, od10, .func (PySem.W.fnOf "_law_number" "_law_number" (defArgs s__law_number) (defBody s__law_number) (defScope s__law_number) .none kV10 dc10 pm10 an10 cd10 ct10), sl10⟩)
    (c10 : PySem.W.codeIn K cd10 "_law_number" = true)
    (k10 : PySem.W.keepIn K (.ref f10) = true)
    (a11 : PySem.W.nsIn K mainGlobals "_law_reduced" = some (some (.ref f11)))
    (l11 : K.lookup f11 = some ⟨oc11, od11, .func (PySem.W.fnOf "_law_reduced" "_law_reduced" (defArgs s__law_reduced) (defBody s__law_reduced) (defScope s__law_reduced) .none kV11 dc11 pm11 an11 cd11 ct11), sl11⟩)
    (c11 : PySem.W.codeIn K cd11 "_law_reduced" = true)
    (k11 : PySem.W.keepIn K (.ref f11) = true)
    (a12 : PySem.W.nsIn K mainGlobals "_law_share" = some (some (.ref f12)))
    (l12 : K.lookup f12 = some ⟨oc12, od12, .func (PySem.W.fnOf "_law_share" "_law_share" (defArgs s__law_share) (defBody s__law_share) (defScope s__law_share) .none kV12 dc12 pm12 an12 cd12 ct12), sl12⟩)
    (c12 : PySem.W.codeIn K cd12 "_law_share" = true)
    (k12 : PySem.W.keepIn K (.ref f12) = true)
    (a13 : PySem.W.nsIn K mainGlobals "_law_beside" = some (some (.ref f13)))
    (l13 : K.lookup f13 = some ⟨oc13, od13, .func (PySem.W.fnOf "_law_beside" "_law_beside" (defArgs s__law_beside) (defBody s__law_beside) (defScope s__law_beside) .none kV13 dc13 pm13 an13 cd13 ct13), sl13⟩)
    (c13 : PySem.W.codeIn K cd13 "_law_beside" = true)
    (k13 : PySem.W.keepIn K (.ref f13) = true)
    (a14 : PySem.W.nsIn K mainGlobals "_law_same" = some (some (.ref f14)))
    (l14 : K.lookup f14 = some ⟨oc14, od14, .func (PySem.W.fnOf "_law_same" "_law_same" (defArgs s__law_same) (defBody s__law_same) (defScope s__law_same) .none kV14 dc14 pm14 an14 cd14 ct14), sl14⟩)
    (c14 : PySem.W.codeIn K cd14 "_law_same" = true)
    (k14 : PySem.W.keepIn K (.ref f14) = true)
    (a15 : PySem.W.nsIn K mainGlobals "_law_truth" = some (some (.ref f15)))
    (l15 : K.lookup f15 = some ⟨oc15, od15, .func (PySem.W.fnOf "_law_truth" "_law_truth" (defArgs s__law_truth) (defBody s__law_truth) (defScope s__law_truth) .none kV15 dc15 pm15 an15 cd15 ct15), sl15⟩)
    (c15 : PySem.W.codeIn K cd15 "_law_truth" = true)
    (k15 : PySem.W.keepIn K (.ref f15) = true)
    (a16 : PySem.W.nsIn K mainGlobals "_law_rounds" = some (some (.ref f16)))
    (l16 : K.lookup f16 = some ⟨oc16, od16, .func (PySem.W.fnOf "_law_rounds" "_law_rounds" (defArgs s__law_rounds) (defBody s__law_rounds) (defScope s__law_rounds) .none kV16 dc16 pm16 an16 cd16 ct16), sl16⟩)
    (c16 : PySem.W.codeIn K cd16 "_law_rounds" = true)
    (k16 : PySem.W.keepIn K (.ref f16) = true)
    (a17 : PySem.W.nsIn K mainGlobals "_law_over" = some (some (.ref f17)))
    (l17 : K.lookup f17 = some ⟨oc17, od17, .func (PySem.W.fnOf "_law_over" "_law_over" (defArgs s__law_over) (defBody s__law_over) (defScope s__law_over) .none kV17 dc17 pm17 an17 cd17 ct17), sl17⟩)
    (c17 : PySem.W.codeIn K cd17 "_law_over" = true)
    (k17 : PySem.W.keepIn K (.ref f17) = true)
    (a18 : PySem.W.nsIn K mainGlobals "_law_pair" = some (some (.ref f18)))
    (l18 : K.lookup f18 = some ⟨oc18, od18, .func (PySem.W.fnOf "_law_pair" "_law_pair" (defArgs s__law_pair) (defBody s__law_pair) (defScope s__law_pair) .none kV18 dc18 pm18 an18 cd18 ct18), sl18⟩)
    (c18 : PySem.W.codeIn K cd18 "_law_pair" = true)
    (k18 : PySem.W.keepIn K (.ref f18) = true)
    (a19 : PySem.W.nsIn K mainGlobals "_law_total" = some (some (.ref f19)))
    (l19 : K.lookup f19 = some ⟨oc19, od19, .func (PySem.W.fnOf "_law_total" "_law_total" (defArgs s__law_total) (defBody s__law_total) (defScope s__law_total) .none kV19 dc19 pm19 an19 cd19 ct19), sl19⟩)
    (c19 : PySem.W.codeIn K cd19 "_law_total" = true)
    (k19 : PySem.W.keepIn K (.ref f19) = true)
    (a20 : PySem.W.nsIn K mainGlobals "_law_all" = some (some (.ref f20)))
    (l20 : K.lookup f20 = some ⟨oc20, od20, .func (PySem.W.fnOf "_law_all" "_law_all" (defArgs s__law_all) (defBody s__law_all) (defScope s__law_all) .none kV20 dc20 pm20 an20 cd20 ct20), sl20⟩)
    (c20 : PySem.W.codeIn K cd20 "_law_all" = true)
    (k20 : PySem.W.keepIn K (.ref f20) = true)
    (a21 : PySem.W.nsIn K mainGlobals "law" = some (some (.ref f21)))
    (l21 : K.lookup f21 = some ⟨oc21, od21, .func (PySem.W.fnOf "law" "law" (defArgs s_law) (defBody s_law) (defScope s_law) .none kV21 dc21 pm21 an21 cd21 ct21), sl21⟩)
    (c21 : PySem.W.codeIn K cd21 "law" = true)
    (k21 : PySem.W.keepIn K (.ref f21) = true)
    (gC_InvalidNumber : PySem.W.nsIn K mainGlobals "InvalidNumber" = some (some (.ref C_InvalidNumber)))
    (iC_InvalidNumber : PySem.W.findIn K (.ref C_InvalidNumber) "__init__" = some (some (.ref I_InvalidNumber)))
    (cl_InvalidNumber : K.lookup C_InvalidNumber = some (excClassObj nm_InvalidNumber q_InvalidNumber C_InvalidNumber N_InvalidNumber bs_InvalidNumber bm_InvalidNumber true sn_InvalidNumber sub_InvalidNumber ab_InvalidNumber col_InvalidNumber dd_InvalidNumber k0_InvalidNumber k1_InvalidNumber k2_InvalidNumber k3_InvalidNumber k5_InvalidNumber "ValueError.__new__"))
    (sa_InvalidNumber : PySem.W.findIn K (.ref C_InvalidNumber) "__setattr__" = some (some (.builtin "object.__setattr__")))
    (no_InvalidNumber : PySem.W.findIn K (.ref C_InvalidNumber) "value" = some none)
    (tI_InvalidNumber : PySem.W.typeIn K (.ref I_InvalidNumber) = some (.type "function"))
    (kC_InvalidNumber : PySem.W.keepIn K (.ref C_InvalidNumber) = true)
    (ex_InvalidNumber : PySem.W.subIn K (.ref C_InvalidNumber) (.type "BaseException") = some true)
    (ve_InvalidNumber : PySem.W.subIn K (.ref C_InvalidNumber) (.type "ValueError") = some true)
    (ty_InvalidNumber : PySem.W.typeIn K (.ref C_InvalidNumber) = some (.type "type"))
    (ga_InvalidNumber : PySem.W.findIn K (.ref C_InvalidNumber) "__getattribute__" = some (some (.builtin "BaseException.__getattribute__")))
    (gg_InvalidNumber : PySem.W.findIn K (.ref C_InvalidNumber) "__getattr__" = some none)
    (hd_InvalidNumber : PySem.W.hasDictIn K C_InvalidNumber = true)
    (mr_InvalidNumber : PySem.W.mroIn K C_InvalidNumber (.ref C_InvalidNumber) = some true)
    (mo_InvalidNumber : PySem.W.mroIn K C_InvalidNumber (.type "object") = some true)
    (co_InvalidNumber : PySem.W.findIn K (.ref C_InvalidNumber) "__class__" = some (some (.builtin "object.__class__")))
    (nint_InvalidNumber : PySem.W.subIn K (.ref C_InvalidNumber) (.type "int") = some false)
    (nbool_InvalidNumber : PySem.W.subIn K (.ref C_InvalidNumber) (.type "bool") = some false)
    (ntuple_InvalidNumber : PySem.W.subIn K (.ref C_InvalidNumber) (.type "tuple") = some false)
    (nstr_InvalidNumber : PySem.W.subIn K (.ref C_InvalidNumber) (.type "str") = some false)
    (nlist_InvalidNumber : PySem.W.subIn K (.ref C_InvalidNumber) (.type "list") = some false)
    (si_InvalidNumber : PySem.W.ks_superIn K C_InvalidNumber C_InvalidNumber "__init__" = some (some (.builtin "ValueError.__init__")))
    (li_InvalidNumber : K.lookup I_InvalidNumber = some ⟨oi_InvalidNumber, oo_InvalidNumber, .func (PySem.W.ksFn "__init__" "InvalidNumber.__init__" (defArgs sI_InvalidNumber) (defBody sI_InvalidNumber) (defScope sI_InvalidNumber) .none .none di_InvalidNumber pi_InvalidNumber ai_InvalidNumber (.ref ca_InvalidNumber) ci_InvalidNumber cc_InvalidNumber), si2_InvalidNumber⟩)
    (ci2_InvalidNumber : PySem.W.codeIn K (.ref ca_InvalidNumber) "InvalidNumber.__init__" = true)
    (lc_InvalidNumber : K.lookup ca_InvalidNumber = some ⟨cl1_InvalidNumber, cd1_InvalidNumber, .fields vs_InvalidNumber, sj_InvalidNumber⟩)
    (fi_InvalidNumber : vs_InvalidNumber[2]? = some (.str file_InvalidNumber tf_InvalidNumber))
    (ff_InvalidNumber : ((l.prog.main.file : Str) == file_InvalidNumber) = true)
    (lx_InvalidNumber : K.lookup cc_InvalidNumber = some ⟨cl2_InvalidNumber, cd2_InvalidNumber, .cell (some (.ref C_InvalidNumber)), sk_InvalidNumber⟩)
    (gC_Undefined : PySem.W.nsIn K mainGlobals "Undefined" = some (some (.ref C_Undefined)))
    (iC_Undefined : PySem.W.findIn K (.ref C_Undefined) "__init__" = some (some (.ref I_Undefined)))
    (cl_Undefined : K.lookup C_Undefined = some (excClassObj nm_Undefined q_Undefined C_Undefined N_Undefined bs_Undefined bm_Undefined true sn_Undefined sub_Undefined ab_Undefined col_Undefined dd_Undefined k0_Undefined k1_Undefined k2_Undefined k3_Undefined k5_Undefined "ValueError.__new__"))
    (sa_Undefined : PySem.W.findIn K (.ref C_Undefined) "__setattr__" = some (some (.builtin "object.__setattr__")))
    (no_Undefined : PySem.W.findIn K (.ref C_Undefined) "what" = some none)
    (tI_Undefined : PySem.W.typeIn K (.ref I_Undefined) = some (.type "function"))
    (kC_Undefined : PySem.W.keepIn K (.ref C_Undefined) = true)
    (ex_Undefined : PySem.W.subIn K (.ref C_Undefined) (.type "BaseException") = some true)
    (ve_Undefined : PySem.W.subIn K (.ref C_Undefined) (.type "ValueError") = some true)
    (ty_Undefined : PySem.W.typeIn K (.ref C_Undefined) = some (.type "type"))
    (ga_Undefined : PySem.W.findIn K (.ref C_Undefined) "__getattribute__" = some (some (.builtin "BaseException.__getattribute__")))
    (gg_Undefined : PySem.W.findIn K (.ref C_Undefined) "__getattr__" = some none)
    (hd_Undefined : PySem.W.hasDictIn K C_Undefined = true)
    (mr_Undefined : PySem.W.mroIn K C_Undefined (.ref C_Undefined) = some true)
    (mo_Undefined : PySem.W.mroIn K C_Undefined (.type "object") = some true)
    (co_Undefined : PySem.W.findIn K (.ref C_Undefined) "__class__" = some (some (.builtin "object.__class__")))
    (nint_Undefined : PySem.W.subIn K (.ref C_Undefined) (.type "int") = some false)
    (nbool_Undefined : PySem.W.subIn K (.ref C_Undefined) (.type "bool") = some false)
    (ntuple_Undefined : PySem.W.subIn K (.ref C_Undefined) (.type "tuple") = some false)
    (nstr_Undefined : PySem.W.subIn K (.ref C_Undefined) (.type "str") = some false)
    (nlist_Undefined : PySem.W.subIn K (.ref C_Undefined) (.type "list") = some false)
    (si_Undefined : PySem.W.ks_superIn K C_Undefined C_Undefined "__init__" = some (some (.builtin "ValueError.__init__")))
    (li_Undefined : K.lookup I_Undefined = some ⟨oi_Undefined, oo_Undefined, .func (PySem.W.ksFn "__init__" "Undefined.__init__" (defArgs sI_Undefined) (defBody sI_Undefined) (defScope sI_Undefined) .none .none di_Undefined pi_Undefined ai_Undefined (.ref ca_Undefined) ci_Undefined cc_Undefined), si2_Undefined⟩)
    (ci2_Undefined : PySem.W.codeIn K (.ref ca_Undefined) "Undefined.__init__" = true)
    (lc_Undefined : K.lookup ca_Undefined = some ⟨cl1_Undefined, cd1_Undefined, .fields vs_Undefined, sj_Undefined⟩)
    (fi_Undefined : vs_Undefined[2]? = some (.str file_Undefined tf_Undefined))
    (ff_Undefined : ((l.prog.main.file : Str) == file_Undefined) = true)
    (lx_Undefined : K.lookup cc_Undefined = some ⟨cl2_Undefined, cd2_Undefined, .cell (some (.ref C_Undefined)), sk_Undefined⟩)
    (zs : PySem.W.nsIn K mainGlobals "super" = some none)
    (op : PySem.W.nsIn K cStatics "thirdparty.any" = some none)
    (sp1 : PySem.W.specialIn K (.builtin "object.__class__") "__get__" = some (some (.builtin "getset_descriptor.__get__")))
    (sp2 : PySem.W.takesIn K (.builtin "object.__class__") = some true)
    (ht : (l.prog.main.scope.names.lookup ("super" : Str)).isSome = false)
    (z_abs : PySem.W.nsIn K mainGlobals "abs" = some none)
    (z_bool : PySem.W.nsIn K mainGlobals "bool" = some none)
    (z_int : PySem.W.nsIn K mainGlobals "int" = some none)
    (z_isinstance : PySem.W.nsIn K mainGlobals "isinstance" = some none)
    (z_len : PySem.W.nsIn K mainGlobals "len" = some none)
    (z_list : PySem.W.nsIn K mainGlobals "list" = some none)
    (z_max : PySem.W.nsIn K mainGlobals "max" = some none)
    (z_range : PySem.W.nsIn K mainGlobals "range" = some none)
    (z_str : PySem.W.nsIn K mainGlobals "str" = some none)
    (z_tuple : PySem.W.nsIn K mainGlobals "tuple" = some none)
    (m_gcd : PySem.W.nsIn K mainGlobals "gcd" = some (some (.builtin "math.gcd")))
    (rv_InvalidNumber : PySem.HandSPX.refsVE bm_InvalidNumber = true) (sb_InvalidNumber : PySem.W.subIn K (.ref C_InvalidNumber) (.ref C_InvalidNumber) = some true)
    (rv_Undefined : PySem.HandSPX.refsVE bm_Undefined = true) (sb_Undefined : PySem.W.subIn K (.ref C_Undefined) (.ref C_Undefined) = some true)
    : ∃ fd : FuncData, (∀ (s : Shared) (v : Value), BindsTo s fd ⟨[v], []⟩ [("script", v)]) ∧ ∀ base : Heap, K.In base → base.Ns mainGlobals mg → FnOk l.prog w K mg base CX0 9 fa fd ["script"] (spLaw K) := by
  have e := hfa.symm.trans (PySem.W.mg_of X G a21)
  cases e
  have gs : mg "super" = none := PySem.W.mg_none_of X G zs
  have xt_InvalidNumber : PySem.SupX_value.XTxt l.prog K mg "InvalidNumber" C_InvalidNumber I_InvalidNumber := {
    gC := PySem.W.mg_of X G gC_InvalidNumber, nm := by decide +kernel, sup := gs, cls := ⟨_, _, _, _, _, _, _, _, _, _, _, _, _, _, _, cl_InvalidNumber, by assumption⟩, sa := sa_InvalidNumber, noN := no_InvalidNumber, iC := iC_InvalidNumber, tC := tI_InvalidNumber, kC := kC_InvalidNumber, exC := ex_InvalidNumber, veC := ve_InvalidNumber, tyC := ty_InvalidNumber
    te := PySem.W.exm_ref ex_InvalidNumber hd_InvalidNumber ty_InvalidNumber sb_InvalidNumber, xf := ⟨ga_InvalidNumber, gg_InvalidNumber, ex_InvalidNumber, hd_InvalidNumber⟩, sIn := si_InvalidNumber, opq := op, mro := mr_InvalidNumber, htop := ht
    fn := ⟨_, _, _, _, _, _, _, _, _, _, _, _, _, _, _, _, _, _, _, _, _, _, _, _, _, _, _, _, _, _, _, _, _, li_InvalidNumber, ci2_InvalidNumber, by decide +kernel, lc_InvalidNumber, fi_InvalidNumber, ff_InvalidNumber, lx_InvalidNumber⟩ }
  have xt_Undefined : PySem.SupX_what.XTxt l.prog K mg "Undefined" C_Undefined I_Undefined := {
    gC := PySem.W.mg_of X G gC_Undefined, nm := by decide +kernel, sup := gs, cls := ⟨_, _, _, _, _, _, _, _, _, _, _, _, _, _, _, cl_Undefined, by assumption⟩, sa := sa_Undefined, noN := no_Undefined, iC := iC_Undefined, tC := tI_Undefined, kC := kC_Undefined, exC := ex_Undefined, veC := ve_Undefined, tyC := ty_Undefined
    te := PySem.W.exm_ref ex_Undefined hd_Undefined ty_Undefined sb_Undefined, xf := ⟨ga_Undefined, gg_Undefined, ex_Undefined, hd_Undefined⟩, sIn := si_Undefined, opq := op, mro := mr_Undefined, htop := ht
    fn := ⟨_, _, _, _, _, _, _, _, _, _, _, _, _, _, _, _, _, _, _, _, _, _, _, _, _, _, _, _, _, _, _, _, _, li_Undefined, ci2_Undefined, by decide +kernel, lc_Undefined, fi_Undefined, ff_Undefined, lx_Undefined⟩ }
  let A : Ad := ⟨f0, (PySem.W.fnOf "share_of" "share_of" (defArgs s_share_of) (defBody s_share_of) (defScope s_share_of) .none kV0 dc0 pm0 an0 cd0 ct0), f1, (PySem.W.fnOf "plus" "plus" (defArgs s_plus) (defBody s_plus) (defScope s_plus) .none kV1 dc1 pm1 an1 cd1 ct1), f2, (PySem.W.fnOf "less" "less" (defArgs s_less) (defBody s_less) (defScope s_less) .none kV2 dc2 pm2 an2 cd2 ct2), f3, (PySem.W.fnOf "times" "times" (defArgs s_times) (defBody s_times) (defScope s_times) .none kV3 dc3 pm3 an3 cd3 ct3), f4, (PySem.W.fnOf "over" "over" (defArgs s_over) (defBody s_over) (defScope s_over) .none kV4 dc4 pm4 an4 cd4 ct4), f5, (PySem.W.fnOf "is_below" "is_below" (defArgs s_is_below) (defBody s_is_below) (defScope s_is_below) .none kV5 dc5 pm5 an5 cd5 ct5), f6, (PySem.W.fnOf "total_of" "total_of" (defArgs s_total_of) (defBody s_total_of) (defScope s_total_of) .none kV6 dc6 pm6 an6 cd6 ct6), f7, (PySem.W.fnOf "rounded_up" "rounded_up" (defArgs s_rounded_up) (defBody s_rounded_up) (defScope s_rounded_up) .none kV7 dc7 pm7 an7 cd7 ct7), f8, (PySem.W.fnOf "_law_flow" "_law_flow" (defArgs s__law_flow) (defBody s__law_flow) (defScope s__law_flow) .none kV8 dc8 pm8 an8 cd8 ct8), f9, (PySem.W.fnOf "_law_take" "_law_take" (defArgs s__law_take) (defBody s__law_take) (defScope s__law_take) .none kV9 dc9 pm9 an9 cd9 ct9), f10, (PySem.W.fnOf "_law_number" "_law_number" (defArgs s__law_number) (defBody s__law_number) (defScope s__law_number) .none kV10 dc10 pm10 an10 cd10 ct10), f11, (PySem.W.fnOf "_law_reduced" "_law_reduced" (defArgs s__law_reduced) (defBody s__law_reduced) (defScope s__law_reduced) .none kV11 dc11 pm11 an11 cd11 ct11), f12, (PySem.W.fnOf "_law_share" "_law_share" (defArgs s__law_share) (defBody s__law_share) (defScope s__law_share) .none kV12 dc12 pm12 an12 cd12 ct12), f13, (PySem.W.fnOf "_law_beside" "_law_beside" (defArgs s__law_beside) (defBody s__law_beside) (defScope s__law_beside) .none kV13 dc13 pm13 an13 cd13 ct13), f14, (PySem.W.fnOf "_law_same" "_law_same" (defArgs s__law_same) (defBody s__law_same) (defScope s__law_same) .none kV14 dc14 pm14 an14 cd14 ct14), f15, (PySem.W.fnOf "_law_truth" "_law_truth" (defArgs s__law_truth) (defBody s__law_truth) (defScope s__law_truth) .none kV15 dc15 pm15 an15 cd15 ct15), f16, (PySem.W.fnOf "_law_rounds" "_law_rounds" (defArgs s__law_rounds) (defBody s__law_rounds) (defScope s__law_rounds) .none kV16 dc16 pm16 an16 cd16 ct16), f17, (PySem.W.fnOf "_law_over" "_law_over" (defArgs s__law_over) (defBody s__law_over) (defScope s__law_over) .none kV17 dc17 pm17 an17 cd17 ct17), f18, (PySem.W.fnOf "_law_pair" "_law_pair" (defArgs s__law_pair) (defBody s__law_pair) (defScope s__law_pair) .none kV18 dc18 pm18 an18 cd18 ct18), f19, (PySem.W.fnOf "_law_total" "_law_total" (defArgs s__law_total) (defBody s__law_total) (defScope s__law_total) .none kV19 dc19 pm19 an19 cd19 ct19), f20, (PySem.W.fnOf "_law_all" "_law_all" (defArgs s__law_all) (defBody s__law_all) (defScope s__law_all) .none kV20 dc20 pm20 an20 cd20 ct20), fa, (PySem.W.fnOf "law" "law" (defArgs s_law) (defBody s_law) (defScope s_law) .none kV21 dc21 pm21 an21 cd21 ct21), C_InvalidNumber, I_InvalidNumber, C_Undefined, I_Undefined⟩
  have T : Txt l.prog K mg A := ⟨PySem.W.mg_of X G a0, fun_mk (st := s_share_of) l0 c0 k0, PySem.W.mg_of X G a1, fun_mk (st := s_plus) l1 c1 k1, PySem.W.mg_of X G a2, fun_mk (st := s_less) l2 c2 k2, PySem.W.mg_of X G a3, fun_mk (st := s_times) l3 c3 k3, PySem.W.mg_of X G a4, fun_mk (st := s_over) l4 c4 k4, PySem.W.mg_of X G a5, fun_mk (st := s_is_below) l5 c5 k5, PySem.W.mg_of X G a6, fun_mk (st := s_total_of) l6 c6 k6, PySem.W.mg_of X G a7, fun_mk (st := s_rounded_up) l7 c7 k7, PySem.W.mg_of X G a8, fun_mk (st := s__law_flow) l8 c8 k8, PySem.W.mg_of X G a9, fun_mk (st := s__law_take) l9 c9 k9, PySem.W.mg_of X G a10, fun_mk (st := s__law_number) l10 c10 k10, PySem.W.mg_of X G a11, fun_mk (st := s__law_reduced) l11 c11 k11, PySem.W.mg_of X G a12, fun_mk (st := s__law_share) l12 c12 k12, PySem.W.mg_of X G a13, fun_mk (st := s__law_beside) l13 c13 k13, PySem.W.mg_of X G a14, fun_mk (st := s__law_same) l14 c14 k14, PySem.W.mg_of X G a15, fun_mk (st := s__law_truth) l15 c15 k15, PySem.W.mg_of X G a16, fun_mk (st := s__law_rounds) l16 c16 k16, PySem.W.mg_of X G a17, fun_mk (st := s__law_over) l17 c17 k17, PySem.W.mg_of X G a18, fun_mk (st := s__law_pair) l18 c18 k18, PySem.W.mg_of X G a19, fun_mk (st := s__law_total) l19 c19 k19, PySem.W.mg_of X G a20, fun_mk (st := s__law_all) l20 c20 k20, PySem.W.mg_of X G a21, fun_mk (st := s_law) l21 c21 k21, xt_InvalidNumber, ⟨⟨ga_InvalidNumber, gg_InvalidNumber, ex_InvalidNumber, hd_InvalidNumber, co_InvalidNumber, sp1, sp2, mo_InvalidNumber⟩, nint_InvalidNumber, nbool_InvalidNumber, ntuple_InvalidNumber, nstr_InvalidNumber, nlist_InvalidNumber⟩, xt_Undefined, ⟨⟨ga_Undefined, gg_Undefined, ex_Undefined, hd_Undefined, co_Undefined, sp1, sp2, mo_Undefined⟩, nint_Undefined, nbool_Undefined, ntuple_Undefined, nstr_Undefined, nlist_Undefined⟩, PySem.W.mg_none_of X G z_abs, PySem.W.mg_none_of X G z_bool, PySem.W.mg_none_of X G z_int, PySem.W.mg_none_of X G z_isinstance, PySem.W.mg_none_of X G z_len, PySem.W.mg_none_of X G z_list, PySem.W.mg_none_of X G z_max, PySem.W.mg_none_of X G z_range, PySem.W.mg_none_of X G z_str, PySem.W.mg_none_of X G z_tuple, PySem.W.mg_of X G m_gcd⟩
  exact ⟨PySem.W.fnOf "law" "law" (defArgs s_law) (defBody s_law) (defScope s_law) .none kV21 dc21 pm21 an21 cd21 ct21, fun s v => .of_eq rfl, fun base _ _ => ok_law T⟩
theorem walk {l : PySem.W.OpenLaw} {q : Program} {loose : List Str} {XP : (Str → Option Value) → Heap → Prop} {YP : World → Heap → Prop} {d : DefRec} {K : Params → PySem.W.Frag} (hn : l.most = some 63) (hdf : d.params.defaults = [])
    (hY : ∀ (w : World) (h : Heap), YP w h → (K w.params).In h)
    (F : ∀ (w : World) (mg : Str → Option Value) (fa : Addr) (h : Heap), (K w.params).In h → h.Ns mainGlobals mg → mg d.name = some (.ref fa) →
      ∃ fd : FuncData, (∀ (s : Shared) (u : Value), BindsTo s fd ⟨[u], []⟩ [("script", u)]) ∧ ∀ base : Heap, (K w.params).In base → base.Ns mainGlobals mg → FnOk l.prog w (K w.params) mg base CX0 9 fa fd ["script"] (spLaw (K w.params))) :
    PySem.W.WalkO q loose XP YP l.row.toRowW d [] (fun f vs => PySem.call f vs) :=
  L2.walk_of (n := 63) (k := 9) (x := "script") (CX := fun _ => CX0) (sp := fun w => spLaw (K w.params)) hn (by decide) hdf ⟨rfl, by decide, by decide⟩ hY F (fun _ _ a ns hl _ hS => ⟨a, ns, rfl, hS, hl, fun _ => rfl⟩) fun _ _ _ _ _ z => z
end K03
open PySem PySem.W PyProof.Rows
set_option maxRecDepth 100000 in
set_option maxHeartbeats 0 in
theorem PySem.Challenge.cw_nextguess_k03_sums_of_shares_holds : PySem.Challenge.rw_nextguess_k03_sums_of_shares.Holds := by
  w_on; o_law; k_head; (case hw => w_witness2)
  k_fill
  refine K03.walk (l := PySem.Challenge.rw_nextguess_k03_sums_of_shares) rfl rfl (fun w h Y => PySem.W.kIn_of Y) ?F
  case F =>
    intro w mg fa h KX G hmg
    refine' K03.all_mk KX G hmg ?a0 ?l0 ?c0 ?k0 ?a1 ?l1 ?c1 ?k1 ?a2 ?l2 ?c2 ?k2 ?a3 ?l3 ?c3 ?k3 ?a4 ?l4 ?c4 ?k4 ?a5 ?l5 ?c5 ?k5 ?a6 ?l6 ?c6 ?k6 ?a7 ?l7 ?c7 ?k7 ?a8 ?l8 ?c8 ?k8 ?a9 ?l9 ?c9 ?k9 ?a10 ?l10 ?c10 ?k10 ?a11 ?l11 ?c11 ?k11 ?a12 ?l12 ?c12 ?k12 ?a13 ?l13 ?c13 ?k13 ?a14 ?l14 ?c14 ?k14 ?a15 ?l15 ?c15 ?k15 ?a16 ?l16 ?c16 ?k16 ?a17 ?l17 ?c17 ?k17 ?a18 ?l18 ?c18 ?k18 ?a19 ?l19 ?c19 ?k19 ?a20 ?l20 ?c20 ?k20 ?a21 ?l21 ?c21 ?k21 ?gC_InvalidNumber ?iC_InvalidNumber ?cl_InvalidNumber ?sa_InvalidNumber ?no_InvalidNumber ?tI_InvalidNumber ?kC_InvalidNumber ?ex_InvalidNumber ?ve_InvalidNumber ?ty_InvalidNumber ?ga_InvalidNumber ?gg_InvalidNumber ?hd_InvalidNumber ?mr_InvalidNumber ?mo_InvalidNumber ?co_InvalidNumber ?nint_InvalidNumber ?nbool_InvalidNumber ?ntuple_InvalidNumber ?nstr_InvalidNumber ?nlist_InvalidNumber ?si_InvalidNumber ?li_InvalidNumber ?ci2_InvalidNumber ?lc_InvalidNumber ?fi_InvalidNumber ?ff_InvalidNumber ?lx_InvalidNumber ?gC_Undefined ?iC_Undefined ?cl_Undefined ?sa_Undefined ?no_Undefined ?tI_Undefined ?kC_Undefined ?ex_Undefined ?ve_Undefined ?ty_Undefined ?ga_Undefined ?gg_Undefined ?hd_Undefined ?mr_Undefined ?mo_Undefined ?co_Undefined ?nint_Undefined ?nbool_Undefined ?ntuple_Undefined ?nstr_Undefined ?nlist_Undefined ?si_Undefined ?li_Undefined ?ci2_Undefined ?lc_Undefined ?fi_Undefined ?ff_Undefined ?lx_Undefined ?zs ?op ?sp1 ?sp2 ?ht ?z_abs ?z_bool ?z_int ?z_isinstance ?z_len ?z_list ?z_max ?z_range ?z_str ?z_tuple ?m_gcd ?rv_InvalidNumber ?sb_InvalidNumber ?rv_Undefined ?sb_Undefined
    (case a0 => k_is)
    (case l0 => k_is)
    (case c0 => k_is)
    (case k0 => k_is)
    (case a1 => k_is)
    (case l1 => k_is)
    (case c1 => k_is)
    (case k1 => k_is)
    (case a2 => k_is)
    (case l2 => k_is)
    (case c2 => k_is)
    (case k2 => k_is)
    (case a3 => k_is)
    (case l3 => k_is)
    (case c3 => k_is)
    (case k3 => k_is)
    (case a4 => k_is)
    (case l4 => k_is)
    (case c4 => k_is)
    (case k4 => k_is)
    (case a5 => k_is)
    (case l5 => k_is)
    (case c5 => k_is)
    (case k5 => k_is)
    (case a6 => k_is)
    (case l6 => k_is)
    (case c6 => k_is)
    (case k6 => k_is)
    (case a7 => k_is)
    (case l7 => k_is)
    (case c7 => k_is)
    (case k7 => k_is)
    (case a8 => k_is)
    (case l8 => k_is)
    (case c8 => k_is)
    (case k8 => k_is)
    (case a9 => k_is)
    (case l9 => k_is)
    (case c9 => k_is)
    (case k9 => k_is)
    (case a10 => k_is)
    (case l10 => k_is)
    (case c10 => k_is)
    (case k10 => k_is)
    (case a11 => k_is)
    (case l11 => k_is)
    (case c11 => k_is)
    (case k11 => k_is)
    (case a12 => k_is)
    (case l12 => k_is)
    (case c12 => k_is)
    (case k12 => k_is)
    (case a13 => k_is)
    (case l13 => k_is)
    (case c13 => k_is)
    (case k13 => k_is)
    (case a14 => k_is)
    (case l14 => k_is)
    (case c14 => k_is)
    (case k14 => k_is)
    (case a15 => k_is)
    (case l15 => k_is)
    (case c15 => k_is)
    (case k15 => k_is)
    (case a16 => k_is)
    (case l16 => k_is)
    (case c16 => k_is)
    (case k16 => k_is)
    (case a17 => k_is)
    (case l17 => k_is)
    (case c17 => k_is)
    (case k17 => k_is)
    (case a18 => k_is)
    (case l18 => k_is)
    (case c18 => k_is)
    (case k18 => k_is)
    (case a19 => k_is)
    (case l19 => k_is)
    (case c19 => k_is)
    (case k19 => k_is)
    (case a20 => k_is)
    (case l20 => k_is)
    (case c20 => k_is)
    (case k20 => k_is)
    (case a21 => k_is)
    (case l21 => k_is)
    (case c21 => k_is)
    (case k21 => k_is)
    (case gC_InvalidNumber => k_is)
    (case iC_InvalidNumber => k_is)
    (case cl_InvalidNumber => k_is)
    (case sa_InvalidNumber => k_is)
    (case no_InvalidNumber => k_is)
    (case tI_InvalidNumber => k_is)
    (case kC_InvalidNumber => k_is)
    (case ex_InvalidNumber => k_is)
    (case ve_InvalidNumber => k_is)
    (case ty_InvalidNumber => k_is)
    (case ga_InvalidNumber => k_is)
    (case gg_InvalidNumber => k_is)
    (case hd_InvalidNumber => k_is)
    (case mr_InvalidNumber => k_is)
    (case mo_InvalidNumber => k_is)
    (case co_InvalidNumber => k_is)
    (case nint_InvalidNumber => k_is)
    (case nbool_InvalidNumber => k_is)
    (case ntuple_InvalidNumber => k_is)
    (case nstr_InvalidNumber => k_is)
    (case nlist_InvalidNumber => k_is)
    (case si_InvalidNumber => (first | ks_is | k_is))
    (case li_InvalidNumber => k_is)
    (case ci2_InvalidNumber => k_is)
    (case lc_InvalidNumber => k_is)
    (case fi_InvalidNumber => (first | rfl | decide +kernel))
    (case ff_InvalidNumber => (first | rfl | decide +kernel))
    (case lx_InvalidNumber => k_is)
    (case gC_Undefined => k_is)
    (case iC_Undefined => k_is)
    (case cl_Undefined => k_is)
    (case sa_Undefined => k_is)
    (case no_Undefined => k_is)
    (case tI_Undefined => k_is)
    (case kC_Undefined => k_is)
    (case ex_Undefined => k_is)
    (case ve_Undefined => k_is)
    (case ty_Undefined => k_is)
    (case ga_Undefined => k_is)
    (case gg_Undefined => k_is)
    (case hd_Undefined => k_is)
    (case mr_Undefined => k_is)
    (case mo_Undefined => k_is)
    (case co_Undefined => k_is)
    (case nint_Undefined => k_is)
    (case nbool_Undefined => k_is)
    (case ntuple_Undefined => k_is)
    (case nstr_Undefined => k_is)
    (case nlist_Undefined => k_is)
    (case si_Undefined => (first | ks_is | k_is))
    (case li_Undefined => k_is)
    (case ci2_Undefined => k_is)
    (case lc_Undefined => k_is)
    (case fi_Undefined => (first | rfl | decide +kernel))
    (case ff_Undefined => (first | rfl | decide +kernel))
    (case lx_Undefined => k_is)
    (case zs => k_is)
    (case op => k_is)
    (case sp1 => k_is)
    (case sp2 => k_is)
    (case ht => (first | rfl | decide +kernel))
    (case z_abs => k_is)
    (case z_bool => k_is)
    (case z_int => k_is)
    (case z_isinstance => k_is)
    (case z_len => k_is)
    (case z_list => k_is)
    (case z_max => k_is)
    (case z_range => k_is)
    (case z_str => k_is)
    (case z_tuple => k_is)
    (case m_gcd => k_is)
    (case rv_InvalidNumber => (first | decide +kernel | rfl | k_is))
    (case sb_InvalidNumber => k_is)
    (case rv_Undefined => (first | decide +kernel | rfl | k_is))
    (case sb_Undefined => k_is)
