import PyProof.Rows.All
import Wide.All
import OpenK.AllK
import Wide.FinOn
import KE.KExcSuper
import HandS.ForMost
import HandS.ForExc
import HandS.ExcInit
import HandS.ExcSuper
import HandS.ExcField
import HandS.ExcIs
import HandS.HotCalls
import HandS.IsInst
import HandS.Gcd
import HandS.Wide
import HandS.Style
import HandS.DictComp
import HandS.TupSets
import PyProof.WalksMore
import HandS.SortOrd
import HandS.OwnEq
import OpenK.KOps
import HandS.TupAny
import HandS.Small
import HandS.SortInts
import HandS.Walk
import KE.GoesEnum
import KE.GoesMore
import HandS.Zip
import HandS.Conv
import PySem.Challenge.RW_nextguess_k35_means
set_option Elab.async false
set_option linter.all false
set_option maxRecDepth 100000
set_option maxHeartbeats 2000000
/-! An own exception class under a class under ValueError, whose __init__ is: super().__init__("text"); self.f = f. -/
namespace PySem
namespace SupX_value
open PySem.W PySem.Calls PyProof.Rows PySem.HandSPX
/-! ### the text of such an __init__ -/
def iA (p1 p2 : Pos) : Arguments := { posonlyargs := [], args := [{ arg := "self", annotation := none, pos := p1 }, { arg := "value", annotation := none, pos := p2 }], vararg := none, kwonlyargs := [], kw_defaults := [], kwarg := none, defaults := [] }
def iB (m : Str) (k : Nat) (p0 p1 p2 p3 p4 p5 q1 q2 q3 q4 : Pos) : List Stmt :=
  [.Expr (.Call (.Attribute (.Call (.Name "super" p0) [] [] p1) "__init__" p2) [.Constant (.str m) k p3] [] p4) p5,
   .Assign [.Attribute (.Name "self" q1) "value" q2] (.Name "value" q3) q4]
def iS : Scope := { kind := .function, names := [(PySem.Str.ofString "self", .local), (PySem.Str.ofString "value", .local), (PySem.Str.ofString "__class__", .free), (PySem.Str.ofString "super", .globalImplicit)], isGenerator := false, isCoroutine := false, more := [] }
/-- what the written part says of such a class at C, its __init__ at fI -/
structure XTxt (P : Program) (K : Frag) (mg : Str → Option Value) (x : Str) (C fI : Addr) : Prop where
  gC : mg x = some (.ref C)
  nm : (x == ("__debug__" : Str)) = false
  sup : mg "super" = none
  cls : ∃ nm q N bs bm sn sub ab col dd k0 k1 k2 k3 k5, K.lookup C = some (excClassObj nm q C N bs bm true sn sub ab col dd k0 k1 k2 k3 k5 "ValueError.__new__") ∧ refsVE bm = true
  sa : findIn K (.ref C) "__setattr__" = some (some (.builtin "object.__setattr__"))
  noN : findIn K (.ref C) "value" = some none
  iC : findIn K (.ref C) "__init__" = some (some (.ref fI))
  tC : typeIn K (.ref fI) = some (.type "function")
  kC : keepIn K (.ref C) = true
  exC : subIn K (.ref C) (.type "BaseException") = some true
  veC : subIn K (.ref C) (.type "ValueError") = some true
  tyC : typeIn K (.ref C) = some (.type "type")
  te : exmOne K (.ref C) (.ref C) = some true
  xf : L2.XfC K C
  sIn : ks_superIn K C C "__init__" = some (some (.builtin "ValueError.__init__"))
  opq : nsIn K cStatics "thirdparty.any" = some none
  mro : mroIn K C (.ref C) = some true
  htop : (P.main.scope.names.lookup ("super" : Str)).isSome = false
  fn : ∃ (oc : Value) (od : Option Addr) (doc pm : Value) (an : Option Addr) (cda cc : Addr) (ct : Value) (osl : Array (Option Value)) (qual m : Str) (k : Nat) (r1 r2 p0 p1 p2 p3 p4 p5 q1 q2 q3 q4 : Pos)
      (ccl cl : Value) (cdd cld : Option Addr) (ccs csl : Array (Option Value)) (vs : Array Value) (file : Str) (tf : Tok),
    K.lookup fI = some ⟨oc, od, .func (ksFn "__init__" qual (iA r1 r2) (iB m k p0 p1 p2 p3 p4 p5 q1 q2 q3 q4) iS .none .none doc pm an (.ref cda) ct cc), osl⟩ ∧ codeIn K (.ref cda) qual = true ∧ (p2.endLine == p4.line) = true ∧
    K.lookup cda = some ⟨ccl, cdd, .fields vs, ccs⟩ ∧ vs[2]? = some (.str file tf) ∧ ((P.main.file : Str) == file) = true ∧ K.lookup cc = some ⟨cl, cld, .cell (some (.ref C)), csl⟩
/-- what __init__ leaves of a fresh exception at x -/
structure InitEnd (h h' : Heap) (x C dx : Addr) (v : Value) : Prop where
  keep : ∀ b o, b ≠ x → h.get? b = some o → h'.get? b = some o
  obj : ∃ t1 : Addr, h'.get? x = some { cls := .ref C, dict := some dx, data := .fields #[.ref t1, .none, .none, .none, .bool false, .none] }
  dbig : h.objs.size ≤ dx
  dne : dx ≠ x
  ns : h'.Ns1 dx (fun y => if y = "value" then some v else none)
theorem kept_but {K : Frag} {h h' : Heap} {x : Addr} (X : K.In h) (hx : K.lookup x = none) (k : ∀ b o, b ≠ x → h.get? b = some o → h'.get? b = some o) : K.In h' := fun a o e =>
  k a o (fun z => by rw [z, hx] at e; cases e) (X a o e)
theorem two_size (v : Value) : [v].length ≤ sizeLine := by
  rw [sizeLine_eq]
  exact (by decide : 1 ≤ 16777216)
section
variable {prog : Program} {w : World} {A : Around} {E : Value → Shared → Prop} {h : Heap} {g : Array GenState} {d : Drawn} {t : Nat} {os : OsState}
variable {nm q : Str} {C N : Addr} {bs bm : List Value} {hdct : Bool} {sn : List Str} {sub : List Value} {ab : Bool} {col : Option Bool} {dd : Option Addr} {k0 k1 k2 k3 k5 : Option Value}
/-- the bound ValueError.__init__, called -/
theorem call_bw {u e t0 : Addr} {rest : List Value} {Q : Value → Shared → Prop}
    (hC : h.get? C = some (excClassObj nm q C N bs bm hdct sn sub ab col dd k0 k1 k2 k3 k5 "ValueError.__new__")) (he : h.get? e = some (excO C t0)) (hu : h.get? u = some (kxs_mw "ValueError.__init__" e)) (hrest : rest.length ≤ sizeLine)
    (hq : ∀ h' t1, (∀ b o, b ≠ e → h.get? b = some o → h'.get? b = some o) → h'.get? e = some (excO C t1) → Q .none ⟨h', g, d, t, os⟩) :
    wpAny (model prog w) A (call (.ref u) rest) Q E ⟨h, g, d, t, os⟩ := by
  refine wpAny_call (codeAny_of_tree ?_)
  show wpAny _ A.in1 (callAny (.ref u) ⟨rest, []⟩) _ _ _
  simp only [callAny]
  refine wpAny_bind (wpAny_load hu ?_)
  simp only [kxs_mw, show (Value.type "method-wrapper" == Value.type "method" || Value.type "method-wrapper" == Value.type "builtin_function_or_method" || Value.type "method-wrapper" == Value.type "method-wrapper") = true by decide, if_true]
  refine W.KFB.if_so (by decide) ?_
  refine wpAny_bind (ESX.check_bound F.excBase_ValueError hC he rfl ?_)
  refine wpAny_bind (wpAny_pure (wpAny_pure ?_))
  refine ⟨Code.quiet_builtin _ (by decide +kernel), codeAny_builtin F.excBase_ValueError.initEntry ?_⟩
  rw [Around.under_plainId F.excBase_ValueError.init.plain _]
  wp_walk
  refine hq _ h.objs.size (fun b o hb ho => ?_) ?_
  · rw [Heap.get?_update_other _ _ (Ne.symm hb)]
    exact Heap.get?_push_of_some _ ho
  · rw [Heap.get?_update_self _ (Heap.get?_push_of_some _ he) rfl]
    rfl
end
section
variable {prog : Program} {w : World} {A : Around} {R : Result → Shared → Prop} {s : Shared} {K : Frag} {mg : Str → Option Value} {x : Str} {C fI : Addr}
theorem sup_init (T : XTxt prog K mg x C fI) {e t0 : Addr} {v : Value} (X : K.In s.heap) (hlim : s.heap.NoLimit) (hg : s.heap.Ns mainGlobals mg) (hb : ∃ mb, s.heap.Ns builtinsNs mb ∧ ∀ y : Str, y ≠ "__name__" → mb y = bootBuiltins y)
    (hx : s.heap.get? e = some (excO C t0)) (hnx : K.lookup e = none) (hroom : A.depth < recursionLimit)
    (hq : ∀ h' tk dx, InitEnd s.heap h' e C dx v → R (.ok (.ret .none)) { s with heap := h', toks := tk }) :
    codeAny (model prog w) A (.call (.ref fI) ⟨[.ref e, v], []⟩) R s := by
  obtain ⟨oc, od, doc, pm, an, cda, cc, ct, osl, qual, m, k, r1, r2, p0, p1, p2, p3, p4, p5, q1, q2, q3, q4, ccl, cl, cdd, cld, ccs, csl, vs, file, tf, ho, hcd, hln, hcode, hvs, hfile, hcell⟩ := T.fn
  obtain ⟨nm, q, N, bs, bm, sn, sub, ab, col, dd, k0, k1, k2, k3, k5, hC, hbm⟩ := T.cls
  obtain ⟨mb, hb1, hb2⟩ := hb
  have hcl : clsIn K C = some { name := nm, bases := bs, mro := .ref C :: bm, ns := N, qualname := q, hasDict := true, slotNames := sn, subclasses := sub, abstract := ab, collection := col, hasDel := false } := by unfold clsIn; rw [hC] <;> rfl
  refine ks_codeAny_call_defAt (fd := ksFn "__init__" qual (iA r1 r2) (iB m k p0 p1 p2 p3 p4 p5 q1 q2 q3 q4) iS .none .none doc pm an (.ref cda) ct cc) (body := iB m k p0 p1 p2 p3 p4 p5 q1 q2 q3 q4) (binds := [("self", .ref e), ("value", v)])
    hroom (X _ _ ho) rfl hlim (codeRec_of X hcd) rfl (BindsTo.of_eq ?_) ?_ ?_ (fun h₁ hns hk₁ => ?_) rfl rfl rfl
  · first | rfl | with_unfolding_all rfl
  · intro y hy
    have hy2 : y ∈ [(PySem.Str.ofString "self", NameKind.local), (PySem.Str.ofString "value", .local), (PySem.Str.ofString "__class__", .free), (PySem.Str.ofString "super", .globalImplicit)] := hy
    simp only [List.mem_cons, List.not_mem_nil, or_false] at hy2
    rcases hy2 with rfl | rfl | rfl | rfl <;> intro z <;> cases z
  · intro y hy
    simp only [List.mem_cons, List.not_mem_nil, or_false] at hy
    rcases hy with rfl | rfl <;> rfl
  -- the frame: self, the field's value
  have X₁ : K.In h₁ := X.keeps hk₁
  have hx₁ := hk₁ _ _ hx
  have hC₁ := X₁ _ _ hC
  show _root_.PySem.wpAt _ _ _ (execs (iB m k p0 p1 p2 p3 p4 p5 q1 q2 q3 q4) _) _ _ _
  refine ks_wpAt_execs_cons (ks_wpAt_Expr_any (ks_wpAt_MethodCall (pl := (do return (← importBound (.Call (.Name "super" p0) [] [] p1) (callEnv
          (ksFn "__init__" qual (iA r1 r2) (iB m k p0 p1 p2 p3 p4 p5 q1 q2 q3 q4) iS .none .none doc pm an (.ref cda) ct cc) s.heap.objs.size fI)).getD true)) ?_ ?he) rfl rfl)
  case he =>
    rw [eval]
    unfold methodCall methodCallPos
    simp only [hln, Bool.or_true, if_true, pure_bind]
    rfl
  refine ks_wpAt_super_base (f := fI) (cc := cda) rfl rfl (by decide +kernel) rfl (X₁ _ _ ho) rfl rfl rfl (X₁ _ _ hcode) rfl hvs hfile T.htop ?_
  refine ks_loadName_global rfl rfl (loadGlobal_builtin (hg.keeps hk₁) T.sup (hb1.keeps hk₁) ((hb2 _ (by decide +kernel)).trans (show bootBuiltins "super" = some (.type "super") by first | rfl | decide +kernel | kernel_rfl)) ⟨rfl, ?_⟩)
  refine wpAny_loadName_free rfl rfl rfl ⟨_, X₁ _ _ hcell, rfl⟩ ?_
  refine wpAny_loadName_local (v := .ref e) rfl rfl hns (by rfl) ?_
  refine ks_wpAny_isType_cls hC₁ rfl ⟨rfl, ?_⟩
  refine ks_wpAny_call_super hC₁ rfl hx₁ rfl (fun c z => nomatch z) (looks_mroIn X₁ T.mro) (fun h₂ e₂ k₂ => ?_)
  have X₂ : K.In h₂ := X₁.keeps k₂
  have hx₂ := k₂ _ _ hx₁
  have hC₂ := X₂ _ _ hC
  have I₂ : InstAt h₂ e (excO C t0) C none := ⟨hx₂, rfl, rfl, trivial⟩
  have hI : Looks (model prog w) h₂ (isInstance (.ref e) (.type "ValueError")) true := I₂.type.andThen (looks_subIn X₂ T.veC)
  have hsi : alongIn K "__init__" (((Value.ref C :: bm).dropWhile (· != .ref C)).drop 1) = some (some (.builtin "ValueError.__init__")) := by
    have z := T.sIn
    unfold ks_superIn at z
    rw [hcl] at z
    exact z
  have hmro : Looks (model prog w) h₂ (mroOf (.ref C)) (Value.ref C :: bm) := fun A' Q' E' s' k' q' => wpAny_bind ((looks_clsIn X₂ hcl) A' _ E' s' k' (wpAny_pure q'))
  refine kxs_getMethod kxs_ValueError e₂ (looks_opaque X₂ T.opq) hmro rfl X₂ hsi hI (ks_ne X₂ I₂ hcl) (by decide +kernel) ?_
  have hu : (h₂.push (kxs_mw "ValueError.__init__" e)).get? h₂.objs.size = some (kxs_mw "ValueError.__init__" e) := by heap_get
  have k₃ : ∀ b o, h₂.get? b = some o → (h₂.push (kxs_mw "ValueError.__init__" e)).get? b = some o := fun b o z => Heap.get?_push_of_some _ z
  refine kxs_callWith (i := "ValueError.__init__") (x := e) (by rfl) ?_
  refine evalArgs_plain (spliced_cons ?_)
  show wpAny _ _ (eval (.Constant (.str m) k p3) _) _ _ _
  refine Constant_str (spliced_nil ⟨hu, ?_⟩)
  refine call_bw (k₃ _ _ hC₂) (k₃ _ _ hx₂) hu (two_size _) (fun h₄ t4 k₄ hx₄ => ?_)
  have k₅ : ∀ b o, b ≠ e → s.heap.get? b = some o → h₄.get? b = some o := fun b o z y => k₄ b o z (k₃ _ _ (k₂ _ _ (hk₁ _ _ y)))
  have X₄ : K.In h₄ := kept_but (X₂.keeps k₃) hnx k₄
  have hLe : s.heap.objs.size ≠ e := Nat.ne_of_gt (Heap.lt_size hx)
  have hns₄ : h₄.Ns s.heap.objs.size (fun y => List.lookup y ([(("self" : Str), Value.ref e), (("value" : Str), v)] : List (Str × Value)).reverse) := by
    obtain ⟨oL, es, ep, hL, r⟩ := hns
    exact ⟨oL, es, ep, k₄ _ _ hLe (k₃ _ _ (k₂ _ _ hL)), r⟩
  show wpAt _ _ _ (execs [.Assign [.Attribute (.Name "self" q1) "value" q2] (.Name "value" q3) q4] _) _ _ _
  refine wpAt_of_wpAny (wpAny_execs_cons (plainObj_wpAny_Assign_Attribute ?_))
  refine ESX.ldL (v := v) hns₄ (by rfl) (ESX.ldL (v := .ref e) hns₄ (by rfl) ?_)
  refine set_plain X₄ (ox := excO C t4) (od := none) ⟨hx₄, rfl, rfl, trivial⟩ T.sa ?_
  refine exc_osa X₄ hx₄ hcl (show refsVE (.ref C :: bm) = true from hbm) rfl T.noN (fun h₆ tk₆ dx k₆ dn dne hx₆ hn₆ => ?_)
  refine wpAny_execs_nil (hq h₆ tk₆ dx ⟨fun b o hb y => k₆ b o hb (k₅ b o hb y), ⟨t4, hx₆⟩, ?_, dne, hn₆⟩)
  have z : s.heap.objs.size < h₄.objs.size := hns₄.lt
  exact Nat.le_of_lt (Nat.lt_of_lt_of_le z dn)
/-- a made exception -/
structure OwnMade (h h' : Heap) (e C d : Addr) (v : Value) : Prop where
  keep : ∀ b o, h.get? b = some o → h'.get? b = some o
  new : h.objs.size ≤ e
  obj : ∃ t1 : Addr, h'.get? e = some { cls := .ref C, dict := some d, data := .fields #[.ref t1, .none, .none, .none, .bool false, .none] }
  dbig : h.objs.size ≤ d
  dne : d ≠ e
  ns : h'.Ns1 d (fun y => if y = "value" then some v else none)
theorem sup_made (T : XTxt prog K mg x C fI) {v : Value} (X : K.In s.heap) (hlim : s.heap.NoLimit) (hg : s.heap.Ns mainGlobals mg) (hb : ∃ mb, s.heap.Ns builtinsNs mb ∧ ∀ y : Str, y ≠ "__name__" → mb y = bootBuiltins y) (hroom : A.depth + 1 < recursionLimit)
    (hq : ∀ h' tk e d, OwnMade s.heap h' e C d v → R (.ok (.ret (.ref e))) { s with heap := h', toks := tk }) :
    codeAny (model prog w) A (.call (.ref C) ⟨[v], []⟩) R s := by
  obtain ⟨nm, q, N, bs, bm, sn, sub, ab, col, dd, k0, k1, k2, k3, k5, hC, hbm⟩ := T.cls
  obtain ⟨mb, hb1, hb2⟩ := hb
  obtain ⟨hp, g, dr, tk, os⟩ := s
  have k : ∀ b o, hp.get? b = some o → ((hp.push (kdv_tup [v])).push (excO C hp.objs.size)).get? b = some o := fun b o e => Heap.get?_push_of_some _ (Heap.get?_push_of_some _ e)
  have hget : ((hp.push (kdv_tup [v])).push (excO C hp.objs.size)).get? (hp.objs.size + 1) = some (excO C hp.objs.size) := by heap_get
  have hnx : K.lookup (hp.objs.size + 1) = none := by
    cases e : K.lookup (hp.objs.size + 1) with
    | none => rfl
    | some o =>
      have z : hp.get? (hp.objs.size + 1) = some o := X _ _ e
      exact absurd (Nat.lt_of_succ_lt (Heap.lt_size z)) (Nat.lt_irrefl _)
  refine call_own F.excBase_ValueError (fun X => refsVE_contains X bm hbm) (X _ _ hC) (looks_findIn X T.iC) (fun self => bind_fn X self T.tC) (two_size v) ?_
  refine sup_init (s := ⟨(hp.push (kdv_tup [v])).push (excO C hp.objs.size), g, dr, tk, os⟩) T (X.keeps k) (hlim.keeps k) (hg.keeps k) ⟨mb, hb1.keeps k, hb2⟩ hget hnx ?_ fun h' tk' dx M => ?_
  · show A.depth + 1 < recursionLimit
    exact hroom
  · obtain ⟨k', hx, dn, dne, hns⟩ := M
    have old : ∀ b o, hp.get? b = some o → h'.get? b = some o := fun b o e => k' b o (Nat.ne_of_lt (Nat.lt_succ_of_lt (Heap.lt_size e))) (k b o e)
    have z : hp.objs.size + 1 + 1 ≤ dx := by
      first
        | (simpa only [Heap.size_push] using dn)
        | exact dn
        | (have q := dn; rw [Heap.size_push, Heap.size_push] at q; exact q)
    exact ⟨rfl, hq h' tk' (hp.objs.size + 1) dx ⟨old, Nat.le_succ _, hx, Nat.le_trans (Nat.le_trans (Nat.le_succ _) (Nat.le_succ _)) z, dne, hns⟩⟩
end
end SupX_value
end PySem

set_option Elab.async false
set_option linter.all false
set_option maxRecDepth 100000
set_option maxHeartbeats 2000000

namespace L2
open PySem PySem.Spec PyProof.Rows
theorem relO_one {f : Str} {v : V} {v' : Value} (r : RelV v v') (g : Str) : RelO (List.lookup g [(f, v)]) (if g = f then some v' else none) := by
  by_cases hw : g = f
  · subst hw
    rw [if_pos rfl]
    have q : List.lookup g [(g, v)] = some v := by simp [List.lookup]
    rw [q]
    exact r
  · rw [if_neg hw]
    have qw : (g == f) = false := by simpa using hw
    have q2 : List.lookup g [(f, v)] = none := by simp [List.lookup, qw]
    rw [q2]
    trivial
/-- C(e), an exception that is made -/
def tMkX (C : Addr) (f : Str) (ta : TA) : St → Hp → XK → Prop := fun σ H Q => ta σ H fun vs H1 => ∃ v, vs = [v] ∧ ∀ d, H1 d = none → Q (.ref C) (some d) (upd H1 d (.xd [(f, v)]))
/-- C(e) as a value: the exception at a, its dict at d -/
def tExV (C : Addr) (f : Str) (ta : TA) : TE := fun σ H Q => ta σ H fun vs H1 => ∃ v, vs = [v] ∧ ∀ a d, H1 a = none → H1 d = none → d ≠ a → Q (.ref a) (upd (upd H1 d (.xd [(f, v)])) a (exo a C (some d)))
end L2
namespace L2
namespace Sup_value
open PySem PySem.Spec PyProof.Rows PySem.SupX_value
section
variable {X : Cx} {C fI : Addr} {x : Str}
theorem gblt {pins : List (Addr × Obj)} {σ : St} {H : Hp} {s : Shared} (I : Inv X pins σ H s) : ∃ mb, s.heap.Ns builtinsNs mb ∧ ∀ y : Str, y ≠ "__name__" → mb y = bootBuiltins y := by
  obtain ⟨mb, h1, h2⟩ := I.mod.blt
  exact ⟨mb, h1.keeps I.bk, h2⟩
theorem pmk_sup {a : Expr} {ta : TA} {p pos : Pos} {k : Nat} (T : XTxt X.prog X.K X.mg x C fI) (hr : Room k X.A) (ha : PA X [a] ta) (hg : Gl X x := by rfl)
    (he : starEach (a :: []) X.env = (false, eval a X.env) :: starEach [] X.env := by rfl) (hpl : (backTo pos (starEach [] X.env)).any (·.1) = false := by rfl) :
    PMk X (.Call (.Name x p) [a] [] pos) (tMkX C "value" ta) := by
  intro pins s σ H Q I h
  refine wpAny_Call_Name_kw (ld_glob I hg T.gC ?_ T.nm)
  refine PySem.W.callWith_K (h₀ := X.base) I.ok.mod.kin T.kC (thn (ha.run pos pins s σ H _ I h) fun us s1 hh => ?_) he hpl
  obtain ⟨vs, H1, I1, r1, v, ev, q1⟩ := hh
  subst ev
  refine ⟨I1.kIn, ?_⟩
  cases r1 with
  | cons rv rn =>
    rename_i v' us'
    cases rn
    show wpAny _ _ (call (.ref C) [v']) _ _ _
    have hlim := I1.nolimit
    have hgl := I1.mod.glob.keeps I1.bk
    have hbl := gblt I1
    obtain ⟨hp, g, dr, tk, os⟩ := s1
    refine wpAny_call (sup_made T I1.kIn hlim hgl hbl (by have := hr.dp; omega) fun h' tk' e d M => ?_)
    show MkP X pins σ Q (.ref e) ⟨h', g, dr, tk', os⟩
    obtain ⟨t1, hoe⟩ := M.obj
    have hns := M.ns
    obtain ⟨G', g1, g2⟩ := restrict h' fun b => decide (b ≠ e)
    have gk : ∀ b, b ≠ e → G'.get? b = h'.get? b := fun b hb => g1 b (decide_eq_true hb)
    have ge : G'.get? e = none := g2 e (by simp)
    have old : ∀ b o, hp.get? b = some o → G'.get? b = some o := fun b o q => (gk b (Nat.ne_of_lt (Nat.lt_of_lt_of_le (Heap.lt_size q) M.new))).trans (M.keep b o q)
    have ob : ObjOk X.prog X.w (upd H1 d (.xd [(("value" : Str), v)])) G' d (.xd [(("value" : Str), v)]) :=
      ⟨_, hns.at (fun o q => (gk d M.dne).trans q), fun f => relO_one rv f⟩
    have J : Inv X pins σ (upd H1 d (.xd [(("value" : Str), v)])) ⟨G', g, dr, tk', os⟩ := I1.laid (t' := tk') old M.dbig ob
    refine ⟨e, _, _, ⟨G', g, dr, tk', os⟩, _, .ref C, some d, rfl, J, fun b o q => ?_, ge, hoe, ⟨rfl, rfl⟩, rfl, rfl, ?_, rfl, I1.bare, raises_own T.exC T.tyC, q1 d (I1.hok.fresh M.dbig)⟩
    · by_cases hb : b = e
      · have q' : G'.get? b = some o := q
        rw [hb, ge] at q'; cases q'
      · exact (gk b hb).symm.trans q
    · rw [upd_ne (Ne.symm M.dne)]
      exact I1.hok.fresh M.new
/-- raise C(e) -/
theorem ps_raiseSup {a : Expr} {ta : TA} {W : WX} {p pos pos2 : Pos} {k : Nat} (hc : X.calm = true) (T : XTxt X.prog X.K X.mg x C fI) (hr : Room k X.A) (tk : Takes X W) (ha : PA X [a] ta) (hg : Gl X x := by rfl)
    (he : starEach (a :: []) X.env = (false, eval a X.env) :: starEach [] X.env := by rfl) (hpl : (backTo pos (starEach [] X.env)).any (·.1) = false := by rfl) :
    PS X (.Raise (some (.Call (.Name x p) [a] [] pos)) none pos2) (fun _ σ H => tMkX C "value" ta σ H fun cls d H' => W cls d σ H') := ps_raise hc tk (pmk_sup T hr ha hg he hpl)
theorem pmk_supN {a : Expr} {ta : TA} {p pos : Pos} {k : Nat} (T : XTxt X.prog X.K X.mg x C fI) (hr : Room k X.A) (ha : PA X [a] ta) (hg : Gl X x := by rfl)
    (he : starEach (a :: []) X.env = (false, eval a X.env) :: starEach [] X.env := by rfl) (hpl : (backTo pos (starEach [] X.env)).any (·.1) = false := by rfl) :
    L2N.PMk X (.Call (.Name x p) [a] [] pos) (tMkX C "value" ta) := by
  intro pins s σ H Q I h
  refine wpAny_Call_Name_kw (ld_glob I hg T.gC ?_ T.nm)
  refine PySem.W.callWith_K (h₀ := X.base) I.ok.mod.kin T.kC (thn (ha.run pos pins s σ H _ I h) fun us s1 hh => ?_) he hpl
  obtain ⟨vs, H1, I1, r1, v, ev, q1⟩ := hh
  subst ev
  refine ⟨I1.kIn, ?_⟩
  cases r1 with
  | cons rv rn =>
    rename_i v' us'
    cases rn
    show wpAny _ _ (call (.ref C) [v']) _ _ _
    have hlim := I1.nolimit
    have hgl := I1.mod.glob.keeps I1.bk
    have hbl := gblt I1
    obtain ⟨hp, g, dr, tk, os⟩ := s1
    refine wpAny_call (sup_made T I1.kIn hlim hgl hbl (by have := hr.dp; omega) fun h' tk' e d M => ?_)
    show L2N.MkP X pins σ Q (.ref e) ⟨h', g, dr, tk', os⟩
    obtain ⟨t1, hoe⟩ := M.obj
    have hns := M.ns
    obtain ⟨G', g1, g2⟩ := restrict h' fun b => decide (b ≠ e)
    have gk : ∀ b, b ≠ e → G'.get? b = h'.get? b := fun b hb => g1 b (decide_eq_true hb)
    have ge : G'.get? e = none := g2 e (by simp)
    have old : ∀ b o, hp.get? b = some o → G'.get? b = some o := fun b o q => (gk b (Nat.ne_of_lt (Nat.lt_of_lt_of_le (Heap.lt_size q) M.new))).trans (M.keep b o q)
    have ob : ObjOk X.prog X.w (upd H1 d (.xd [(("value" : Str), v)])) G' d (.xd [(("value" : Str), v)]) :=
      ⟨_, hns.at (fun o q => (gk d M.dne).trans q), fun f => relO_one rv f⟩
    have J : Inv X pins σ (upd H1 d (.xd [(("value" : Str), v)])) ⟨G', g, dr, tk', os⟩ := I1.laid (t' := tk') old M.dbig ob
    refine ⟨e, _, _, ⟨G', g, dr, tk', os⟩, _, .ref C, some d, rfl, J, fun b o q => ?_, ge, hoe, ⟨rfl, rfl, fun vs e => by cases e; rfl⟩, rfl, rfl, ?_, rfl, I1.bare, raises_own T.exC T.tyC, q1 d (I1.hok.fresh M.dbig)⟩
    · by_cases hb : b = e
      · have q' : G'.get? b = some o := q
        rw [hb, ge] at q'; cases q'
      · exact (gk b hb).symm.trans q
    · rw [upd_ne (Ne.symm M.dne)]
      exact I1.hok.fresh M.new
/-- raise C(e) -/
theorem ps_raiseSupN {a : Expr} {ta : TA} {W : WX} {p pos pos2 : Pos} {k : Nat} (hc : X.calm = true) (T : XTxt X.prog X.K X.mg x C fI) (hr : Room k X.A) (tk : L2N.Takes X W) (ha : PA X [a] ta) (hg : Gl X x := by rfl)
    (he : starEach (a :: []) X.env = (false, eval a X.env) :: starEach [] X.env := by rfl) (hpl : (backTo pos (starEach [] X.env)).any (·.1) = false := by rfl) :
    PS X (.Raise (some (.Call (.Name x p) [a] [] pos)) none pos2) (fun _ σ H => tMkX C "value" ta σ H fun cls d H' => W cls d σ H')   := L2N.ps_raise hc tk (pmk_supN T hr ha hg he hpl)
/-- C(e) as a value -/
theorem pe_supV {a : Expr} {ta : TA} {p pos : Pos} {k : Nat} (T : XTxt X.prog X.K X.mg x C fI) (hr : Room k X.A) (ha : PA X [a] ta) (hg : Gl X x := by rfl)
    (he : starEach (a :: []) X.env = (false, eval a X.env) :: starEach [] X.env := by rfl) (hpl : (backTo pos (starEach [] X.env)).any (·.1) = false := by rfl) :
    PE X (.Call (.Name x p) [a] [] pos) (tExV C "value" ta) := by
  refine ⟨fun pins s σ H Q I h => ?_⟩
  refine wpAny_Call_Name_kw (ld_glob I hg T.gC ?_ T.nm)
  refine PySem.W.callWith_K (h₀ := X.base) I.ok.mod.kin T.kC (thn (ha.run pos pins s σ H _ I h) fun us s1 hh => ?_) he hpl
  obtain ⟨vs, H1, I1, r1, v, ev, q1⟩ := hh
  subst ev
  refine ⟨I1.kIn, ?_⟩
  cases r1 with
  | cons rv rn =>
    rename_i v' us'
    cases rn
    show wpAny _ _ (call (.ref C) [v']) _ _ _
    have hlim := I1.nolimit
    have hgl := I1.mod.glob.keeps I1.bk
    have hbl := gblt I1
    obtain ⟨hp, g, dr, tk, os⟩ := s1
    refine wpAny_call (sup_made T I1.kIn hlim hgl hbl (by have := hr.dp; omega) fun h' tk' e d M => ?_)
    obtain ⟨t1, hoe⟩ := M.obj
    have hne : H1 e = none := I1.hok.fresh M.new
    have hnd : H1 d = none := I1.hok.fresh M.dbig
    have nde : ∀ {b : Addr} {o : Obj}, hp.get? b = some o → b ≠ e := fun {b o} z => Nat.ne_of_lt (Nat.lt_of_lt_of_le (Heap.lt_size z) M.new)
    have ndd : ∀ {b : Addr} {o : Obj}, hp.get? b = some o → b ≠ d := fun {b o} z => Nat.ne_of_lt (Nat.lt_of_lt_of_le (Heap.lt_size z) M.dbig)
    have two : ∀ {b : Addr} {o : HO}, H1 b = some o → upd (upd H1 d (.xd [(("value" : Str), v)])) e (exo e C (some d)) b = some o := fun {b o} z => by
      rw [upd_ne (ne_of_none z hne), upd_ne (ne_of_none z hnd)]
      exact z
    have U : Un X.fs [] H1 (upd (upd H1 d (.xd [(("value" : Str), v)])) e (exo e C (some d))) hp h' := {
      keep := fun b u z _ _ _ => M.keep b u z
      slot := fun b u z _ _ _ => ⟨u.slots, M.keep b u z⟩
      free := fun b u z n _ => by rw [upd_ne (nde z), upd_ne (ndd z)]; exact n
      there := fun b u z _ => ⟨u, M.keep b u z⟩
      tups := fun b xs z => two z
      frzs := fun b u xs z => two z
      tbls := fun b ps z => ⟨#[], by rw [two z]; simp⟩ }
    have ok2 : HOk X.prog X.w (upd (upd H1 d (.xd [(("value" : Str), v)])) e (exo e C (some d))) h' := fun b o z => by
      by_cases hb : b = e
      · subst hb
        rw [upd_same] at z
        cases z
        exact exo_ok hoe
      · rw [upd_ne hb] at z
        by_cases hd : b = d
        · subst hd
          rw [upd_same] at z
          cases z
          exact ⟨_, M.ns, fun f => relO_one rv f⟩
        · rw [upd_ne hd] at z
          exact (I1.hok b o z).stay (fun c u _ q => M.keep c u q) (fun c q => two q) fun c xs q => two q
    have J2 : Inv X pins σ (upd (upd H1 d (.xd [(("value" : Str), v)])) e (exo e C (some d))) ⟨h', g, dr, tk', os⟩ := I1.un (t' := tk') U ok2
    exact ⟨.ref e, _, J2, rfl, q1 e d hne hnd M.dne⟩
end
end Sup_value
end L2

set_option Elab.async false
set_option linter.all false
set_option maxRecDepth 100000
set_option maxHeartbeats 4000000
namespace PySem.W
open PySem PySem.Spec PySem.Calls PyProof.Rows
section
variable {prog : Program} {w : World} {A : Around} {E : Value → Shared → Prop} {s : Shared} {K : Frag} {x D : Addr} {ox : Obj}
theorem findObj_dX {C : Addr} {odx : Option Obj} {name : Str} {a g : Value} (hc : (clsIn K C).isSome = true) (ha : findIn K (.ref C) name = some (some a)) (hg : specialIn K a "__get__" = some (some g)) (ht : takesIn K a = some true) : findObj K C odx name = some (.bind g a) := by
  obtain ⟨cd, hc⟩ := Option.isSome_iff_exists.mp hc
  unfold findObj
  rw [hc, Option.bind_some, ha, Option.bind_some]
  simp [hg, ht]
theorem kin_classX {odx : Option Obj} {Q : Option Value → Shared → Prop} (hga : findIn K (.ref D) "__getattribute__" = some (some (.builtin "BaseException.__getattribute__"))) (hgt : findIn K (.ref D) "__getattr__" = some none) (hsub : subIn K (.ref D) (.type "BaseException") = some true)
    (hdct : hasDictIn K D = true) (ha : findIn K (.ref D) "__class__" = some (some (.builtin "object.__class__")))
    (hn : specialIn K (.builtin "object.__class__") "__get__" = some (some (.builtin "getset_descriptor.__get__"))) (htk : takesIn K (.builtin "object.__class__") = some true) (hm : mroIn K D (.type "object") = some true)
    (X : K.In s.heap) (I : InstAt s.heap x ox D odx) (h : Q (some (.ref D)) { s with toks := s.toks + 1 }) : wpAny (model prog w) A (getAttr? (.ref x) "__class__") Q E s := by
  have hf : findObj K D odx "__class__" = some (.bind (.builtin "getset_descriptor.__get__") (.builtin "object.__class__")) := findObj_dX (by obtain ⟨cd, hc, _⟩ := any_some hdct; rw [hc]; rfl) ha hn htk
  obtain ⟨hp, g, d, t, os⟩ := s
  have L0 := I.type (M := model prog w)
  have L1 := looks_findIn (M := model prog w) X hga
  have L2 := looks_findIn (M := model prog w) X hgt
  have L3 := looks_find (M := model prog w) X I hf
  have sub : Looks (model prog w) hp (isInstance (.ref x) (.type "BaseException")) true := L0.andThen (looks_subIn X hsub)
  have hx0 : (false && onTheHeap (Value.builtin "BaseException.__getattribute__")) = false := rfl
  have hx2 : (Value.builtin "BaseException.__getattribute__" == Value.builtin "object.__getattribute__") = false := by decide +kernel
  have hx1 : (onTheHeap (Value.ref D) && Value.builtin "BaseException.__getattribute__" == Value.builtin "object.__getattribute__") = false := by rw [hx2]; rfl
  unfold getAttr? getAttrBy? getAttrBy
  refine wpAny_bind (wpAny_mkText (wpAny_bind (wpAny_attempt (wpAny_holding (wpAny_bind (L0.at (wpAny_bind (L1.at ?_))))))))
  show wpAny _ _ (if (onTheHeap (Value.ref D) && Value.builtin "BaseException.__getattribute__" == Value.builtin "object.__getattribute__") = true then _ else _) _ _ _
  rw [hx1, if_neg Bool.false_ne_true]
  unfold getAttrByItsOwn hookBefore
  refine wpAny_bind ?_
  rw [if_pos (show onTheHeap (Value.ref D) = true from rfl)]
  refine L2.at ?_
  refine wpAny_bind (wpAny_attempt (wpAny_holding ?_))
  unfold callGetattribute
  rw [hx0, if_neg Bool.false_ne_true]
  unfold boundAndCalled
  rw [PySem.F.excAttr_ValueError.ga.bind (.ref x)]
  refine wpAny_bind (wpAny_pure ?_)
  show wpAny _ _ (call (.builtin "BaseException.__getattribute__") [.ref x, .str "__class__" t]) _ _ _
  refine wpAny_call (codeAny_call_builtin PySem.F.excAttr_ValueError.ga.plain PySem.F.entry_bexc_ga ?_)
  refine @check_slot (model prog w) _ _ ⟨hp, g, d, t + 1, os⟩ "BaseException.__getattribute__" "BaseException" "__getattribute__" (.ref x) [.str "__class__" t] [] _ (by decide +kernel) (by decide +kernel) sub (PySem.F.args_bexc_ga (.ref x) (.str "__class__" t)) ?_
  unfold Builtin.«object.__getattribute__»
  refine wpAny_bind (wpAny_of_eq (a := ((Value.ref x : Value), [Value.str "__class__" t])) (by first | rfl | (simp only [slotArgs]; rfl)) ?_)
  refine wpAny_bind (wpAny_pure (wpAny_bind (L0.at (wpAny_bind (L3.at ?_)))))
  show wpAny _ _ (holding [Value.builtin "object.__class__"] (call (.builtin "getset_descriptor.__get__") [.builtin "object.__class__", .ref x, .ref D]) >>= ret) _ _ _
  refine wpAny_bind (wpAny_holding (wpAny_call (class_get (s := ⟨hp, g, d, t + 1, os⟩) (ox := ox) (od := odx) X I hm ?_)))
  refine wpAny_pure ?_
  show wpAny _ _ (handedOut (.ref D)) _ _ _
  rw [handedOut_of (v := .ref D) rfl]
  first
    | exact wpAny_pure (wpAny_pure h)
    | exact wpAny_pure h
    | exact wpAny_pure (wpAny_bind (wpAny_pure (wpAny_pure h)))
theorem kitx_excX {odx : Option Obj} (hga : findIn K (.ref D) "__getattribute__" = some (some (.builtin "BaseException.__getattribute__"))) (hgt : findIn K (.ref D) "__getattr__" = some none) (hsub : subIn K (.ref D) (.type "BaseException") = some true) (hdct : hasDictIn K D = true) (ha : findIn K (.ref D) "__class__" = some (some (.builtin "object.__class__")))
    (hn : specialIn K (.builtin "object.__class__") "__get__" = some (some (.builtin "getset_descriptor.__get__"))) (htk : takesIn K (.builtin "object.__class__") = some true) (hm : mroIn K D (.type "object") = some true) :
    KitX K (.ref x) (.ref D) (fun h => InstAt h x ox D odx) where
  ty := fun _ _ _ I => I.type
  it := fun _ _ X _ => by
    obtain ⟨cdD, hcD, _⟩ := any_some hdct
    unfold clsIn at hcD
    split at hcD
    · rename_i c' d' cd' sl' ho
      intro A' Q' E' s' k q
      unfold isType loadHead
      exact wpAny_bind (wpAny_loadPart (k _ _ (X _ _ ho)) (wpAny_pure q))
    · cases hcD
  ne := fun h tp dd its n sl X htp => by
    obtain ⟨cdD, hcD, _⟩ := any_some hdct
    refine Bool.eq_false_iff.mpr fun q => ?_
    have e : D = tp := Value.ref.inj (beq_iff_eq.mp q)
    subst e
    unfold clsIn at hcD
    split at hcD
    · rename_i c' d' cd' sl' ho
      have z := (X _ _ ho).symm.trans htp
      cases z
    · cases hcD
  ca := fun X I k => kin_classX hga hgt hsub hdct ha hn htk hm X I k
end
end PySem.W
namespace L2
open PySem PySem.Spec PyProof.Rows
/-- an exception object that stands, with its dict -/
def ExT (K : PySem.W.Frag) (H : Hp) (x : V) (t : Value) : Prop := ∃ (a C d : Addr) (fs : List (Str × V)), x = .ref a ∧ t = .ref C ∧ H a = some (exo a C (some d)) ∧ H d = some (.xd fs) ∧ ExcC K C
def KX (K : PySem.W.Frag) (H : Hp) (x : V) (t : Value) : Prop := TyX K H x t ∨ ExT K H x t
def rIsiV (K : PySem.W.Frag) : List V → Hp → VK → Prop := fun xs H Q => ∃ (x c : V) (t u : Value) (b : Bool), xs = [x, c] ∧ ClsV c u ∧ KX K H x t ∧ PySem.W.kitOne K t u = some b ∧ Q (.bl b) H
section
variable {X : Cx}
theorem call_isiV : CallR X (.builtin "isinstance") (rIsiV X.K) := by
  intro pins s σ H xs us Q I r h
  obtain ⟨x, c, t, u, b, rfl, k, ty, e, q⟩ := h
  obtain ⟨u1, u2, rfl, r1, r2⟩ := vals2 r
  have e2 := k.eq r2
  subst e2
  rcases ty with ty | ⟨a, C, d, fs, rfl, rfl, ha, hd, EC⟩
  · obtain ⟨P, Z, p, hx⟩ := kit_of I r1 ty
    exact PySem.W.kia_one Z I.kIn p e hx fun tk => ⟨.bl b, H, I.tok tk, rfl, q⟩
  · cases (show u1 = Value.ref a from r1)
    obtain ⟨t1, ho⟩ := exo_at I.hok ha
    obtain ⟨mA, ⟨od, es, ep, hod, _⟩, _⟩ := (show ObjOk X.prog X.w H s.heap d (.xd fs) from I.hok d _ hd)
    have J : PySem.W.InstAt s.heap a _ C (some od) := ⟨ho, rfl, rfl, hod⟩
    exact PySem.W.kia_one (PySem.W.kitx_excX EC.hg EC.hk EC.hs EC.hd EC.ha EC.hn EC.ht EC.hm) I.kIn J e (fun z => nomatch z) fun tk => ⟨.bl b, H, I.tok tk, rfl, q⟩
end
end L2

set_option Elab.async false
set_option linter.all false
set_option maxRecDepth 100000
set_option maxHeartbeats 2000000
namespace L2
open PySem PySem.Spec PyProof.Rows
section
variable {X : Cx} {CX : CXT} {k : Nat} {f C : Addr} {fd : FuncData} {ps ks : List Str} {sp : Sp} {E : XK} {x m : Str} {p pos : Pos} {kws : List Keyword} {tk : TA} {g : List Value → List Value → List Value} {gV : List V → List V → List V}
/-- f(k = v, ..): keywords alone -/
theorem pe_kw0 (F : FnOk X.prog X.w X.K X.mg X.base CX k f fd ps sp) (hr : Room k X.A) (hg : Gl X x) (hm : X.mg x = some (.ref f)) (hk : PySem.W.keepIn X.K (.ref f) = true) (hb : KBinds X.K fd ps ks g gV) (hx : Passes CX X E)
    (hkw : PK X kws tk) (hall : (backToKw pos (keywordEach kws X.env)).all (·.1.isSome) = true := by rfl) (hks : (backToKw pos (keywordEach kws X.env)).filterMap (·.1) = ks := by rfl) (hdb : (x == ("__debug__" : Str)) = false := by decide)
    (hpl : ((backTo pos (starEach [] X.env)).any (·.1) || (backToKw pos (keywordEach kws X.env)).any (·.1.isNone)) = false := by rfl) :
    PE X (.Call (.Name x p) [] kws pos) (tCallK sp gV E tNil tk) := by
  refine ⟨fun pins s σ H Q I h => ?_⟩
  refine wpAny_Call_Name_kw (ld_glob I hg hm ?_ hdb)
  refine PySem.W.callWith_KW0 (h₀ := X.base) I.ok.mod.kin hk hall (thn (hkw.run pos pins s σ H _ I h) fun ws s2 ⟨zs, H2, I2, rz, q2⟩ => ⟨I2.kIn, ?_⟩) hpl
  rw [hks]
  exact run_fnk (us := []) (vs := []) F hr hb hx I2 .nil rz q2
end
section
variable {X : Cx} {CX : CXT} {k : Nat} {f C : Addr} {fd : FuncData} {ps ks : List Str} {sp : Sp} {E : L2.St → XK} {x m : Str} {p pos : Pos} {kws : List Keyword} {tk : TA} {g : List Value → List Value → List Value} {gV : List V → List V → List V}
def tCallKS (sp : Sp) (gV : List V → List V → List V) (E : L2.St → XK) (tk : TA) : TE := fun σ H Q => tk σ H fun zs H2 => sp (gV [] zs) H2 Q (E σ)
/-- f(k = v, ..) that may raise, the wish at the caller's slots -/
theorem pe_kwS0 (F : FnOk X.prog X.w X.K X.mg X.base CX k f fd ps sp) (hr : Room k X.A) (hg : Gl X x) (hm : X.mg x = some (.ref f)) (hk : PySem.W.keepIn X.K (.ref f) = true) (hb : KBinds X.K fd ps ks g gV) (hx : ∀ σ, PassesAt CX X σ (E σ))
    (hkw : PK X kws tk) (hall : (backToKw pos (keywordEach kws X.env)).all (·.1.isSome) = true := by rfl) (hks : (backToKw pos (keywordEach kws X.env)).filterMap (·.1) = ks := by rfl) (hdb : (x == ("__debug__" : Str)) = false := by decide)
    (hpl : ((backTo pos (starEach [] X.env)).any (·.1) || (backToKw pos (keywordEach kws X.env)).any (·.1.isNone)) = false := by rfl) :
    PE X (.Call (.Name x p) [] kws pos) (tCallKS sp gV E tk) := by
  refine ⟨fun pins s σ H Q I h => ?_⟩
  refine wpAny_Call_Name_kw (ld_glob I hg hm ?_ hdb)
  refine PySem.W.callWith_KW0 (h₀ := X.base) I.ok.mod.kin hk hall (thn (hkw.run pos pins s σ H _ I h) fun ws s2 ⟨zs, H2, I2, rz, q2⟩ => ⟨I2.kIn, ?_⟩) hpl
  rw [hks]
  have r2 := hb.rel (vs := []) (us := []) .nil rz
  have hl : (g [] ws).length = ps.length := by rw [← r2.length]; exact F.len _ _ _ _ q2
  refine wpAny_call (codeAny_mono (F.run X.A X.stack s2 H2 ⟨[], ks.zip ws⟩ (g [] ws) (gV [] zs) Q (E σ) hr I2.env0 (hb.to s2 [] ws I2.kIn hl) r2 q2) fun r s' hq => ?_)
  cases r with
  | error e => exact hx σ pins H2 s2 e s' I2 hq
  | ok fl =>
    cases fl with
    | ret u => exact I2.after hq
    | next => exact False.elim hq
    | brk => exact False.elim hq
    | cont => exact False.elim hq
end
section
variable {X : Cx}
/-- // by any divisor but nought, not too long -/
def CDivV (_ j : Int) : Prop := j ≠ 0 ∧ j.natAbs.log2 < 9000
theorem op_fdivV : OpR X (binaryOp .FloorDiv) (rI CDivV fun i j => .int (i.fdiv j)) := opI fun _ _ _ _ _ _ _ hc q => floordiv_int hc.1 q (.inl (PyProof.noPylong_of_log2 hc.2))
end
end L2
namespace L2
open PySem PySem.Spec PyProof.Rows
theorem passN {X : Cx} : Passes (L2N.CX X.prog X.w) X E0 := fun _ _ _ _ _ _ _ h => by
  obtain ⟨_, _, _, _, _, _, _, _, _, _, _, _, z⟩ := h
  exact z.elim
theorem passH {X : Cx} {σ : L2.St} {E : XK} : PassesAt CX0 X σ E := fun _ _ _ _ _ _ h => h.elim
theorem takesN0 {X : Cx} : L2N.Takes X (fun _ _ _ _ => False) := fun _ _ x => by
  obtain ⟨_, _, _, _, _, _, _, _, _, _, _, _, _, _, _, _, z⟩ := x
  exact z.elim
theorem hotS {X : Cx} {a : Addr} {oe : Obj} {cls : Value} {d : Option Addr} {pn : List (Addr × Obj)} (hz : L2N.Zn cls d oe) (hf : ∃ vs, oe.data = .fields vs) : L2H.HotC (X.suite a ((a, oe) :: pn)) := by
  obtain ⟨vs, e⟩ := hf
  exact ⟨(a, oe), ⟨rfl, vs, e, hz.2.2 vs e⟩, List.mem_cons_self⟩
theorem roomS {X : Cx} {k : Nat} {a : Addr} {pn : List (Addr × Obj)} (r : Room k X.A) : L2H.RoomH k (X.suite a pn).A := ⟨r.dp, r.un⟩
section
variable {P : Program} {w : World} {K : PySem.W.Frag} {mg : Str → Option Value} {base : Heap}
/-- a def that may raise, the exception's context none -/
theorem Fun.okN {x qual : Str} {st : Stmt} {f : Addr} {fd : FuncData} {N ps : List Str} {k : Nat} {sp : Sp} (F : Fun K x qual st f fd) (S : FnScope N ps (defScope st)) (len : ∀ vs H Q E, sp vs H Q E → vs.length = ps.length)
    (hbody : ∀ (cdv : Value) (A : Around) (outer : List Env) (s : Shared) (H : Hp) (vs : List V) (Q : VK) (E : XK), Room k (A.deeper (envOfC qual (defScope st) s.heap.objs.size f cdv)) → sp vs H Q E →
      ∃ t, PSs (cxOf (L2N.CX P w) P w K mg base N qual (defScope st) f cdv A outer s H E) (defBody st) t ∧ t { nx := fun _ H' => Q .non H', rt := Q } (start N vs) H) : FnOk P w K mg base (L2N.CX P w) (k + 1) f fd ps sp := by
  obtain ⟨oc, od, kV, doc, pm, an, cdv, ct, osl, rfl, lk, hcd⟩ := F.ex
  exact fn_of lk hcd S len fun A outer s H vs Q E hr hsp => hbody cdv A outer s H vs Q E hr hsp
/-- a def called where an exception is handled -/
theorem Fun.okH {CX : CXT} {x qual : Str} {st : Stmt} {f : Addr} {fd : FuncData} {N ps : List Str} {k : Nat} {sp : Sp} (F : Fun K x qual st f fd) (S : FnScope N ps (defScope st)) (len : ∀ vs H Q E, sp vs H Q E → vs.length = ps.length)
    (hbody : ∀ (cdv : Value) (A : Around) (outer : List Env) (s : Shared) (H : Hp) (vs : List V) (Q : VK) (E : XK) (p : Addr × Obj), L2H.RoomH k (A.deeper (envOfC qual (defScope st) s.heap.objs.size f cdv)) → sp vs H Q E →
      ∃ t, PSs (L2H.cxH CX P w K mg base N qual (defScope st) f cdv A outer s H E p) (defBody st) t ∧ t { nx := fun _ H' => Q .non H', rt := Q } (start N vs) H) : L2H.FnH P w K mg base CX (k + 1) f fd ps sp := by
  obtain ⟨oc, od, kV, doc, pm, an, cdv, ct, osl, rfl, lk, hcd⟩ := F.ex
  exact L2H.fn_ofH lk hcd S len fun A outer s H vs Q E p _ hr hsp => hbody cdv A outer s H vs Q E p hr hsp
end
end L2
namespace Sx
open PySem L2
abbrev St := L2.St
theorem Same.up {H H' : Hp} {a : Addr} {o : HO} (e : Same H H') (h : H a = some o) : H' a = some o := e _ _ h
/-- all but what stands at a is as it was -/
def Keep (a : Addr) (H H' : Hp) : Prop := ∀ b o, b ≠ a → H b = some o → H' b = some o
theorem Keep.up {c : Addr} {H H' : Hp} {a : Addr} {o : HO} (e : Keep c H H') (n : a ≠ c) (h : H a = some o) : H' a = some o := e _ _ n h
theorem Keep.refl (a : Addr) (H : Hp) : Keep a H H := fun _ _ _ h => h
theorem Keep.trans {a : Addr} {H H1 H2 : Hp} (e : Keep a H H1) (f : Keep a H1 H2) : Keep a H H2 := fun b o n h => f b o n (e b o n h)
theorem Keep.same {a : Addr} {H H1 : Hp} (e : Same H H1) : Keep a H H1 := fun b o _ h => e b o h
theorem Keep.put {a : Addr} {H H1 : Hp} {o : HO} (e : Keep a H H1) : Keep a H (upd H1 a o) := fun b o n h => by
  rw [upd_ne n]
  exact e b o n h
theorem Same.new {H : Hp} {p : Addr} {o : HO} (h : H p = none) : Same H (upd H p o) := fun a u e => by
  rw [upd_ne (ne_of_none e h)]
  exact e
theorem Same.put {a : Addr} {H H1 : Hp} {o : HO} (e : Same H H1) (n : H a = none) : Same H (upd H1 a o) := fun b u h => by
  rw [upd_ne (ne_of_none h n)]
  exact e b u h
/-- a keeping but at a place that was free ahead -/
theorem Keep.toSame {a : Addr} {H H1 H2 : Hp} (e : Same H H1) (n : H a = none) (f : Keep a H1 H2) : Same H H2 := fun b o h => f b o (ne_of_none h n) (e b o h)
theorem Keep.free {a b : Addr} {H H' : Hp} (e : Keep a H H') (n : b ≠ a) (h : H' b = none) : H b = none := by
  cases q : H b with
  | none => rfl
  | some o =>
    rw [e b o n q] at h
    cases h
theorem same_free {H H' : Hp} (e : Same H H') {l : Addr} (h : H' l = none) : H l = none := L2.Same.free e h
section
variable {K : PySem.W.Frag} {σ : St} {H : Hp} {Q : VK} {D : Ends} {t u : TS} {te ta tb tx : TE} {tt tu : TT} {r : R2} {x y z v w : V} {nx : St → Hp → Prop} {xs ys : List V}
theorem s_seq (h : t { D with nx := u D } σ H) : tSeq t u D σ H := h
theorem s_next (h : D.nx σ H) : tNext D σ H := h
theorem s_brk (h : D.bk σ H) : tBreak D σ H := h
theorem s_cont (h : D.ct σ H) : tCont D σ H := h
theorem s_asg {g : TG} (h : te σ H fun x H1 => g x σ H1 D.nx) : tAsg te g D σ H := h
theorem s_name {i : Nat} (h : nx (σ.set i (some v)) H) : gName i v σ H nx := h
theorem s_drop (h : te σ H fun _ H1 => D.nx σ H1) : tDrop te D σ H := h
theorem s_ret (h : te σ H D.rt) : tRet te D σ H := h
theorem s_ifS (h : tt σ H fun b H1 => if b = true then t D σ H1 else u D σ H1) : tIfS tt t u D σ H := h
theorem s_var {i : Nat} (h : σ[i]? = some (some v)) (q : Q v H) : tVar i σ H Q := ⟨v, h, q⟩
theorem s_c (q : Q v H) : tC v σ H Q := q
theorem s_op (h : ta σ H fun x H1 => tb σ H1 fun y H2 => r x y H2 Q) : tOp r ta tb σ H Q := h
theorem s_un {r : V → Hp → VK → Prop} (h : ta σ H fun x H1 => r x H1 Q) : tUn r ta σ H Q := h
variable {R : Bool → Hp → Prop}
theorem s_test (h : te σ H fun x H' => ∃ k, x = .bl k ∧ R k H') : tTest te σ H R := h
theorem s_tB (h : te σ H fun x H' => ∃ k, x = .bl k ∧ R k H') : tB te σ H R := h
theorem s_tT (h : te σ H fun x H' => ∃ k, x = .bl k ∧ R k H') : tTest te σ H R := h
theorem s_bl {k : Bool} (h : R k H) : ∃ k', V.bl k = V.bl k' ∧ R k' H := ⟨k, rfl, h⟩
theorem s_and (h : tt σ H fun c H1 => if c = true then tu σ H1 R else R false H1) : tAnd tt tu σ H R := h
theorem s_or (h : tt σ H fun c H1 => if c = true then R true H1 else tu σ H1 R) : tOr tt tu σ H R := h
theorem s_not (h : tt σ H fun c H1 => R (!c) H1) : tNot tt σ H R := h
theorem s_andV (h : ta σ H fun x H1 => ∃ c, x = .bl c ∧ if c = true then tb σ H1 Q else Q (.bl false) H1) : tAndV ta tb σ H Q := h
theorem s_orV (h : ta σ H fun x H1 => ∃ c, x = .bl c ∧ if c = true then Q (.bl true) H1 else tb σ H1 Q) : tOrV ta tb σ H Q := h
theorem s_notV (h : ta σ H fun x H1 => ∃ c, x = .bl c ∧ Q (.bl (!c)) H1) : tNotV ta σ H Q := h
theorem s_blV {k : Bool} {P : Bool → Prop} (h : P k) : ∃ k', V.bl k = V.bl k' ∧ P k' := ⟨k, rfl, h⟩
theorem s_if (h : tt σ H fun c H1 => if c = true then ta σ H1 Q else tb σ H1 Q) : tIf tt ta tb σ H Q := h
theorem s_cb {r : List V → Hp → VK → Prop} {t : TA} (h : t σ H fun vs H1 => r vs H1 Q) : tCB r t σ H Q := h
theorem s_call {sp : Sp} {dvs : List V} {E : XK} {t : TA} (h : t σ H fun vs H1 => sp (vs ++ dvs) H1 Q E) : tCall sp dvs E t σ H Q := h
theorem s_callK {sp : Sp} {gV : List V → List V → List V} {E : XK} {t tk : TA} (h : t σ H fun vs H1 => tk σ H1 fun zs H2 => sp (gV vs zs) H2 Q E) : tCallK sp gV E t tk σ H Q := h
theorem s_nil {P : List V → Hp → Prop} (h : P [] H) : tNil σ H P := h
theorem s_cons {ta : TE} {tr : TA} {P : List V → Hp → Prop} (h : ta σ H fun x H1 => tr σ H1 fun xs H2 => P (x :: xs) H2) : tCons ta tr σ H P := h
theorem s_tup {t : TA} (h : t σ H fun xs H1 => xs.length ≤ sizeLine ∧ ∀ p, H1 p = none → Q (.ref p) (upd H1 p (.tup xs))) : tTup t σ H Q := h
theorem s_lst {t : TA} (h : t σ H fun xs H1 => xs.length ≤ sizeLine ∧ ∀ p, H1 p = none → Q (.ref p) (upd H1 p (.lst xs))) : tLst t σ H Q := h
theorem new_same {H H2 : Hp} {p : Addr} {o : HO} (n : H p = none) (e : upd H p o = H2) : Same H H2 := by
  subst e
  exact Same.new n
theorem new_at {H H2 : Hp} {p : Addr} {o : HO} (e : upd H p o = H2) : H2 p = some o := by
  subst e
  exact upd_same
theorem put_keep {H H2 : Hp} {p : Addr} {o : HO} (e : upd H p o = H2) : Keep p H H2 := by
  subst e
  exact Keep.put (Keep.refl p H)
theorem c_mul_r {i j : Int} (a : -(2 ^ 64) < j) (b : j < 2 ^ 64) : CMul i j := .inr ⟨a, b⟩
theorem c_mul_l {i j : Int} (a : -(2 ^ 64) < i) (b : i < 2 ^ 64) : CMul i j := .inl ⟨a, b⟩
theorem c_div {i j : Int} (a : 0 < j) (b : j < 1073741824) : CDiv i j := ⟨a, b⟩
theorem c_pow {i j : Int} (a : 0 ≤ j) (b : j ≤ 1000000) (c : i.natAbs < 2 ^ 64) : CPow i j := ⟨a, b, c⟩
-- operators on values
theorem r_I0 {g : Int → Int → V} {i j : Int} (q : Q (g i j) H) : rI0 g (.int i) (.int j) H Q := ⟨i, j, rfl, rfl, q⟩
theorem r_I {C : Int → Int → Prop} {g : Int → Int → V} {i j : Int} (c : C i j) (q : Q (g i j) H) : rI C g (.int i) (.int j) H Q := ⟨i, j, rfl, rfl, c, q⟩
theorem r_U {g : Int → V} {i : Int} (q : Q (g i) H) : rU g (.int i) H Q := ⟨i, rfl, q⟩
theorem r_eq (h : scal x y = true) (q : Q (.bl (decide (x = y))) H) : rEq x y H Q := ⟨h, q⟩
theorem r_ne (h : scal x y = true) (q : Q (.bl (!decide (x = y))) H) : rNe x y H Q := ⟨h, q⟩
theorem v_int_eq {i j : Int} : decide (V.int i = V.int j) = decide (i = j) := by
  by_cases h : i = j
  · rw [h]; simp
  · simp [h]
theorem r_eqI {i j : Int} (q : Q (.bl (decide (i = j))) H) : rEq (.int i) (.int j) H Q := ⟨rfl, by rw [v_int_eq]; exact q⟩
theorem r_neI {i j : Int} (q : Q (.bl (!decide (i = j))) H) : rNe (.int i) (.int j) H Q := ⟨rfl, by rw [v_int_eq]; exact q⟩
theorem r_isB {a b : Bool} (q : Q (.bl (decide (a = b))) H) : rIsB (.bl a) (.bl b) H Q := ⟨a, b, rfl, rfl, q⟩
theorem r_notB {a b : Bool} (q : Q (.bl (!decide (a = b))) H) : rNotB (.bl a) (.bl b) H Q := ⟨a, b, rfl, rfl, q⟩
theorem r_ixL {p : Addr} {i : Int} (h : H p = some (.lst xs)) (a : atI xs i = some v) (q : Q v H) : rIx K (.ref p) (.int i) H Q := .inl ⟨p, xs, i, v, rfl, rfl, SqL.of h, a, q⟩
theorem r_ixT {p : Addr} {i : Int} (h : H p = some (.tup xs)) (a : atI xs i = some v) (q : Q v H) : rIx K (.ref p) (.int i) H Q := .inr (.inl ⟨p, xs, i, v, rfl, rfl, SqT.of h, a, q⟩)
def IxG : List V → Int → (V → Prop) → Prop
  | [], _, _ => False
  | a :: r, i, P => (i = 0 → P a) ∧ (i ≠ 0 → IxG r (i - 1) P)
theorem ig_cons {a : V} {r : List V} {i : Int} {P : V → Prop} (h1 : i = 0 → P a) (h2 : i ≠ 0 → IxG r (i - 1) P) : IxG (a :: r) i P := ⟨h1, h2⟩
theorem ig_nil {i : Int} {P : V → Prop} (h : False) : IxG [] i P := h
theorem IxG.get : ∀ {xs : List V} {n : Nat} {P : V → Prop}, IxG xs (n : Int) P → ∃ v, xs[n]? = some v ∧ P v
  | [], _, _, h => h.elim
  | a :: r, 0, P, h => ⟨a, rfl, h.1 rfl⟩
  | a :: r, n + 1, P, h => by
    have h2 := h.2 (by omega)
    have e : ((n + 1 : Nat) : Int) - 1 = (n : Int) := by omega
    rw [e] at h2
    obtain ⟨v, h3, h4⟩ := IxG.get h2
    exact ⟨v, by simpa using h3, h4⟩
theorem r_ixG {p : Addr} {i : Int} (h : H p = some (.lst xs)) (hi : 0 ≤ i) (q : IxG xs i fun v => Q v H) : rIx K (.ref p) (.int i) H Q := by
  obtain ⟨n, rfl⟩ := Int.eq_ofNat_of_zero_le hi
  obtain ⟨v, h1, h2⟩ := IxG.get q
  exact .inl ⟨p, xs, _, v, rfl, rfl, SqL.of h, atI_nat h1, h2⟩
theorem r_ixGT {p : Addr} {i : Int} (h : H p = some (.tup xs)) (hi : 0 ≤ i) (q : IxG xs i fun v => Q v H) : rIx K (.ref p) (.int i) H Q := by
  obtain ⟨n, rfl⟩ := Int.eq_ofNat_of_zero_le hi
  obtain ⟨v, h1, h2⟩ := IxG.get q
  exact .inr (.inl ⟨p, xs, _, v, rfl, rfl, SqT.of h, atI_nat h1, h2⟩)
theorem r_ixS {p : Addr} {i : Int} (h : SqL K H p xs) (a : atI xs i = some v) (q : Q v H) : rIx K (.ref p) (.int i) H Q := .inl ⟨p, xs, i, v, rfl, rfl, h, a, q⟩
theorem r_setL {p : Addr} {i : Int} {j : Nat} {P : Hp → Prop} (h : H p = some (.lst xs)) (a : ixN xs.length i = some j) (q : ∀ H2, Keep p H H2 → H2 p = some (.lst (xs.set j v)) → P H2) : rSetL (.ref p) (.int i) v H P := ⟨p, xs, i, j, rfl, rfl, h, a, q _ (Keep.put (Keep.refl p H)) upd_same⟩
theorem s_sub {to ti : TE} {ts : TSet} (h : to σ H fun o H1 => ti σ H1 fun i H2 => ts o i v H2 fun H3 => nx σ H3) : gSub to ti ts v σ H nx := h
theorem r_app {p : Addr} (h : H p = some (.lst xs)) (l : xs.length < sizeLine) (q : ∀ H2, Keep p H H2 → H2 p = some (.lst (xs ++ [y])) → Q .non H2) : rAppend (.ref p) [y] H Q := ⟨p, xs, y, rfl, rfl, h, l, q _ (Keep.put (Keep.refl p H)) upd_same⟩
theorem s_bm {T : String} {r : V → List V → Hp → VK → Prop} {to : TE} {t : TA} (h : to σ H fun x H1 => tyV K T x H1 ∧ t σ H1 fun xs H2 => r x xs H2 Q) : tBM K T r to t σ H Q := h
theorem ty_list {p : Addr} {P : Prop} (h : H p = some (.lst xs)) (q : P) : tyV K "list" (.ref p) H ∧ P := ⟨.inl ⟨rfl, _, SqL.of h⟩, q⟩
theorem r_gcd {a b : Int} (q : Q (.int ((Nat.gcd a.natAbs b.natAbs : Nat) : Int)) H) : rGcd [.int a, .int b] H Q := ⟨a, b, rfl, q⟩
theorem r_all {p : Addr} {bs : List Bool} (h : H p = some (.lst (bs.map V.bl))) (q : Q (.bl (bs.all id)) H) : rAll K [.ref p] H Q := ⟨p, bs, rfl, SqL.of h, q⟩
theorem i_T {c : Prop} [Decidable c] {A B : Prop} (hc : c) (h : A) : if decide c = true then A else B := by
  rw [if_pos (decide_eq_true hc)]; exact h
theorem i_F {c : Prop} [Decidable c] {A B : Prop} (hc : ¬ c) (h : B) : if decide c = true then A else B := by
  rw [if_neg (by simp [hc])]; exact h
theorem i_2 {c : Prop} [Decidable c] {A B : Prop} (h1 : c → A) (h2 : ¬ c → B) : if decide c = true then A else B := by
  by_cases h : c
  · exact i_T h (h1 h)
  · exact i_F h (h2 h)
theorem i_n2 {c : Prop} [Decidable c] {A B : Prop} (h1 : ¬ c → A) (h2 : c → B) : if (!decide c) = true then A else B := by
  by_cases h : c
  · rw [if_neg (by simp [h])]; exact h2 h
  · rw [if_pos (by simp [h])]; exact h1 h
theorem i_b2 {b : Bool} {A B : Prop} (h1 : b = true → A) (h2 : b = false → B) : if b = true then A else B := by
  cases b
  · exact iteF (h2 rfl)
  · exact iteT (h1 rfl)
theorem i_nb2 {b : Bool} {A B : Prop} (h1 : b = false → A) (h2 : b = true → B) : if (!b) = true then A else B := by
  cases b
  · exact iteT (h1 rfl)
  · exact iteF (h2 rfl)
theorem i_t {A B : Prop} (h : A) : if true = true then A else B := iteT h
theorem i_f {A B : Prop} (h : B) : if false = true then A else B := iteF h
theorem i_nt {A B : Prop} (h : B) : if (!true) = true then A else B := iteF h
theorem i_nf {A B : Prop} (h : A) : if (!false) = true then A else B := iteT h
end
end Sx

set_option Elab.async false
set_option linter.all false
set_option maxRecDepth 100000
set_option maxHeartbeats 2000000
namespace Sx
open PySem L2
/-- what a class of errors is not -/
structure ExK (K : PySem.W.Frag) (C : Addr) : Prop where
  ec : ExcC K C
  ni : PySem.W.subIn K (.ref C) (.type "int") = some false
  nb : PySem.W.subIn K (.ref C) (.type "bool") = some false
  nt : PySem.W.subIn K (.ref C) (.type "tuple") = some false
  ns : PySem.W.subIn K (.ref C) (.type "str") = some false
  nl : PySem.W.subIn K (.ref C) (.type "list") = some false
/-- a value whose kind is known; every address of it is in B -/
inductive Kn (K : PySem.W.Frag) (H : Hp) (B : Addr → Prop) : V → Prop where
  | non : Kn K H B .non
  | bl (b : Bool) : Kn K H B (.bl b)
  | int (i : Int) : Kn K H B (.int i)
  | str (s : Str) : Kn K H B (.str s)
  | lst {p : Addr} {xs : List V} (h : H p = some (.lst xs)) (b : B p) : Kn K H B (.ref p)
  | tup {p : Addr} {xs : List V} (h : H p = some (.tup xs)) (b : B p) : Kn K H B (.ref p)
  | exc {a C d : Addr} {fs : List (Str × V)} (ha : H a = some (exo a C (some d))) (hd : H d = some (.xd fs)) (e : ExK K C) (ba : B a) (bd : B d) : Kn K H B (.ref a)
theorem Kn.up {K : PySem.W.Frag} {H H' : Hp} {B B' : Addr → Prop} {v : V} (k : Kn K H B v) (hB : ∀ b, B b → B' b) (hk : ∀ b o, B b → H b = some o → H' b = some o) : Kn K H' B' v := by
  cases k with
  | non => exact .non
  | bl b => exact .bl b
  | int i => exact .int i
  | str s => exact .str s
  | lst h b => exact .lst (hk _ _ b h) (hB _ b)
  | tup h b => exact .tup (hk _ _ b h) (hB _ b)
  | exc ha hd e ba bd => exact .exc (hk _ _ ba ha) (hk _ _ bd hd) e (hB _ ba) (hB _ bd)
def isI : V → Bool | .int _ => true | _ => false
def isB : V → Bool | .bl _ => true | _ => false
def isS : V → Bool | .str _ => true | _ => false
def tO : Option HO → Bool | some (.tup _) => true | _ => false
def lO : Option HO → Bool | some (.lst _) => true | _ => false
def isT (H : Hp) : V → Bool | .ref p => tO (H p) | _ => false
def isL (H : Hp) : V → Bool | .ref p => lO (H p) | _ => false
theorem isT_of {H : Hp} {p : Addr} {o : HO} (h : H p = some o) : isT H (.ref p) = tO (some o) := by
  show tO (H p) = _
  rw [h]
theorem isL_of {H : Hp} {p : Addr} {o : HO} (h : H p = some o) : isL H (.ref p) = lO (some o) := by
  show lO (H p) = _
  rw [h]
theorem isT_inv {H : Hp} {v : V} (h : isT H v = true) : ∃ p xs, v = .ref p ∧ H p = some (.tup xs) := by
  cases v with
  | ref p =>
    have h' : tO (H p) = true := h
    cases e : H p with
    | none =>
      rw [e] at h'
      cases h'
    | some o =>
      rw [e] at h'
      cases o with
      | tup xs => exact ⟨p, xs, rfl, e⟩
      | _ => cases h'
  | _ => cases h
section
variable {K : PySem.W.Frag} {H : Hp} {B : Addr → Prop} {v : V} {Q : VK}
theorem kit_exc {C : Addr} {T : String} {b : Bool} (h : PySem.W.subIn K (.ref C) (.type T) = some b) (m : PySem.W.kitMeta T = true) : PySem.W.kitOne K (.ref C) (.type T) = some b := by
  unfold PySem.W.kitOne
  rw [if_neg (by intro z; exact nomatch z)]
  show (if PySem.W.kitMeta T = true then PySem.W.subIn K (.ref C) (.type T) else none) = some b
  rw [if_pos m, h]
theorem isi_go {T n : String} {ty : Value} {b : Bool} (k : KX K H v ty) (e : PySem.W.kitOne K ty (.type T) = some b) (q : Q (.bl b) H) : rIsiV K [v, .ty T] H Q := ⟨v, .ty T, ty, .type T, b, rfl, .ty T, k, e, q⟩
theorem c_isiI (k : Kn K H B v) (q : Q (.bl (isI v || isB v)) H) : rIsiV K [v, .ty "int"] H Q := by
  cases k with
  | non => exact ⟨_, _, _, _, false, rfl, .ty _, .inl (.base .non), kit_ty (by decide +kernel), q⟩
  | bl b => exact ⟨_, _, _, _, true, rfl, .ty _, .inl (.base (.bl b)), kit_ty (by decide +kernel), q⟩
  | int i => exact ⟨_, _, _, _, true, rfl, .ty _, .inl (.base (.int i)), kit_ty (by decide +kernel), q⟩
  | str s => exact ⟨_, _, _, _, false, rfl, .ty _, .inl (.base (.str s)), kit_ty (by decide +kernel), q⟩
  | lst h _ => exact ⟨_, _, _, _, false, rfl, .ty _, .inl (.base (.lst h)), kit_ty (by decide +kernel), q⟩
  | tup h _ => exact ⟨_, _, _, _, false, rfl, .ty _, .inl (.base (.tup h)), kit_ty (by decide +kernel), q⟩
  | exc ha hd e _ _ => exact ⟨_, _, _, _, false, rfl, .ty _, .inr ⟨_, _, _, _, rfl, rfl, ha, hd, e.ec⟩, kit_exc e.ni (by decide +kernel), q⟩
theorem c_isiB (k : Kn K H B v) (q : Q (.bl (isB v)) H) : rIsiV K [v, .ty "bool"] H Q := by
  cases k with
  | non => exact ⟨_, _, _, _, false, rfl, .ty _, .inl (.base .non), kit_ty (by decide +kernel), q⟩
  | bl b => exact ⟨_, _, _, _, true, rfl, .ty _, .inl (.base (.bl b)), kit_ty (by decide +kernel), q⟩
  | int i => exact ⟨_, _, _, _, false, rfl, .ty _, .inl (.base (.int i)), kit_ty (by decide +kernel), q⟩
  | str s => exact ⟨_, _, _, _, false, rfl, .ty _, .inl (.base (.str s)), kit_ty (by decide +kernel), q⟩
  | lst h _ => exact ⟨_, _, _, _, false, rfl, .ty _, .inl (.base (.lst h)), kit_ty (by decide +kernel), q⟩
  | tup h _ => exact ⟨_, _, _, _, false, rfl, .ty _, .inl (.base (.tup h)), kit_ty (by decide +kernel), q⟩
  | exc ha hd e _ _ => exact ⟨_, _, _, _, false, rfl, .ty _, .inr ⟨_, _, _, _, rfl, rfl, ha, hd, e.ec⟩, kit_exc e.nb (by decide +kernel), q⟩
theorem c_isiS (k : Kn K H B v) (q : Q (.bl (isS v)) H) : rIsiV K [v, .ty "str"] H Q := by
  cases k with
  | non => exact ⟨_, _, _, _, false, rfl, .ty _, .inl (.base .non), kit_ty (by decide +kernel), q⟩
  | bl b => exact ⟨_, _, _, _, false, rfl, .ty _, .inl (.base (.bl b)), kit_ty (by decide +kernel), q⟩
  | int i => exact ⟨_, _, _, _, false, rfl, .ty _, .inl (.base (.int i)), kit_ty (by decide +kernel), q⟩
  | str s => exact ⟨_, _, _, _, true, rfl, .ty _, .inl (.base (.str s)), kit_ty (by decide +kernel), q⟩
  | lst h _ => exact ⟨_, _, _, _, false, rfl, .ty _, .inl (.base (.lst h)), kit_ty (by decide +kernel), q⟩
  | tup h _ => exact ⟨_, _, _, _, false, rfl, .ty _, .inl (.base (.tup h)), kit_ty (by decide +kernel), q⟩
  | exc ha hd e _ _ => exact ⟨_, _, _, _, false, rfl, .ty _, .inr ⟨_, _, _, _, rfl, rfl, ha, hd, e.ec⟩, kit_exc e.ns (by decide +kernel), q⟩
theorem c_isiT (k : Kn K H B v) (q : Q (.bl (isT H v)) H) : rIsiV K [v, .ty "tuple"] H Q := by
  cases k with
  | non => exact ⟨_, _, _, _, false, rfl, .ty _, .inl (.base .non), kit_ty (by decide +kernel), q⟩
  | bl b => exact ⟨_, _, _, _, false, rfl, .ty _, .inl (.base (.bl b)), kit_ty (by decide +kernel), q⟩
  | int i => exact ⟨_, _, _, _, false, rfl, .ty _, .inl (.base (.int i)), kit_ty (by decide +kernel), q⟩
  | str s => exact ⟨_, _, _, _, false, rfl, .ty _, .inl (.base (.str s)), kit_ty (by decide +kernel), q⟩
  | lst h _ => exact ⟨_, _, _, _, false, rfl, .ty _, .inl (.base (.lst h)), kit_ty (by decide +kernel), by rw [isT_of h] at q; exact q⟩
  | tup h _ => exact ⟨_, _, _, _, true, rfl, .ty _, .inl (.base (.tup h)), kit_ty (by decide +kernel), by rw [isT_of h] at q; exact q⟩
  | exc ha hd e _ _ => exact ⟨_, _, _, _, false, rfl, .ty _, .inr ⟨_, _, _, _, rfl, rfl, ha, hd, e.ec⟩, kit_exc e.nt (by decide +kernel), by rw [isT_of ha] at q; exact q⟩
theorem c_isiL (k : Kn K H B v) (q : Q (.bl (isL H v)) H) : rIsiV K [v, .ty "list"] H Q := by
  cases k with
  | non => exact ⟨_, _, _, _, false, rfl, .ty _, .inl (.base .non), kit_ty (by decide +kernel), q⟩
  | bl b => exact ⟨_, _, _, _, false, rfl, .ty _, .inl (.base (.bl b)), kit_ty (by decide +kernel), q⟩
  | int i => exact ⟨_, _, _, _, false, rfl, .ty _, .inl (.base (.int i)), kit_ty (by decide +kernel), q⟩
  | str s => exact ⟨_, _, _, _, false, rfl, .ty _, .inl (.base (.str s)), kit_ty (by decide +kernel), q⟩
  | lst h _ => exact ⟨_, _, _, _, true, rfl, .ty _, .inl (.base (.lst h)), kit_ty (by decide +kernel), by rw [isL_of h] at q; exact q⟩
  | tup h _ => exact ⟨_, _, _, _, false, rfl, .ty _, .inl (.base (.tup h)), kit_ty (by decide +kernel), by rw [isL_of h] at q; exact q⟩
  | exc ha hd e _ _ => exact ⟨_, _, _, _, false, rfl, .ty _, .inr ⟨_, _, _, _, rfl, rfl, ha, hd, e.ec⟩, kit_exc e.nl (by decide +kernel), by rw [isL_of ha] at q; exact q⟩
end
/-- a stream of draws stands at a -/
def Flow (H : Hp) (a : Addr) : Prop := ∃ (c n : Int) (b : Bool) (p : Int), H a = some (.lst [.int c, .int n, .bl b, .int p])
theorem Flow.up {H H' : Hp} {a : Addr} (f : Flow H a) (k : ∀ o, H a = some o → H' a = some o) : Flow H' a := by
  obtain ⟨c, n, b, p, h⟩ := f
  exact ⟨c, n, b, p, k _ h⟩
theorem Flow.same {H H' : Hp} {a : Addr} (e : Same H H') (f : Flow H a) : Flow H' a := f.up fun o h => e _ _ h
theorem Flow.keep {H H' : Hp} {a b : Addr} (e : Keep b H H') (n : a ≠ b) (f : Flow H a) : Flow H' a := f.up fun o h => e _ _ n h
theorem Flow.at {H : Hp} {a : Addr} (f : Flow H a) : ∃ o, H a = some o := by
  obtain ⟨c, n, b, p, h⟩ := f
  exact ⟨_, h⟩
theorem Flow.ne {H : Hp} {a b : Addr} (f : Flow H a) (n : H b = none) : a ≠ b := by
  obtain ⟨o, h⟩ := f.at
  exact ne_of_none h n
end Sx
namespace Sx
open PySem L2
def Mem (K : PySem.W.Frag) (H : Hp) (B : Addr → Prop) (x : V) : Prop := Kn K H B x ∧ ∀ n, x = .int n → n.natAbs < 2 ^ 190
def Val (K : PySem.W.Frag) (H : Hp) (B : Addr → Prop) (v : V) : Prop := Kn K H B v ∧ ∀ p xs, v = .ref p → H p = some (.tup xs) → ∀ x ∈ xs, Mem K H B x
section
variable {K : PySem.W.Frag} {H H' : Hp} {B B' : Addr → Prop} {v x : V} {xs : List V} {p a d C : Addr}
theorem Mem.up (k : Mem K H B x) (hB : ∀ b, B b → B' b) (hk : ∀ b o, B b → H b = some o → H' b = some o) : Mem K H' B' x := ⟨k.1.up hB hk, k.2⟩
theorem Val.up (k : Val K H B v) (hB : ∀ b, B b → B' b) (hk : ∀ b o, B b → H b = some o → H' b = some o) : Val K H' B' v := by
  refine ⟨k.1.up hB hk, fun p xs e h x hx => ?_⟩
  subst e
  cases k.1 with
  | lst g b =>
    rw [hk _ _ b g] at h
    cases h
  | tup g b =>
    have g' := hk _ _ b g
    rw [g'] at h
    cases h
    exact (k.2 p xs rfl g x hx).up hB hk
  | exc ha hd e ba bd =>
    rw [hk _ _ ba ha] at h
    cases h
theorem mem_int {n : Int} (h1 : -100000000000000 < n) (h2 : n < 100000000000000) : Mem K H B (.int n) := ⟨.int n, fun m e => by
  cases e
  have : (100000000000000 : Nat) < 2 ^ 190 := by decide
  omega⟩
theorem mem_kn (k : Kn K H B x) (h : isI x = false) : Mem K H B x := ⟨k, fun n e => by
  subst e
  cases h⟩
theorem mems_nil : ∀ x ∈ ([] : List V), Mem K H B x := fun x h => by cases h
theorem mems_cons (h1 : Mem K H B x) (h2 : ∀ y ∈ xs, Mem K H B y) : ∀ y ∈ x :: xs, Mem K H B y := fun y h => by
  rcases List.mem_cons.mp h with rfl | h
  · exact h1
  · exact h2 y h
theorem val_tup (h : H p = some (.tup xs)) (b : B p) (m : ∀ x ∈ xs, Mem K H B x) : Val K H B (.ref p) := ⟨.tup h b, fun q ys e g => by
  cases e
  rw [h] at g
  cases g
  exact m⟩
theorem val_lst (h : H p = some (.lst xs)) (b : B p) : Val K H B (.ref p) := ⟨.lst h b, fun q ys e g => by
  cases e
  rw [h] at g
  cases g⟩
theorem val_exc {fs : List (Str × V)} (ha : H a = some (exo a C (some d))) (hd : H d = some (.xd fs)) (e : ExK K C) (ba : B a) (bd : B d) : Val K H B (.ref a) := ⟨.exc ha hd e ba bd, fun q ys z g => by
  cases z
  rw [ha] at g
  cases g⟩
theorem val_flat (k : Kn K H B v) (h : ∀ p, v ≠ .ref p) : Val K H B v := ⟨k, fun q ys e _ => absurd e (h q)⟩
theorem newx_same {H2 : Hp} {o u : HO} (na : H a = none) (nd : H d = none) (e : upd (upd H d u) a o = H2) : Same H H2 := by
  subst e
  intro b z h
  rw [upd_ne (ne_of_none h na), upd_ne (ne_of_none h nd)]
  exact h
theorem newx_at {H2 : Hp} {o u : HO} (e : upd (upd H d u) a o = H2) : H2 a = some o := by
  subst e
  exact upd_same
theorem newx_d {H2 : Hp} {o u : HO} (n : d ≠ a) (e : upd (upd H d u) a o = H2) : H2 d = some u := by
  subst e
  rw [upd_ne n]
  exact upd_same
theorem s_exv {σ : St} {Q : VK} {f : Str} {ta : TA} (h : ta σ H fun vs H1 => ∃ v, vs = [v] ∧ ∀ a d, H1 a = none → H1 d = none → d ≠ a → Q (.ref a) (upd (upd H1 d (.xd [(f, v)])) a (exo a C (some d)))) : tExV C f ta σ H Q := h
end
end Sx

set_option Elab.async false
set_option linter.all false
set_option maxRecDepth 100000
set_option maxHeartbeats 2000000
/-! a dict comprehension whose dict may have tuples as keys -/
namespace L2
open PySem PySem.Spec PyProof.Rows
section
variable {X : Cx} {pins : List (Addr × Obj)} {σ : St} {H H' : Hp} {s : Shared} {E : Value → Shared → Prop} {D : Addr} {y v : V} {yv r : Value} {Q : Unit → Shared → Prop}
/-- the store of a comprehension, keys of both kinds -/
theorem dcp_put (hu : X.A.units < cLine) (I : Inv X pins σ H s) (g : DPut H D y v H') (ry : RelV y yv) (rv : RelV v r) (h : ∀ s', Inv X pins σ H' s' → Q () s') :
    wpAny (model X.prog X.w) X.A (dictSet D yv r) Q E s := by
  rcases g with ⟨kvs, k, eD, rfl, lz, rfl⟩ | ⟨kvs, k, b, eD, rfl, eb, lz, rfl⟩
  · exact d_dictSet I eD lz ry rv h
  · obtain rfl : yv = Value.ref b := ry
    obtain ⟨z1, ns, xs, rl, ok⟩ := dt_of I.hok eD
    have l1 : (putK kvs k v).length ≤ sizeLine := Nat.le_trans (length_putK kvs k v) lz
    have l2 : xs.length ≤ sizeLine := by
      rw [← rl.length]
      exact z1
    refine wpAny_dictSet_heap (hsz := l2) (knd := tupleKind (mixKind X.prog X.w)) hu (key_of I.hok eb) ok fun hh ⟨q, es, ep, k1, k2, k3, k4, _, k5⟩ sb => h _ (d_write I (by rw [eD]; trivial) sb ⟨q, k1⟩ ?_)
    exact ⟨l1, ns, _, (rl.put k eb rv).keeps fun c ys ec => (upd_ne (ne_of ec eD fun e => nomatch e)).trans ec, q, es, ep, k1, k2, k3, k4, k5⟩
end
section
variable {X : Cx}
/-- {k: v for target in iter if ..}: u0 says which keys are coming -/
def tDcP (u0 : HO) (wi : TI) (g : TG) (tt : TT) (tk tv : TE) (vs : List Nat) : TE := fun σ H Q => wi σ H fun J H1 => ∀ D, H1 D = none →
  ∃ W : Nat → Nat → Hp → Prop, (∃ m, W 0 m (upd H1 D u0)) ∧ ∀ i m H2, W i m H2 → (J.stop i H2 ∧ Q (.ref D) H2) ∨
    (J.go i H2 ∧ ∃ Nx : Hp → Prop, (∀ H', Nx H' → ∃ m', m' < m ∧ W (i + 1) m' H') ∧ ∀ x H3, J.yld i H2 x H3 → g x (wipe σ vs) H3 fun σ2 H4 => wipe σ2 vs = wipe σ vs ∧ tt σ2 H4 fun b H5 =>
      if b = true then tk σ2 H5 fun y H6 => tv σ2 H6 fun z H7 => ∃ H8, DPut H7 D y z H8 ∧ Nx H8 else Nx H5)
/-- the two beginnings -/
def Dc0 (u0 : HO) : Prop := u0 = .dK [] ∨ u0 = .dT []
theorem Dc0.new {u0 : HO} (z : Dc0 u0) {P : Program} {w : World} {H : Hp} (h : Heap) (hb : sysModules < h.objs.size) : ObjOk P w H (h.push { cls := .type "dict", data := .dict #[] }) h.objs.size u0 := by
  rcases z with rfl | rfl
  · exact dk_empty h hb
  · exact dt_empty h hb

/-- what a comprehension's parts answer, whatever block they stand in -/
structure DcParts (X : Cx) (scope : Scope) (tg kx vx : Expr) (ifs : List Expr) (g : TG) (tt : TT) (tk tv : TE) : Prop where
  tgt : ∀ (s : Shared) (H : Hp) (C : Addr) (cl : List (Str × Addr)) (fp : List Addr), PG (X.blk s H scope (compEnvC scope cl C X.env) fp) tg g
  tst : ∀ (s : Shared) (H : Hp) (C : Addr) (cl : List (Str × Addr)) (fp : List Addr), PTs (X.blk s H scope (compEnvC scope cl C X.env) fp) ifs tt
  key : ∀ (s : Shared) (H : Hp) (C : Addr) (cl : List (Str × Addr)) (fp : List Addr), PE (X.blk s H scope (compEnvC scope cl C X.env) fp) kx tk
  val : ∀ (s : Shared) (H : Hp) (C : Addr) (cl : List (Str × Addr)) (fp : List Addr), PE (X.blk s H scope (compEnvC scope cl C X.env) fp) vx tv
/-- a dict comprehension, its value used as use says -/
theorem dcp_core {pins : List (Addr × Obj)} {s : Shared} {σ : St} {H : Hp} {Q : VK} {u0 : HO} {kx vx tg iter : Expr} {ifs : List Expr} {scope : Scope} {own : List (Str × Nat)} {pos pos' : Pos} {wi : TI} {g : TG} {tt : TT} {tk tv : TE} {use : Option (Value → Sem Unit)} {Qf : Value → Shared → Prop} (z0 : Dc0 u0) (hu : X.A.units < cLine) (hc : X.calm = true) (hN : X.N.Nodup)
    (I : Inv X pins σ H s) (hi : PI X tg iter wi) (ok : BlkOk X.N X.env.scope scope own) (parts : DcParts X scope tg kx vx ifs g tt tk tv) (hs : ∀ x, foldedSetIterable iter X.env x = pure x) (want : tDcP u0 wi g tt tk tv (own.map (·.2)) σ H Q)
    (ends : ∀ D C s' m H', Inv X pins σ H' s' → Q (.ref D) H' → s'.heap.Ns C m → FpOk X pins H' C → compPost (model X.prog X.w) X.A X.xe use Qf (.ref D) C (.ok .next) s') :
    wpAny (model X.prog X.w) X.A (comprehension (.DictComp kx vx [⟨tg, iter, ifs, 0⟩] scope pos) scope X.env pos' newDict false (eval iter X.env) use) Qf X.xe s := by
  have cells : ∀ y ∈ scope.names, y.2 = .free → ∃ c, X.env.cells.lookup y.1 = some c := fun y hy e =>
    (ok.free y hy e).elim (fun k => I.ok.has _ (.inl k)) fun k => I.ok.has _ (.inr k)
  refine wpAny_comprehension_free (use := use) rfl hs (closure_ok cells) ok.kind (fun y hy e => (ok.uniq y hy).trans (by rw [e])) ?_
  refine thn (hi.run pins s σ H _ I want) fun xv s1 hx => thn hx fun itv s2 ⟨it, fp, tn, J, H2, e, I2, T, st2, f2, rest⟩ => ?_
  subst e
  refine wpAny_newObj_type (newEnv_comp ?_)
  obtain ⟨D, hD⟩ : ∃ D, D = s2.heap.objs.size := ⟨_, rfl⟩
  rw [← hD]
  obtain ⟨W, ⟨m0, start⟩, turns⟩ := rest D (I2.hok.fresh (Nat.le_of_eq hD.symm))
  -- behind the making of the dict
  obtain ⟨s3, hs3⟩ : ∃ s3 : Shared, s3 = { s2 with heap := s2.heap.push { cls := .type "dict", data := .dict #[] } } := ⟨_, rfl⟩
  have heap3 : s3.heap = s2.heap.push { cls := .type "dict", data := .dict #[] } := by rw [hs3]
  have grows : ∀ b o, s2.heap.get? b = some o → s3.heap.get? b = some o := fun b o e => by
    rw [heap3]
    exact Heap.get?_push_of_some _ e
  have I3 : Inv X pins σ (upd H2 D u0) s3 := by
    rw [hs3]
    refine I2.laid (t' := s2.toks) (fun b o e => Heap.get?_push_of_some _ e) (Nat.le_of_eq hD.symm) ?_
    rw [hD]
    exact z0.new s2.heap I2.big
  have lows : ∀ b ∈ fp, b < s2.heap.objs.size := fun b hb => (T.obj _ _ st2 b hb).elim fun o h => Heap.lt_size h.1
  have frees : ∀ b ∈ fp, FpOk X pins (upd H2 D u0) b ∧ b < s3.heap.objs.size := fun b hb => by
    have l := lows b hb
    have n : b ≠ D := fun e => Nat.lt_irrefl _ (by rw [e, hD] at l; exact l)
    refine ⟨⟨by rw [upd_ne n]; exact (f2 b hb).1, (f2 b hb).2⟩, ?_⟩
    rw [heap3, Heap.size_push]
    exact Nat.lt_succ_of_lt l
  have st3 : tn 0 s3.heap := T.keep _ _ _ st2 fun b _ o e => grows b o e
  obtain ⟨C, hC⟩ : ∃ C, C = s3.heap.objs.size := ⟨_, rfl⟩
  obtain ⟨cl, hcl⟩ : ∃ cl, cl = cellsFrom (C + 1) scope.names (cloFrom X.env.cells scope.names []) := ⟨_, rfl⟩
  obtain ⟨H3, hH3⟩ : ∃ H3, H3 = upd H2 D u0 := ⟨_, rfl⟩
  have I4 := block_start I3 ok hN frees
  rw [← hC, ← hcl, ← hH3] at I4
  rw [← hH3] at I3 frees start
  have pg := parts.tgt s3 H3 C cl fp
  have pt := parts.tst s3 H3 C cl fp
  have pk := parts.key s3 H3 C cl fp
  have pv := parts.val s3 H3 C cl fp
  rw [← hs3, ← hC, ← hcl]
  obtain ⟨ce, hce⟩ : ∃ ce, ce = compEnvC scope cl C X.env := ⟨_, rfl⟩
  have locals : ce.locals = C := by rw [hce]; rfl
  rw [← hce] at I4 pg pt pk pv
  show codeAny _ _ (.compStart (.DictComp kx vx [⟨tg, iter, ifs, 0⟩] scope pos) 0 (.ref it) (.ref D) (compEnvC scope cl C X.env)) (compPost (model X.prog X.w) X.A X.xe use Qf (.ref D) C) { s3 with heap := pushCells (s3.heap.push { cls := .type "dict", data := .dict #[] }) scope.names }
  rw [← hce]
  obtain ⟨s4, hs4⟩ : ∃ s4 : Shared, s4 = { s3 with heap := pushCells (s3.heap.push { cls := .type "dict", data := .dict #[] }) scope.names } := ⟨_, rfl⟩
  rw [← hs4] at I4 ⊢
  have st4 : tn 0 s4.heap := T.keep _ _ _ st3 fun b _ o e => by
    rw [hs4]
    exact pushCells_keeps _ _ _ _ (Heap.get?_push_of_some _ e)
  -- what the walk reads stays what it was
  have still : ∀ {τ : St} {H' : Hp} {s' : Shared}, Inv (X.blk s3 H3 scope ce fp) [] τ H' s' → (∀ b ∈ fp, H' b = none) → ∀ b ∈ fp, FpOk (X.blk s3 H3 scope ce fp) [] H' b := by
    exact fun I' no b hb => ⟨no b hb, (I'.ok.exf b hb).1, I'.ok.exfs b hb, .inl hb, fun x c e => (I'.ok.exf b hb).2 x c e, fun p hp => absurd (show p ∈ ([] : List (Addr × Obj)) ++ [] from hp) (by simp)⟩
  -- behind the block
  have back : ∀ {τ : St} {H' : Hp} {s' : Shared}, Inv (X.blk s3 H3 scope ce fp) [] τ H' s' → Inv X pins σ H' s' ∧ (∃ m, s'.heap.Ns C m) ∧ FpOk X pins H' C := by
    intro τ H' s' I'
    have n : H' C = none := by rw [← locals]; exact I'.free
    obtain ⟨m, ns, _⟩ := I'.loc
    refine ⟨I3.call' (ch := fp) I'.os I'.base I'.hok I'.bare fun b hb => ⟨(frees b hb).1.2.2.2.1, (frees b hb).1.2.1, (frees b hb).1.2.2.2.2.1, (frees b hb).1.2.2.2.2.2⟩, ⟨m, ?_⟩, I3.fpOk (Nat.le_of_eq hC.symm) n⟩
    rw [← locals]
    exact ns
  have loop : codeAny (model X.prog X.w) X.A (.compLoop (.DictComp kx vx [⟨tg, iter, ifs, 0⟩] scope pos) 0 (.ref it) (.ref D) ce) (compPost (model X.prog X.w) X.A X.xe use Qf (.ref D) C) s4 := by
    refine compLoop_anyD (fun n s' => ∃ i H', W i n H' ∧ tn i s'.heap ∧ (∀ b ∈ fp, H' b = none) ∧ Inv (X.blk s3 H3 scope ce fp) [] (wipe σ (own.map (·.2))) H' s') ?_ m0 ⟨0, H3, start, st4, fun b hb => (frees b hb).1.1, I4⟩
    rintro n s5 ⟨i, H5, w5, st5, n5, I5⟩
    rcases turns i n H5 w5 with ⟨halt, won⟩ | ⟨go, Nx, next, turn⟩
    · refine thnF (T.done (X.blk s3 H3 scope ce fp) rfl rfl rfl hc i [] s5 _ H5 (fun _ _ => False) I5 (still I5 n5) st5 halt) fun r s6 ⟨hr, I6⟩ => ?_
      subst hr
      obtain ⟨J6, ⟨m, ns⟩, f6⟩ := back I6
      exact ends D C s6 m H5 J6 won ns f6
    · refine thnF (T.item (X.blk s3 H3 scope ce fp) rfl rfl rfl hc i [] s5 _ H5 (fun _ _ => False) I5 (still I5 n5) st5 go) fun r s6 ⟨u, hr, h6⟩ => ?_
      subst hr
      refine thnF h6 fun _ s7 ⟨x, H7, I7, r7, y7, st7, n7⟩ => ?_
      obtain ⟨pl, hpl⟩ : ∃ pl, pl = pinsAt fp s7.heap := ⟨_, rfl⟩
      have P7 : Inv (X.blk s3 H3 scope ce fp) ([] ++ pl) (wipe σ (own.map (·.2))) H7 s7 := by
        rw [hpl]
        exact I7.pinned (still I7 n7) (T.obj _ _ st7)
      -- a turn that is over
      have over : ∀ {τ : St} {s' : Shared} {H' : Hp}, wipe τ (own.map (·.2)) = wipe σ (own.map (·.2)) → Inv (X.blk s3 H3 scope ce fp) ([] ++ pl) τ H' s' → Nx H' →
          ∃ m, m < n ∧ ∃ i H', W i m H' ∧ tn i s'.heap ∧ (∀ b ∈ fp, H' b = none) ∧ Inv (X.blk s3 H3 scope ce fp) [] (wipe σ (own.map (·.2))) H' s' := by
        intro τ s' H' same I' nx
        obtain ⟨m', lt, w'⟩ := next H' nx
        have there : ∀ b ∈ fp, ∀ o, s7.heap.get? b = some o → s'.heap.get? b = some o ∧ H' b = none := fun b hb o e => by
          have z := I'.pin (b, o) (List.mem_append_right _ (List.mem_append_right _ (by rw [hpl]; exact mem_pinsAt hb e)))
          exact ⟨z.1, z.2.1⟩
        refine ⟨m', lt, i + 1, H', w', T.keep _ _ _ st7 fun b hb o e => (there b hb o e).1, fun b hb => (T.obj _ _ st7 b hb).elim fun o h => (there b hb o h.1).2, ?_⟩
        refine (I'.unpinned (pins := [])).weak (by rw [← same, wipe_length]) fun j v e => ?_
        rw [← same] at e
        exact (wipe_some e).1
      refine thnF (pg.run _ s7 _ H7 x u _ P7 r7 (turn x H7 y7)) fun _ s8 ⟨τ, H8, I8, same, q8⟩ => ?_
      refine thnF (pt.run _ s8 τ H8 _ I8 q8) fun b s9 ⟨H9, I9, q9⟩ => ?_
      cases b with
      | true =>
        refine thnF (pk.run _ s9 τ H9 _ I9 q9) fun ku s10 ⟨y, H10, I10, r10, q10⟩ => ?_
        refine thnF (pv.run _ s10 τ H10 _ I10 q10) fun vu s11 ⟨v, H11, I11, r11, H12, put, nx⟩ => ?_
        exact dcp_put (X := X.blk s3 H3 scope ce fp) hu I11 put r10 r11 fun s12 I12 => over same I12 nx
      | false => exact over same I9 q9
  exact codeAny_compStart_dict loop (T.self X.A 0 _ _ _ st4 loop)
/-- the value of a dict comprehension over any walk -/
theorem pe_dcP {u0 : HO} {kx vx tg iter : Expr} {ifs : List Expr} {scope : Scope} {own : List (Str × Nat)} {pos : Pos} {wi : TI} {g : TG} {tt : TT} {tk tv : TE} (z0 : Dc0 u0) (hu : X.A.units < cLine) (hc : X.calm = true) (hN : X.N.Nodup)
    (hi : PI X tg iter wi) (ok : BlkOk X.N X.env.scope scope own) (parts : DcParts X scope tg kx vx ifs g tt tk tv) (hs : ∀ x, foldedSetIterable iter X.env x = pure x := by intro _; rfl) :
    PE X (.DictComp kx vx [⟨tg, iter, ifs, 0⟩] scope pos) (tDcP u0 wi g tt tk tv (own.map (·.2))) := by
  refine ⟨fun pins s σ H Q I want => ?_⟩
  rw [arm_eval_DictComp]
  refine dcp_core z0 hu hc hN I hi ok parts hs want fun D C s' m H' I' q ns f => ⟨m, ns, fun h'' sb => ?_⟩
  obtain ⟨q0, q1, _, q3, q4, q5⟩ := f
  exact ⟨.ref D, H', I'.turned (t' := s'.toks) (fun b o hb e => (sb.2 b hb).trans e) q0 q1 q3 q4 q5, rfl, q⟩
theorem swd_true {kx vx : Expr} {gs : List Comprehension} {scope : Scope} {pos py : Pos} {y : Str} {l : Nat} {env : Env} (hk : env.scope.kind = .function) (hy : env.scope.names.lookup y = some .local) (hl : (py.line == pos.line) = true)
    (ha : (scope.names.any fun (n, k) => n == y && (k == .local || k == .cell)) = false) : swapsWith (.DictComp kx vx gs scope pos) (some (.Name y py)) l env = pure true := by
  have b1 : env.kindOf y = some .local := hy
  have b2 : env.blockKind = .function := by (unfold Env.blockKind; rw [hk]; rfl)
  (unfold swapsWith; simp only [b2, b1, ha, Expr.pos, hl]; rfl)
/-- name = {..} on one line, the name a local -/
theorem ps_setDc {i : Nat} {y : Str} {py : Pos} {u0 : HO} {kx vx tg iter : Expr} {ifs : List Expr} {scope : Scope} {own : List (Str × Nat)} {pos spos : Pos} {wi : TI} {g : TG} {tt : TT} {tk tv : TE} (z0 : Dc0 u0) (hu : X.A.units < cLine) (hc : X.calm = true) (hN : X.N.Nodup) (hy : X.N[i]? = some y) (hyl : X.env.scope.names.lookup y = some .local)
    (hsw : swapsWith (.DictComp kx vx [⟨tg, iter, ifs, 0⟩] scope pos) (some (.Name y py)) spos.line X.env = pure true) (hi : PI X tg iter wi) (ok : BlkOk X.N X.env.scope scope own) (parts : DcParts X scope tg kx vx ifs g tt tk tv) (hs : ∀ x, foldedSetIterable iter X.env x = pure x := by intro _; rfl) :
    PS X (.Assign [.Name y py] (.DictComp kx vx [⟨tg, iter, ifs, 0⟩] scope pos) spos) (tAsg (tDcP u0 wi g tt tk tv (own.map (·.2))) (gName i)) := by
  refine ⟨fun pins s σ H D I want => ?_⟩
  rw [exec_Assign_Name_used _ _ _ _ hsw]
  refine wpAny_bind (wpAny_standAt (wpAny_bind (m := evalThenUse _ _ _) ?_))
  show wpAny _ X.A (do let _ ← comprehension (.DictComp kx vx [⟨tg, iter, ifs, 0⟩] scope pos) scope X.env (firstIterPos [⟨tg, iter, ifs, 0⟩] pos) newDict false (eval iter X.env) (some (assign (.Name y py) X.env))) _ _ s
  have want' : tDcP u0 wi g tt tk tv (own.map (·.2)) σ H (fun x H1 => gName i x σ H1 D.nx) := want
  refine wpAny_bind (thn (dcp_core (Qf := fun _ s' => SP X pins D .next s') z0 hu hc hN I hi ok parts hs want' fun L C s' m H' I' q hn f => ?_) fun _ s' hq => wpAny_pure (wpAny_pure hq))
  obtain ⟨f0, f1, f2, f3, f4, f5⟩ := f
  refine wpAny_assign_Name (store_ok2 (v := V.ref L) I' hN hy (.inl hyl) rfl (fun s2 I2 ⟨a, sb, ha⟩ => ⟨m, hn.sameBut sb ?_, fun h3 sb3 => ⟨_, H', I2.turned (t' := s2.toks) (fun b o hb e => (sb3.2 b hb).trans e) f0 f1 f3 f4 f5, q⟩⟩) (.inr hyl))
  exact ha.elim (fun z => by rw [z]; exact f1) fun z e => f4 y a z e.symm
/-- over a tuple that stays: n turns, Pv i what is so behind i of them -/
theorem dcp_tup {K : PySem.W.Frag} {u0 : HO} {a : Addr} {xs : List V} {g : TG} {tt : TT} {tk tv : TE} {vs : List Nat} {σ : St} {H1 : Hp} {D : Addr} {Qd : Hp → Prop} (Pv : Nat → Hp → Prop) (first : Pv 0 (upd H1 D u0)) (stays : ∀ i H, i ≤ xs.length → Pv i H → SqT K H a xs)
    (each : ∀ i x H, xs[i]? = some x → Pv i H → g x (wipe σ vs) H fun σ2 H4 => wipe σ2 vs = wipe σ vs ∧ tt σ2 H4 fun b H5 =>
      if b = true then tk σ2 H5 fun y H6 => tv σ2 H6 fun z H7 => ∃ H8, DPut H7 D y z H8 ∧ Pv (i + 1) H8 else Pv (i + 1) H5) (last : ∀ H, Pv xs.length H → Qd H) :
    ∃ W : Nat → Nat → Hp → Prop, (∃ m, W 0 m (upd H1 D u0)) ∧ ∀ i m H2, W i m H2 → ((Itt K a).stop i H2 ∧ Qd H2) ∨
      ((Itt K a).go i H2 ∧ ∃ Nx : Hp → Prop, (∀ H', Nx H' → ∃ m', m' < m ∧ W (i + 1) m' H') ∧ ∀ x H3, (Itt K a).yld i H2 x H3 → g x (wipe σ vs) H3 fun σ2 H4 => wipe σ2 vs = wipe σ vs ∧ tt σ2 H4 fun b H5 =>
        if b = true then tk σ2 H5 fun y H6 => tv σ2 H6 fun z H7 => ∃ H8, DPut H7 D y z H8 ∧ Nx H8 else Nx H5) := by
  refine ⟨fun i m H => i + m = xs.length ∧ Pv i H, ⟨xs.length, Nat.zero_add _, first⟩, ?_⟩
  rintro i m H ⟨e, p⟩
  have sq := stays i H (by omega) p
  cases m with
  | zero =>
    obtain rfl : i = xs.length := by omega
    exact .inl ⟨⟨xs, sq, Nat.le_refl _⟩, last H p⟩
  | succ m =>
    have lt : i < xs.length := by omega
    refine .inr ⟨⟨xs, xs[i], sq, by simp [lt]⟩, Pv (i + 1), fun H' p' => ⟨m, Nat.lt_succ_self m, by omega, p'⟩, fun x H' ⟨e', y⟩ => ?_⟩
    subst e'
    exact each i x _ (y xs sq) p
end
end L2

set_option Elab.async false
set_option linter.all false
set_option maxRecDepth 100000
set_option maxHeartbeats 3200000
/-! set(v) of a list or a tuple, the loop's promise left open -/
namespace L2
open PySem PySem.Spec PyProof.Rows
section
variable {P : Program} {w : World} {A : Around} {E : Value → Shared → Prop} {s : Shared}
/-- the set that a call makes first -/
abbrev setNew (w : World) : Obj := { cls := .type "set", dict := none, data := .set #[] 0 (.fresh 0 0 (!w.params.followText "set-order")) }
/-- a built-in kind that set() walks -/
structure SeqTy (T : String) : Prop where
  noSet : isSubtype (.type T) (.type "set") = pure false
  noFrozen : isSubtype (.type T) (.type "frozenset") = pure false
  noDict : (Value.type T == Value.type "dict") = false
theorem seqTy_list : SeqTy "list" := ⟨F.sub_list_set, F.sub_list_frozenset, by decide⟩
theorem seqTy_tuple : SeqTy "tuple" := ⟨F.sub_tuple_set, F.sub_tuple_frozenset, by decide⟩
/-- what is asked of the walk that fills the set at S: R is what it leaves -/
def Fills (P : Program) (w : World) (A : Around) (E : Value → Shared → Prop) (S l : Addr) (R : Shared → Prop) (s : Shared) : Prop :=
  wpAny (model P w) A (pyIter (.ref l)) (fun it s2 => codeAny (model P w) A (.builtin "set.update.loop" ⟨[.ref S, it], []⟩) (wants (fun r s3 => r = .none ∧ R s3) E) s2) E s
theorem init_seq {T : String} {S l : Addr} {o : Obj} {R : Shared → Prop} (ty : SeqTy T) (hS : s.heap.get? S = some (setNew w)) (hl : s.heap.get? l = some o) (hT : o.cls = .type T) (fill : Fills P w A E S l R s) :
    wpAny (model P w) A (Builtin.«set.__init__» ⟨[.ref S, .ref l], []⟩) (fun r s2 => r = .done (.ret .none) ∧ R s2) E s := by
  obtain ⟨c, dd, da, sl⟩ := o
  obtain rfl : c = Value.type T := hT
  have q1 := ty.noSet
  have q2 := ty.noFrozen
  have q3 := ty.noDict
  unfold Builtin.«set.__init__» noKeywords Builtin.Frozenset.updateFrom
  unfold Fills at fill
  generalize pyIter = PI at *
  wp_walk
  refine wpAny_mono fill (fun it s2 h2 => ?_) fun _ _ z => z
  refine wpAny_bind (wpAny_runValue (codeAny_mono h2 fun r s3 h3 => ?_))
  cases r with
  | error e => exact h3
  | ok fl =>
    cases fl with
    | ret u => exact wpAny_pure (wpAny_pure ⟨rfl, h3.2⟩)
    | _ => exact h3.elim
/-- set(v): the walk is asked where it stands -/
theorem call_set_seq {T : String} {l : Addr} {o : Obj} {R : Shared → Prop} {Q : Value → Shared → Prop} (ty : SeqTy T) (hl : s.heap.get? l = some o) (hT : o.cls = .type T)
    (fill : Fills P w A.in1.in1 E s.heap.objs.size l R { s with heap := s.heap.push (setNew w) }) (won : ∀ s', R s' → Q (.ref s.heap.objs.size) s') : wpAny (model P w) A (call (.type "set") [.ref l]) Q E s := by
  obtain ⟨c, tl, hmro⟩ := F.called_set.mro
  have a1 := F.called_set.made
  have a2 := F.called_set.sub
  have a3 := F.called_set.notType
  have a4 := F.called_set.canCreate
  have a5 := F.typeCall_set_1 (.ref l)
  refine wpAny_call (codeAny_of_tree ?_)
  show wpAny _ _ (callAny (.type "set") ⟨[.ref l], []⟩) _ _ s
  refine wpAny_pure ⟨Code.quiet_builtin _ (by decide +kernel), codeAny_builtin F.entry_type_call ?_⟩
  rw [Around.under_plain (weight_type_call_type "set" [.ref l] []) rfl]
  repeat (any_goals (first | assumption | wp_step))
  -- the new set
  refine codeAny_mono (code_set_led1 (.ref l) (E := E) (Q₁ := fun v s1 => v = .ref s.heap.objs.size ∧ s1 = { s with heap := s.heap.push (setNew w) }) ⟨rfl, rfl⟩) fun r s1 hr => ?_
  cases r with
  | error e => exact hr
  | ok fl =>
    cases fl with
    | ret v =>
      obtain ⟨rfl, rfl⟩ := hr
      have at0 : (s.heap.push (setNew w)).get? s.heap.objs.size = some (setNew w) := Heap.get?_push_size _ rfl
      have atl : (s.heap.push (setNew w)).get? l = some o := Heap.get?_push_of_some _ hl
      have hty : Shared.TypeIs { s with heap := s.heap.push (setNew w) } (.ref s.heap.objs.size) "set" := ⟨_, at0, rfl⟩
      have b1 := F.called_set.init.lookup
      have b2 := F.called_set.init.bind (.ref s.heap.objs.size)
      repeat (any_goals (first | assumption | wp_step))
      refine codeAny_mono (codeAny_call_builtin (R := wants (fun r s2 => r = .none ∧ R s2) E) F.called_set.init.plain F.entry_set_init (check_set_init_1 hty ?_)) fun r2 s2 hr2 => ?_
      · refine wpAny_mono (init_seq ty at0 atl hT fill) (fun fin s3 h3 => ?_) fun _ _ z => z
        obtain ⟨rfl, h3⟩ := h3
        exact ⟨rfl, h3⟩
      · cases r2 with
        | error e => exact hr2
        | ok fl2 =>
          cases fl2 with
          | ret u =>
            obtain ⟨rfl, h3⟩ := hr2
            have q := won s2 h3
            repeat (any_goals (first | assumption | wp_step))
          | _ => exact hr2.elim
    | _ => exact hr.elim

/-- set(t), t a tuple of tuples of ints -/
theorem call_set_ofT {l : Addr} {items : Array Value} (ks : List (Addr × List Int)) {Q : Value → Shared → Prop} (hh : A.handled = none) (hl : s.heap.IsTuple l items) (same : items.toList = ks.map fun p => Value.ref p.1)
    (keys : ∀ p ∈ ks, IsT P w s.heap p.2 p.1) (few : ks.length < 64) (hu : A.units + 3 < cLine)
    (won : ∀ (h' : Heap) (tk : Nat) L es ep t, (∀ b o, s.heap.get? b = some o → h'.get? b = some o) → Got ks ks.length L → SetTR P w h' s.heap.objs.size L es ep t → Q (.ref s.heap.objs.size) { s with heap := h', toks := tk }) :
    wpAny (model P w) A (call (.type "set") [.ref l]) Q E s := by
  have len : items.size = ks.length := by rw [← Array.length_toList, same, List.length_map]
  obtain ⟨o, ho, oc, n, od⟩ := id hl
  have lt : l < s.heap.objs.size := Heap.lt_size ho
  have nobody : ∀ b, s.heap.objs.size ≤ b → s.heap.get? b = none := fun b hb => Classical.byContradiction fun h => by
    obtain ⟨u, hu⟩ := Option.ne_none_iff_exists'.mp h
    exact Nat.lt_irrefl _ (Nat.lt_of_le_of_lt hb (Heap.lt_size hu))
  refine call_set_seq (R := fun s' => ∃ (h' : Heap) (tk : Nat), s' = { s with heap := h', toks := tk } ∧ ∃ L es ep t, (∀ b o, s.heap.get? b = some o → h'.get? b = some o) ∧ Got ks ks.length L ∧ SetTR P w h' s.heap.objs.size L es ep t)
    seqTy_tuple ho oc ?_ fun s' ⟨h', tk, e, L, es, ep, t, q1, q2, q3⟩ => by rw [e]; exact won h' tk L es ep t q1 q2 q3
  have l1 : (s.heap.push (setNew w)).IsTuple l items := hl.at fun u e => Heap.get?_push_of_some _ e
  have sz : (s.heap.push (setNew w)).objs.size = s.heap.objs.size + 1 := Heap.size_push ..
  refine wpAny_pyIter_tuple l1 ?_
  have apart : l ≠ (s.heap.push (setNew w)).objs.size := by
    rw [sz]
    exact Nat.ne_of_lt (Nat.lt_succ_of_lt lt)
  have hA : A.in1.in1.in1.handled = none := by simp [hh]
  refine set_update_tups (A := A.in1.in1) (Walks.tuple hA _ l apart items).toS s.heap.objs.size ?_ ks len few (fun i v hv => ?_) s.heap keys (nobody _ (Nat.le_refl _)) (fun b hb => ?_) hu items.size 0 _ rfl (Nat.zero_le _)
    ⟨⟨_, Heap.get?_push_size _ rfl, rfl, rfl⟩, l1.at fun u e => Heap.get?_push_of_some _ e⟩ (fun b u e => Heap.get?_push_of_some _ (Heap.get?_push_of_some _ e)) ?_ ?_
  · rw [sz]
    simp only [List.mem_cons, List.not_mem_nil, or_false, not_or]
    exact ⟨Nat.ne_of_lt (Nat.lt_succ_self _), Nat.ne_of_gt lt⟩
  · have z : (ks.map fun p => Value.ref p.1)[i]? = some v := by rw [← same, Array.getElem?_toList]; exact hv
    rw [List.getElem?_map] at z
    obtain ⟨p, e1, e2⟩ := Option.map_eq_some_iff.mp z
    exact ⟨p, e1, e2.symm⟩
  · rw [List.mem_singleton.mp hb, sz]
    exact nobody _ (Nat.le_succ _)
  · exact ⟨[], #[], 0, _, setTR_fresh (Heap.get?_push_of_some _ (Heap.get?_push_size _ rfl)), Got.zero ks⟩
  · rintro ⟨h', g', d', tk', os'⟩ L es ep t mv full got keeps
    obtain rfl : g' = s.gens := mv.gens
    obtain rfl : d' = s.drawn := mv.drawn
    obtain rfl : os' = s.os := mv.os
    rw [len] at got
    exact ⟨rfl, h', tk', rfl, L, es, ep, t, keeps, got, full⟩
end
section
variable {X : Cx}
/-- set(t), the rule -/
def rSetOfTT (K : PySem.W.Frag) (P : Program) (w : World) : List V → Hp → VK → Prop := fun xs H Q => ∃ (l : Addr) (ks : List (Addr × List Int)), xs = [V.ref l] ∧ SqT K H l (ks.map fun p => V.ref p.1) ∧ (∀ p ∈ ks, SqT K H p.1 (p.2.map V.int)) ∧ ks.length < 64 ∧
  ∀ a L, H a = none → (∀ p ∈ L, p ∈ ks) → (∀ p ∈ ks, p.2 ∈ L.map (·.2)) → Q (.ref a) (upd H a (SetTO P w a L))
theorem cr_setOfTT (hc : X.calm = true) (hu : X.A.units + 64 < cLine) : CallR X (.type "set") (rSetOfTT X.K X.prog X.w) := by
  rintro pins s σ H xs us Q I r ⟨l, ks, rfl, tl, keys, few, won⟩
  rw [Vals.ref1 r]
  obtain ⟨its, rv, ⟨o, ho, oc, n, od⟩, _⟩ := I.tuple tl
  refine call_set_ofT (items := its.toArray) ks (I.ok.hd hc) ⟨o, ho, oc, n, od⟩ (by simpa using refs_of_vals rv) (fun p hp => I.isT (keys p hp)) few (by omega) fun h' tk L es ep t k g R => ?_
  refine ⟨.ref s.heap.objs.size, upd H s.heap.objs.size (SetTO X.prog X.w s.heap.objs.size L), I.laid (t' := tk) k (Nat.le_refl _) (setTO_new R.t0), rfl, won _ L (I.hok.fresh (Nat.le_refl _)) (fun p hp => List.mem_of_mem_take (g.sub p hp)) fun p hp => g.all p ?_⟩
  rw [List.take_length]
  exact hp
end
end L2

set_option Elab.async false
set_option linter.all false
set_option maxRecDepth 100000
set_option maxHeartbeats 3200000
/-! sorted(s) of a set with one tuple, or none -/
namespace L2
open PySem PySem.Spec PyProof.Rows SrtO
section
variable {P : Program} {w : World} {A : Around} {E : Value → Shared → Prop} {s : Shared}
theorem perm_one {α : Type} {l m : List α} (p : l.Perm m) (h : m.length ≤ 1) : l = m := by
  match m, h with
  | [], _ => exact p.eq_nil
  | [x], _ => exact List.perm_singleton.mp p
theorem swo_none {α : Type} : Swo fun (_ _ : α) => false := ⟨fun _ _ _ => rfl, fun _ _ _ _ _ => rfl⟩
theorem sorted_setOne {a : Addr} {L : List (Addr × List Int)} {es : Array (Int × Value)} {ep : Nat} {t : SetTable} {Q : Value → Shared → Prop} (R : SetTR P w s.heap a L es ep t) (hh : A.handled = none) (one : L.length ≤ 1)
    (won : ∀ s' p c, (∀ b o, s.heap.get? b = some o → s'.heap.get? b = some o) → s'.gens = s.gens → s'.os = s.os → s.heap.objs.size ≤ p → s'.heap.get? p = some (seqObj "list" (L.map fun q => Value.ref q.1).toArray c) → Q (.ref p) s') :
    wpAny (model P w) A (call (.builtin "sorted") [.ref a]) Q E s := by
  obtain ⟨o, ho, hex, hd⟩ := R.ob
  have size := R.size
  refine Calls.call_function_entry kind_sorted plain_sorted entry_sorted (args_sorted1 _) ?_
  unfold Builtin.«sorted»
  refine wpAny_bind (m := checkCount "sorted" 1 1 _) (wpAny_pure ?_)
  refine wpAny_bind (collect_set (A := A.in1) hh ⟨o, ho, hex.1, hd⟩ R.fits (by unfold scanBound; omega) R.tab.ris R.led fun s1 vs keep bigger hg hos pm => ?_)
  have vals : es.toList.map (·.2) = L.map fun q => Value.ref q.1 := by
    rw [R.rows]
    unfold rowsOf
    rw [List.map_map] <;> rfl
  have evs : vs = L.map fun q => Value.ref q.1 := by
    rw [vals] at pm
    exact perm_one pm (by rw [List.length_map]; exact one)
  subst evs
  have lz : (L.map fun q => Value.ref q.1).length ≤ sizeLine := by rw [List.length_map, sizeLine_eq]; omega
  refine wpAny_bind (wpAny_newList ?_ lz)
  have new : (s1.heap.push (seqObj "list" (L.map fun q => Value.ref q.1).toArray 0)).get? s1.heap.objs.size = some (seqObj "list" (L.map fun q => Value.ref q.1).toArray 0) := Heap.get?_push_size _ rfl
  refine wpAny_bind (wpAny_holding (wpAny_call_entry slot_list_sort ⟨_, new, rfl⟩ entry_list_sort
    (list_sort_ord (s := { s1 with heap := s1.heap.push (seqObj "list" (L.map fun q => Value.ref q.1).toArray 0) }) swo_none new lz (fun h => absurd h (by rw [List.length_map]; omega)) fun out h1 h2 => ⟨_, rfl, ?_⟩) (args_list_sort _)))
  have eo : out = L.map fun q => Value.ref q.1 := perm_one h2.perm (by rw [List.length_map]; exact one)
  subst eo
  obtain ⟨c, hc⟩ := sortedHeap_at (vs := L.map fun q => Value.ref q.1) (out := (L.map fun q => Value.ref q.1).toArray) new
  refine wpAny_pure ⟨_, rfl, won _ s1.heap.objs.size c (fun b u e => ?_) hg hos bigger hc⟩
  have lt := Heap.lt_size (keep b u e)
  have q := Heap.get?_push_of_some (seqObj "list" (L.map fun q => Value.ref q.1).toArray 0) (keep b u e)
  rw [← sortedHeap_old (vs := L.map fun q => Value.ref q.1) (out := (L.map fun q => Value.ref q.1).toArray) (Nat.ne_of_lt lt) (by rw [size_push']; exact Nat.lt_succ_of_lt lt)] at q
  exact q
end
section
variable {X : Cx}
def rSortedOne (K : PySem.W.Frag) (P : Program) (w : World) : List V → Hp → VK → Prop := fun vs H Q => ∃ (a : Addr) (L : List (Addr × List Int)), vs = [V.ref a] ∧ H a = some (SetTO P w a L) ∧ (∀ p ∈ L, SqT K H p.1 (p.2.map V.int)) ∧ (∀ p ∈ L, p.2 = []) ∧
  ((L.map (·.2)).Nodup → L.length ≤ 1 → ∀ p, H p = none → Q (.ref p) (upd H p (.lst (L.map fun q => V.ref q.1))))
theorem nils_one : ∀ {L : List (Addr × List Int)}, (L.map (·.2)).Nodup → (∀ p ∈ L, p.2 = []) → L.length ≤ 1
  | [], _, _ => Nat.zero_le _
  | [p], _, _ => Nat.le_refl _
  | p :: q :: L, nd, e => by
    have h1 := e p List.mem_cons_self
    have h2 := e q (List.mem_cons_of_mem _ List.mem_cons_self)
    have h3 := (List.nodup_cons.mp nd).1
    exact absurd (show p.2 ∈ (q :: L).map (·.2) by rw [List.map_cons, h1, h2]; exact List.mem_cons_self) h3
theorem cr_sortedOne (hc : X.calm = true) : CallR X (.builtin "sorted") (rSortedOne X.K X.prog X.w) := by
  rintro pins s σ H vs us Q I r ⟨a, L, rfl, ha, keys, nils, won⟩
  obtain ⟨es, ep, t, R⟩ := SetT0.full (show SetT0 X.prog X.w s.heap a L from (I.hok a _ ha).1) fun p hp => I.isT (keys p hp)
  have one := nils_one R.nd nils
  rw [Vals.ref1 r]
  refine sorted_setOne R (I.ok.hd hc) one fun s' p c keep hg hos le at' => ?_
  have new : H p = none := I.hok.fresh le
  have J : Inv X pins σ (upd H p (.lst (L.map fun q => V.ref q.1))) { s with heap := s'.heap, gens := s'.gens, drawn := s'.drawn, toks := s'.toks } := by
    refine I.call (ch := []) (Un.laid keep le new) (I.hok.laid keep le ⟨?_, _, c, vals_of_refs L, at'⟩) (by rw [hg]; exact I.bare) fun _ z => nomatch z
    rw [List.length_map, sizeLine_eq]
    omega
  have e : s' = { s with heap := s'.heap, gens := s'.gens, drawn := s'.drawn, toks := s'.toks } := by
    cases s'; cases s; cases hos; rfl
  rw [e]
  exact ⟨.ref p, _, J, rfl, won R.nd one p new⟩
end
end L2

set_option Elab.async false
set_option linter.all false
set_option maxRecDepth 100000
set_option maxHeartbeats 2000000
/-! len(o) by an own __len__ -/
namespace L2
open PySem PySem.Spec PyProof.Rows
section
variable {X : Cx} {CX : CXT} {k : Nat} {f C : Addr} {fd : FuncData} {ps : List Str} {sp : Sp} {E : XK}
def rLenO (C : Addr) (sp : Sp) (E : XK) : List V → Hp → VK → Prop := fun vs H Q => ∃ a dx fs, vs = [.ref a] ∧ H a = some (.ins C dx fs) ∧ sp [.ref a] H (fun v H' => ∃ n : Nat, v = .int n ∧ n < 2 ^ 62 ∧ Q (.int n) H') E
theorem call_lenO (F : FnOk X.prog X.w X.K X.mg X.base CX k f fd ps sp) (hr : Room (k + 1) X.A) (hs : PySem.W.findIn X.K (.ref C) "__len__" = some (some (.ref f))) (hf : PySem.W.isFn X.K (.ref f) = true) (hb : Binds X.K fd ps []) (hx : Passes CX X E) :
    CallR X (.builtin "len") (rLenO C sp E) := by
  rintro pins s σ H vs us Q I r ⟨a, dx, fs, rfl, ha, hsp⟩
  rw [Vals.ref1 r]
  obtain ⟨mA, J, _⟩ := ins_get I.hok ha
  obtain ⟨od, J, _⟩ := J.look
  obtain ⟨m, hF⟩ := I.fr
  refine PySem.W.len_K hF I.ok.mod.kin J hs hf ?_
  have sub : Sub X k X.A.in1 := Sub.in1 ⟨hr, rfl⟩
  have e0 : Env0 X.prog X.w X.K X.mg X.base X.A.in1 X.stack s H := by
    have e := I.env0
    exact ⟨by rw [sub.fr]; exact e.frames, e.mod, e.bs, e.bsz, e.funs, e.frf, e.hok, e.bare⟩
  have hl := F.len _ _ _ _ hsp
  refine wpAny_call (codeAny_mono (F.run X.A.in1 X.stack s H ⟨[.ref a], []⟩ [.ref a] [.ref a] _ E sub.room e0 (by
    have z := hb s [.ref a] I.kIn (by simpa using hl)
    simpa using z) (.cons rfl .nil) hsp) fun r s' hq => ?_)
  cases r with
  | error e => exact hx pins σ H s e s' I hq
  | ok fl =>
    cases fl with
    | ret w =>
      obtain ⟨z, H', I', rz, n, ez, hn, q⟩ := I.after hq
      subst ez
      obtain ⟨t, rfl⟩ := rz
      refine ⟨⟨Int.natCast_nonneg n, by omega⟩, .int n, H', I'.tok _, ⟨_, rfl⟩, q⟩
    | next => exact False.elim hq
    | brk => exact False.elim hq
    | cont => exact False.elim hq
end
end L2

set_option Elab.async false
set_option linter.all false
set_option maxRecDepth 100000
set_option maxHeartbeats 2000000
/-! values of any kind asked for their class; instances of an own class -/
namespace Sx
open PySem L2
/-- an own class whose instances are asked with isinstance -/
structure OwnK (K : PySem.W.Frag) (C : Addr) : Prop where
  cl : Cls K C
  co : PySem.W.findIn K (.ref C) "__class__" = some (some (.builtin "object.__class__"))
  s1 : PySem.W.specialIn K (.builtin "object.__class__") "__get__" = some (some (.builtin "getset_descriptor.__get__"))
  s2 : PySem.W.takesIn K (.builtin "object.__class__") = some true
  mo : PySem.W.mroIn K C (.type "object") = some true
  is : PySem.W.subIn K (.ref C) (.ref C) = some true
  ni : PySem.W.subIn K (.ref C) (.type "int") = some false
  nb : PySem.W.subIn K (.ref C) (.type "bool") = some false
  nt : PySem.W.subIn K (.ref C) (.type "tuple") = some false
  ns : PySem.W.subIn K (.ref C) (.type "str") = some false
  nl : PySem.W.subIn K (.ref C) (.type "list") = some false
theorem u1 {k : Nat} {A : Around} (r : Room k A) : A.units + 1 < cLine := by
  have := r.units
  omega
/-- isinstance(v, T) is b -/
def IsIn (K : PySem.W.Frag) (H : Hp) (v : V) (T : String) (b : Bool) : Prop := ∃ ty, KX K H v ty ∧ PySem.W.kitOne K ty (.type T) = some b
section
variable {K : PySem.W.Frag} {H H' : Hp} {B : Addr → Prop} {v : V} {Q : VK} {C : Addr}
theorem isi_in {T : String} {b : Bool} (h : IsIn K H v T b) (q : Q (.bl b) H) : rIsiV K [v, .ty T] H Q := by
  obtain ⟨ty, k, e⟩ := h
  exact ⟨v, .ty T, ty, .type T, b, rfl, .ty T, k, e, q⟩
theorem OwnK.ty (o : OwnK K C) {a dx : Addr} {fs : List (Str × V)} (h : H a = some (.ins C dx fs)) : KX K H (.ref a) (.ref C) := .inl (.base (.ins h o.cl o.co o.s1 o.s2 o.mo))
theorem OwnK.isin (o : OwnK K C) {a dx : Addr} {fs : List (Str × V)} (h : H a = some (.ins C dx fs)) {T : String} {b : Bool} (e : PySem.W.subIn K (.ref C) (.type T) = some b) (m : PySem.W.kitMeta T = true) : IsIn K H (.ref a) T b :=
  ⟨_, o.ty h, kit_exc e m⟩
/-- isinstance(o, C), o one of C's -/
theorem OwnK.own (o : OwnK K C) {a dx : Addr} {fs : List (Str × V)} (h : H a = some (.ins C dx fs)) (q : Q (.bl true) H) : rIsiV K [.ref a, .ref C] H Q := by
  refine ⟨.ref a, .ref C, .ref C, .ref C, true, rfl, .own C, o.ty h, ?_, q⟩
  unfold PySem.W.kitOne
  rw [if_pos (beq_self_eq_true _)]
theorem in_int (i : Int) : IsIn K H (.int i) "int" true := ⟨_, .inl (.base (.int i)), kit_ty (by decide +kernel)⟩
theorem in_int_b (i : Int) : IsIn K H (.int i) "bool" false := ⟨_, .inl (.base (.int i)), kit_ty (by decide +kernel)⟩
theorem in_int_t (i : Int) : IsIn K H (.int i) "tuple" false := ⟨_, .inl (.base (.int i)), kit_ty (by decide +kernel)⟩
theorem in_int_l (i : Int) : IsIn K H (.int i) "list" false := ⟨_, .inl (.base (.int i)), kit_ty (by decide +kernel)⟩
theorem in_int_s (i : Int) : IsIn K H (.int i) "str" false := ⟨_, .inl (.base (.int i)), kit_ty (by decide +kernel)⟩
theorem in_tup {p : Addr} {xs : List V} (h : H p = some (.tup xs)) : IsIn K H (.ref p) "tuple" true := ⟨_, .inl (.base (.tup h)), kit_ty (by decide +kernel)⟩
theorem in_tup_i {p : Addr} {xs : List V} (h : H p = some (.tup xs)) : IsIn K H (.ref p) "int" false := ⟨_, .inl (.base (.tup h)), kit_ty (by decide +kernel)⟩
theorem in_tup_b {p : Addr} {xs : List V} (h : H p = some (.tup xs)) : IsIn K H (.ref p) "bool" false := ⟨_, .inl (.base (.tup h)), kit_ty (by decide +kernel)⟩
theorem in_tup_l {p : Addr} {xs : List V} (h : H p = some (.tup xs)) : IsIn K H (.ref p) "list" false := ⟨_, .inl (.base (.tup h)), kit_ty (by decide +kernel)⟩
theorem in_tup_s {p : Addr} {xs : List V} (h : H p = some (.tup xs)) : IsIn K H (.ref p) "str" false := ⟨_, .inl (.base (.tup h)), kit_ty (by decide +kernel)⟩
theorem in_lst {p : Addr} {xs : List V} (h : H p = some (.lst xs)) : IsIn K H (.ref p) "list" true := ⟨_, .inl (.base (.lst h)), kit_ty (by decide +kernel)⟩
theorem in_lst_t {p : Addr} {xs : List V} (h : H p = some (.lst xs)) : IsIn K H (.ref p) "tuple" false := ⟨_, .inl (.base (.lst h)), kit_ty (by decide +kernel)⟩
/-- asked for int and for bool -/
def NI (K : PySem.W.Frag) (H : Hp) (v : V) : Prop := ∃ b c, IsIn K H v "int" b ∧ IsIn K H v "bool" c ∧ (b && !c) = isI v
theorem ni_int (i : Int) : NI K H (.int i) := ⟨_, _, in_int i, in_int_b i, rfl⟩
theorem ni_kn (k : Kn K H B v) : NI K H v := by
  cases k with
  | non => exact ⟨false, false, ⟨_, .inl (.base .non), kit_ty (by decide +kernel)⟩, ⟨_, .inl (.base .non), kit_ty (by decide +kernel)⟩, rfl⟩
  | bl b => exact ⟨true, true, ⟨_, .inl (.base (.bl b)), kit_ty (by decide +kernel)⟩, ⟨_, .inl (.base (.bl b)), kit_ty (by decide +kernel)⟩, rfl⟩
  | int i => exact ni_int i
  | str s => exact ⟨false, false, ⟨_, .inl (.base (.str s)), kit_ty (by decide +kernel)⟩, ⟨_, .inl (.base (.str s)), kit_ty (by decide +kernel)⟩, rfl⟩
  | lst h _ => exact ⟨false, false, ⟨_, .inl (.base (.lst h)), kit_ty (by decide +kernel)⟩, ⟨_, .inl (.base (.lst h)), kit_ty (by decide +kernel)⟩, rfl⟩
  | tup h _ => exact ⟨_, _, in_tup_i h, in_tup_b h, rfl⟩
  | exc ha hd e _ _ => exact ⟨false, false, ⟨_, .inr ⟨_, _, _, _, rfl, rfl, ha, hd, e.ec⟩, kit_exc e.ni (by decide +kernel)⟩, ⟨_, .inr ⟨_, _, _, _, rfl, rfl, ha, hd, e.ec⟩, kit_exc e.nb (by decide +kernel)⟩, rfl⟩
theorem OwnK.ni' (o : OwnK K C) {a dx : Addr} {fs : List (Str × V)} (h : H a = some (.ins C dx fs)) : NI K H (.ref a) := ⟨_, _, o.isin h o.ni (by decide +kernel), o.isin h o.nb (by decide +kernel), rfl⟩
/-- the number that a value is -/
def num? (f : Int → Bool) : V → Bool | .int i => f i | _ => false
def isBit : V → Bool := num? fun i => decide (0 ≤ i) && decide (i ≤ 1)
theorem tyOf_same {t : Value} (e : Same H H') (h : TyOf K H v t) : TyOf K H' v t := by
  cases h with
  | non => exact .non
  | bl x => exact .bl x
  | int i => exact .int i
  | str x => exact .str x
  | flt x => exact .flt x
  | lst g => exact .lst (e _ _ g)
  | frz g => exact .frz (e _ _ g)
  | tup g => exact .tup (e _ _ g)
  | dK g => exact .dK (e _ _ g)
  | dT g => exact .dT (e _ _ g)
  | ins g cl ha hn htk hm => exact .ins (e _ _ g) cl ha hn htk hm
theorem tyX_same {t : Value} (e : Same H H') (h : TyX K H v t) : TyX K H' v t := by
  cases h with
  | base g => exact .base (tyOf_same e g)
  | byt b => exact .byt b
  | set g => exact .set (e _ _ g)
  | kList g c => exact .kList g c
  | kTuple g c => exact .kTuple g c
  | kDict g c => exact .kDict g c
  | fTuple g => exact .fTuple (e _ _ g)
  | fDict g => exact .fDict (e _ _ g)
theorem isIn_same {T : String} {b : Bool} (e : Same H H') (h : IsIn K H v T b) : IsIn K H' v T b := by
  obtain ⟨ty, k, z⟩ := h
  refine ⟨ty, k.elim (fun k => .inl (tyX_same e k)) fun ⟨a, C, d, fs, e1, e2, ha, hd, c⟩ => .inr ⟨a, C, d, fs, e1, e2, e _ _ ha, e _ _ hd, c⟩, z⟩
theorem ni_same (e : Same H H') (h : NI K H v) : NI K H' v := by
  obtain ⟨b, c, h1, h2, z⟩ := h
  exact ⟨b, c, isIn_same e h1, isIn_same e h2, z⟩
theorem s_chain {σ : St} {r r' : R2} {ta tb tc : TE} (h : ta σ H fun x H1 => tb σ H1 fun y H2 => r x y H2 fun z H3 => ∃ k, z = .bl k ∧ if k = true then tc σ H3 fun w H4 => r' y w H4 Q else Q (.bl false) H3) : tChain r r' ta tb tc σ H Q := h
theorem s_fldS {σ : St} {D : Ends} {ta tv : TE} {f : Str} (h : tv σ H fun y H1 => ta σ H1 fun x H2 => ∃ a C dx fs, x = .ref a ∧ H2 a = some (.ins C dx fs) ∧ Cls K C ∧ NoAttr K C f ∧ fs.length < 1000 ∧ D.nx σ (upd H2 a (.ins C dx (putF f y fs)))) : sFld K ta tv f D σ H := h
theorem r_put {x : V} {a dx : Addr} {fs : List (Str × V)} {f : Str} {y : V} {P : Hp → Prop} (e : x = .ref a) (h : H a = some (.ins C dx fs)) (c : Cls K C) (n : NoAttr K C f) (l : fs.length < 1000) (q : ∀ H2, Keep a H H2 → H2 a = some (.ins C dx (putF f y fs)) → P H2) :
    ∃ a C dx fs, x = .ref a ∧ H a = some (.ins C dx fs) ∧ Cls K C ∧ NoAttr K C f ∧ fs.length < 1000 ∧ P (upd H a (.ins C dx (putF f y fs))) := ⟨a, C, dx, fs, e, h, c, n, l, q _ (put_keep rfl) upd_same⟩
theorem s_fld {σ : St} {ta : TE} {f : Str} (h : ta σ H fun x H1 => ∃ a C dx fs v, x = .ref a ∧ H1 a = some (.ins C dx fs) ∧ Cls K C ∧ NoAttr K C f ∧ fs.lookup f = some v ∧ Q v H1) : tFld K ta f σ H Q := h
theorem r_get {x : V} {a dx : Addr} {fs : List (Str × V)} {f : Str} {v : V} {P : V → Prop} (e : x = .ref a) (h : H a = some (.ins C dx fs)) (c : Cls K C) (n : NoAttr K C f) (l : fs.lookup f = some v) (q : P v) :
    ∃ a C dx fs v, x = .ref a ∧ H a = some (.ins C dx fs) ∧ Cls K C ∧ NoAttr K C f ∧ fs.lookup f = some v ∧ P v := ⟨a, C, dx, fs, v, e, h, c, n, l, q⟩
theorem s_dIn {σ : St} {ty td : TE} (h : ty σ H fun y H1 => td σ H1 fun x H2 => ∃ a o, x = .ref a ∧ DGet H2 a y o ∧ Q (.bl o.isSome) H2) : tDIn ty td σ H Q := h
theorem s_dNotIn {σ : St} {ty td : TE} (h : ty σ H fun y H1 => td σ H1 fun x H2 => ∃ a o, x = .ref a ∧ DGet H2 a y o ∧ Q (.bl (!o.isSome)) H2) : tDNotIn ty td σ H Q := h
theorem s_sl {σ : St} {r : V → Option Int → Option Int → Hp → VK → Prop} {te : TE} {tl th : TO} (h : te σ H fun x H1 => tl σ H1 fun l H2 => th σ H2 fun u H3 => r x l u H3 Q) : tSl r te tl th σ H Q := h
theorem s_noPart {σ : St} {R : Option Int → Hp → Prop} (h : R none H) : tNoPart σ H R := h
theorem s_part {σ : St} {t : TE} {R : Option Int → Hp → Prop} (h : t σ H fun x H1 => ∃ i, x = .int i ∧ R (some i) H1) : tPart t σ H R := h
/-- t[:j], a part of it -/
theorem r_take {p : Addr} {xs : List V} {j : Nat} (h : H p = some (.tup xs)) (lt : j < xs.length) (q : ∀ p' H2, H p' = none → Same H H2 → H2 p' = some (.tup (xs.take j)) → Q (.ref p') H2) : rSlA K (.ref p) none (some (j : Int)) H Q := by
  refine ⟨p, xs, rfl, SqT.of h, fun z => ?_, fun _ p' np => q p' _ np (Sx.Same.new np) ?_⟩
  · have e := z.2
    rw [HT.sIx_nat] at e
    omega
  · rw [upd_same]
    unfold cutV
    rw [HT.sIx_nat, HT.sIx_none, Nat.min_eq_left (Nat.le_of_lt lt)]
    rfl
/-- t[j + 1:] -/
theorem r_drop {p : Addr} {xs : List V} {j : Nat} (h : H p = some (.tup xs)) (lt : j < xs.length) (q : ∀ p' H2, H p' = none → Same H H2 → H2 p' = some (.tup (xs.drop (j + 1))) → Q (.ref p') H2) : rSlA K (.ref p) (some ((j : Int) + 1)) none H Q := by
  have e1 : ((j : Int) + 1) = ((j + 1 : Nat) : Int) := by omega
  rw [e1]
  refine ⟨p, xs, rfl, SqT.of h, fun z => ?_, fun _ p' np => q p' _ np (Sx.Same.new np) ?_⟩
  · have e := z.1
    rw [HT.sIx_nat] at e
    omega
  · rw [upd_same]
    unfold cutV
    rw [HT.sIx_nat, HT.sIx_none, Nat.min_eq_left lt, List.take_of_length_le (by rw [List.length_drop]; omega)]
/-- t + u -/
theorem r_cat {a b : Addr} {xs ys : List V} (ha : H a = some (.tup xs)) (hb : H b = some (.tup ys)) (sz : xs.length + ys.length ≤ sizeLine) (q : ∀ p H2, Same H H2 → H2 p = some (.tup (xs ++ ys)) → Q (.ref p) H2) : rCatA K (.ref a) (.ref b) H Q := by
  refine ⟨a, b, xs, ys, rfl, rfl, SqT.of ha, SqT.of hb, sz, fun e => q b H (L2.Same.refl _) ?_, fun _ e => q a H (L2.Same.refl _) ?_, fun _ _ p np => q p _ (Sx.Same.new np) upd_same⟩
  · rw [e]
    exact hb
  · rw [e, List.append_nil]
    exact ha
theorem s_meth {σ : St} {C : Addr} {m : Str} {sp : Sp} {dvs : List V} {E : XK} {ta : TE} {t : TA} (h : ta σ H fun x H1 => ∃ a dx fs, x = .ref a ∧ H1 a = some (.ins C dx fs) ∧ fs.lookup m = none ∧ t σ H1 fun vs H2 => sp (x :: (vs ++ dvs)) H2 Q E) : tMeth C m sp dvs E ta t σ H Q := h
theorem s_make {σ : St} {C : Addr} {sp : Sp} {dvs : List V} {E : XK} {t : TA} (h : t σ H fun vs H1 => ∀ x dx, H1 x = none → H1 dx = none → dx ≠ x → sp (.ref x :: (vs ++ dvs)) (upd (upd H1 dx (.own x)) x (.ins C dx [])) (fun v H2 => v = .non ∧ Q (.ref x) H2) E) : tMake C sp dvs E t σ H Q := h
theorem in_of {T : String} {b : Bool} (h : rIsiV K [v, .ty T] H fun z _ => z = .bl b) : IsIn K H v T b := by
  obtain ⟨x, c, t, u, b', e, kc, kx, ke, hb⟩ := h
  cases e
  cases kc
  cases hb
  exact ⟨t, kx, ke⟩
theorem in_iK (k : Kn K H B v) : IsIn K H v "int" (isI v || isB v) := in_of (c_isiI k rfl)
theorem in_bK (k : Kn K H B v) : IsIn K H v "bool" (isB v) := in_of (c_isiB k rfl)
theorem in_sK (k : Kn K H B v) : IsIn K H v "str" (isS v) := in_of (c_isiS k rfl)
theorem in_tK (k : Kn K H B v) : IsIn K H v "tuple" (isT H v) := in_of (c_isiT k rfl)
theorem in_lK (k : Kn K H B v) : IsIn K H v "list" (isL H v) := in_of (c_isiL k rfl)
theorem r_isN {x : V} (q : Q (.bl (decide (x = .non))) H) : V.non = V.non ∧ Q (.bl (decide (x = .non))) H := ⟨rfl, q⟩
theorem s_yes {σ : St} {R : Bool → Hp → Prop} (h : R true H) : tYes σ H R := h
theorem r_len {p : Addr} {xs : List V} (h : H p = some (.tup xs)) (q : Q (.int xs.length) H) : ∃ x n, [V.ref p] = [x] ∧ LenV K x H n ∧ Q (.int n) H := ⟨_, _, rfl, .inr ⟨xs, SqT.of h, rfl⟩, q⟩
end
end Sx

set_option Elab.async false
set_option linter.all false
set_option maxRecDepth 100000
set_option maxHeartbeats 3200000
/-! enumerate of a tuple -/
namespace PySem
open Sem (wp)
set_option maxHeartbeats 1000000 in
theorem enum1_new {v : Value} {o : Obj} {G : Heap → Prop} (B : Begins v o G) :
    Meets (Builtin.«enumerate.__new__» ⟨[.type "enumerate", v], []⟩) (fun _ R s => G s.heap ∧ R (.ok (.ret (.ref (s.heap.push o).objs.size)))
      { s with heap := (s.heap.push o).push { cls := .type "enumerate", data := .fields #[.none, .bool false, .ref s.heap.objs.size, rawInt 0, .none, .none] } }) :=
  .of_wp fun P w A R s0 z => by
    obtain ⟨hp, gs, dr, tk, os⟩ := s0; obtain ⟨z1, z⟩ := z
    have sube := sub_enumerate
    have qi : ∀ {A' : Around} {E' : Value → Shared → Prop} {Q' : Value → Shared → Prop}, Q' (.ref hp.objs.size) ⟨hp.push o, gs, dr, tk, os⟩ → wpAny (model P w) A' (pyIter v) Q' E' ⟨hp, gs, dr, tk, os⟩ := fun q => B.iter P w _ _ ⟨hp, gs, dr, tk, os⟩ _ z1 q
    wp_walk using qi
    (refine wpAny_stack_any fun st => wpAny_pure ?_; split)
    · rename_i c _ _ _ _ _
      (generalize (c == Value.type "enumerate") = same; cases same) <;> (wp_walk using qi; exact ⟨_, rfl, z⟩)
    · (wp_walk using qi; exact ⟨_, rfl, z⟩)
theorem enum1_call {P : Program} {w : World} {A : Around} {E : Value → Shared → Prop} {s : Shared} {v : Value} {o : Obj} {G : Heap → Prop} {Q : Value → Shared → Prop} (B : Begins v o G) (g : G s.heap)
    (q : ∀ h', IsEnum h' (s.heap.objs.size + 1) s.heap.objs.size 0 .none → h'.get? s.heap.objs.size = some o → h'.objs.size = s.heap.objs.size + 2 → (∀ b o', s.heap.get? b = some o' → h'.get? b = some o') → Q (.ref (s.heap.objs.size + 1)) { s with heap := h' }) :
    wpAny (model P w) A (call (.type "enumerate") [v]) Q E s := by
  refine callType_new F.called_enumerate (by decide) (F.typeCall_enumerate_1 _) (F.newCall_enumerate_1 _) (fun ob => F.args_object_init_2 ob _) F.entry_enumerate_new (enum1_new B) ⟨g, ?_⟩
  have sz : (s.heap.push o).objs.size = s.heap.objs.size + 1 := Heap.size_push ..
  have e := Heap.get?_push_size (s.heap.push o) (o := { cls := .type "enumerate", data := .fields #[.none, .bool false, .ref s.heap.objs.size, rawInt 0, .none, .none] }) rfl
  rw [sz] at e
  show _ ∧ _
  rw [sz]
  exact ⟨⟨_, e, rfl⟩, q _ e (Heap.get?_push_of_some _ (Heap.get?_push_size _ B.free)) (by rw [Heap.size_push, sz]) fun b o' z => Heap.get?_push_of_some _ (Heap.get?_push_of_some _ z)⟩
end PySem
namespace L2
open PySem PySem.Spec PyProof.Rows
/-- the tuple at a, each item in a new pair with its number -/
def IteT (K : PySem.W.Frag) (a : Addr) : It :=
  ⟨fun i H => ∃ (xs : List V) (x : V), SqT K H a xs ∧ xs[i]? = some x, fun i H v H' => ∃ T x, v = .ref T ∧ H T = none ∧ H' = upd H T (.tup [.int (i : Nat), x]) ∧ ∀ xs, SqT K H a xs → xs[i]? = some x, fun i H => ∃ xs : List V, SqT K H a xs ∧ xs.length = i⟩
theorem turn_enumT {P : Program} {w : World} {K : PySem.W.Frag} {elts : List Expr} {kk : Nat} {tpos : Pos} (a e it : Addr) :
    Turn P w K (.Tuple elts kk tpos) (IteT K a) [e, it] e (fun i h => (∃ old, IsEnum h e it ((i : Nat) : Int) old) ∧ h.IsTupleIter it a i ∧ e ≠ it) where
  mem := by simp
  obj := fun i h st b hb => by
    obtain ⟨⟨old, he⟩, ⟨o, ho, hc, hd⟩, _⟩ := st
    have two : b = e ∨ b = it := by simpa using hb
    rcases two with rfl | rfl
    · exact ⟨_, he, fun v q => nomatch q⟩
    · exact ⟨o, ho, fun v q => by rw [hd] at q; cases q⟩
  keep := fun i h h' st k => ⟨st.1.elim fun old he => ⟨old, k e (by simp) _ he⟩, st.2.1.at fun o q => k it (by simp) o q, st.2.2⟩
  item := by
    intro X hP hw hK hc i pins s σ H E I hf st hg
    (subst hP; subst hw; subst hK)
    obtain ⟨⟨old, he⟩, hit, ne⟩ := st
    obtain ⟨xs, x, hx0, hx⟩ := hg
    obtain ⟨us, rv, tp, tz⟩ := I.tuple hx0
    obtain ⟨u, hu, ru⟩ := rv.get hx
    have le : e < s.heap.objs.size := Heap.lt_size he
    have li : it < s.heap.objs.size := by obtain ⟨_, q, _⟩ := hit; exact Heap.lt_size q
    have ne2 : a ≠ it := fun z => by
      obtain ⟨o1, q1, c1, _⟩ := hit
      obtain ⟨o2, q2, c2, _⟩ := (show s.heap.IsTuple a us.toArray from tp)
      rw [z, q1] at q2
      cases q2
      rw [c1] at c2
      injection c2 with c3
      exact absurd c3 (by decide)
    have ne3 : e ≠ a := fun z => by
      obtain ⟨o2, q2, c2, _⟩ := (show s.heap.IsTuple a us.toArray from tp)
      rw [← z, he] at q2
      cases q2
      injection c2 with c3
      exact absurd c3 (by decide)
    have D := Draws.tuple (prog := X.prog) (w := X.w) (A := X.A.in1) (by simp [I.ok.hd hc]) it a ne2 us.toArray
    have lt : i < us.toArray.size := by
      have := (List.getElem?_eq_some_iff.mp hu).1
      simpa using this
    refine wpAny_pyNext_enum_itemC (D := D) he ⟨hit, tp⟩ lt ne (by simp [ne, ne3]) fun y h' tk hy ho st' hT hsz hk => ?_
    have ey : y = u := by
      have z : us.toArray[i]? = some y := hy
      simp [hu] at z
      exact z.symm
    subst ey
    refine ⟨_, rfl, wpAny_letOwnedTupleGo_enum (s := { s with heap := h', toks := tk + 1 }) ho fun h2 he2 sb => ?_⟩
    have hT2 : h2.get? s.heap.objs.size = some { cls := .type "tuple", data := .seq #[.int i tk, y] } := (sb.2 _ (Nat.ne_of_gt le)).trans hT
    have new : ObjOk X.prog X.w (upd H s.heap.objs.size (.tup [.int (i : Nat), x])) h2 s.heap.objs.size (.tup [.int (i : Nat), x]) :=
      ⟨by show 2 ≤ sizeLine; decide, [.int i tk, y], .cons ⟨_, rfl⟩ (.cons ru .nil), ⟨_, hT2, rfl, _, rfl⟩⟩
    have I1 : Inv X pins σ (upd H s.heap.objs.size (.tup [.int (i : Nat), x])) { s with heap := h2, toks := tk + 1 } :=
      I.turnedNew (ch := [e, it]) (fun b ob hb q => (sb.2 b (fun z => hb (by simp [z]))).trans (hk b ob (fun z => hb (by simp [z])) (fun z => hb (by simp [z])) q)) hf (Nat.le_refl _) new
    refine ⟨.ref s.heap.objs.size, _, I1, rfl, ⟨_, x, rfl, I.hok.fresh (Nat.le_refl _), rfl, fun ys hy' => by rw [I.tuple_inj hy' hx0]; exact hx⟩, ⟨⟨y, ?_⟩, st'.1.at fun o q => (sb.2 it (Ne.symm ne)).trans q, ne⟩, fun b hb => ?_⟩
    · rw [show ((i + 1 : Nat) : Int) = (i : Int) + 1 by omega]
      exact he2
    · have lb : b < s.heap.objs.size := by
        have two : b = e ∨ b = it := by simpa using hb
        rcases two with rfl | rfl
        · exact le
        · exact li
      rw [upd_ne (Nat.ne_of_lt lb)]
      exact (hf b hb).1
  done := by
    intro X hP hw hK hc i pins s σ H E I hf st hg
    (subst hP; subst hw; subst hK)
    obtain ⟨⟨old, he⟩, hit, ne⟩ := st
    obtain ⟨xs, hx0, hx⟩ := hg
    obtain ⟨us, rv, tp, tz⟩ := I.tuple hx0
    have ne2 : a ≠ it := fun z => by
      obtain ⟨o1, q1, c1, _⟩ := hit
      obtain ⟨o2, q2, c2, _⟩ := (show s.heap.IsTuple a us.toArray from tp)
      rw [z, q1] at q2
      cases q2
      rw [c1] at c2
      injection c2 with c3
      exact absurd c3 (by decide)
    have D := Draws.tuple (prog := X.prog) (w := X.w) (A := X.A.in1) (by simp [I.ok.hd hc]) it a ne2 us.toArray
    obtain ⟨f0, f1, f2, f3, f4, f5⟩ := hf it (by simp)
    have en : us.toArray.size = i := by
      have := rv.length
      simp
      omega
    refine wpAny_pyNext_enum_endD (D := D) he (by rw [en]; exact ⟨hit, tp⟩) fun h' eb => ⟨rfl, I.turned (t' := s.toks) (fun b o hb q => eb b o hb q) f0 f1 f3 f4 f5⟩
  self := fun A i s Q E st h => st.1.elim fun _ he => wpAny_pyIter_enum he h
def iEnumT (K : PySem.W.Frag) (ta : TA) : TI := fun σ H R => ta σ H fun vs H1 => ∃ a xs, vs = [.ref a] ∧ SqT K H1 a xs ∧ R (IteT K a) H1
theorem pi_enumT {X : Cx} {e : Expr} {ta : TA} {p pos tpos : Pos} {elts : List Expr} {kk : Nat} (hg : Gl X "enumerate") (hm : X.mg "enumerate" = none) (ha : PA X [e] ta) (hs : starEach [e] X.env = [(false, eval e X.env)] := by rfl) :
    PI X (.Tuple elts kk tpos) (.Call (.Name "enumerate" p) [e] [] pos) (iEnumT X.K ta) := ⟨fun pins s σ H R I h => by
  refine Call_ (ld_blt I hg hm boot_enumerate (PyProof.Rows.callWith_type1 (thn (ha.run pos pins s σ H _ I h) fun us s1 ⟨vs, H1, I1, r1, q1⟩ => ?_) hs rfl))
  obtain ⟨a, xs, rfl, hq, q⟩ := q1
  rw [Vals.ref1 r1]
  obtain ⟨its, rv, tp, hz⟩ := I1.tuple hq
  refine enum1_call (begins_tuple a its.toArray) tp fun h' he hit hsz hk => wpAny_pyIter_enum he ?_
  have I2 : Inv X pins σ H1 { s1 with heap := h' } := I1.kept (t' := s1.toks) hk
  refine ⟨s1.heap.objs.size + 1, [s1.heap.objs.size + 1, s1.heap.objs.size], _, _, H1, rfl, I2, turn_enumT a (s1.heap.objs.size + 1) s1.heap.objs.size, ⟨⟨.none, he⟩, ⟨_, hit, rfl, rfl⟩, Nat.succ_ne_self _⟩, fun b hb => ?_, q⟩
  have two : b = s1.heap.objs.size + 1 ∨ b = s1.heap.objs.size := by simpa using hb
  have le : s1.heap.objs.size ≤ b := by
    rcases two with rfl | rfl
    · exact Nat.le_succ _
    · exact Nat.le_refl _
  exact I1.fpOk le (I1.hok.fresh le)⟩
section
variable {K : PySem.W.Frag} {a : Addr} {xs : List V}
theorem walk_enumT : Walk (IteT K a) xs.length (fun H => SqT K H a xs) (YPair (fun i => some (.int (i : Nat))) (fun i => xs[i]?)) := by
  refine ⟨fun i _ hi q => ⟨xs, xs[i], q, by simp [hi]⟩, fun _ q => ⟨xs, q, rfl⟩, fun i H v H' _ q y => ?_⟩
  obtain ⟨T, x, h1, h2, h3, h4⟩ := y
  exact ⟨T, .int (i : Nat), x, h1, h2, h3, rfl, h4 xs q⟩
/-- a dict comprehension over any walk -/
theorem dcp_it {J : It} {n : Nat} {G : Hp → Prop} {Y : Nat → Hp → V → Hp → Prop} (wk : Walk J n G Y) {u0 : HO} {g : TG} {tt : TT} {tk tv : TE} {vs : List Nat} {σ : St} {H1 : Hp} {D : Addr} {Qd : Hp → Prop} (Pv : Nat → Hp → Prop) (h0 : Pv 0 (upd H1 D u0)) (hG : ∀ i H, i ≤ n → Pv i H → G H)
    (hs : ∀ i x H H', i < n → Pv i H → Y i H x H' → g x (wipe σ vs) H' fun σ2 H2 => wipe σ2 vs = wipe σ vs ∧ tt σ2 H2 fun b H3 => if b = true then tk σ2 H3 fun y H4 => tv σ2 H4 fun z H5 => ∃ H6, DPut H5 D y z H6 ∧ Pv (i + 1) H6 else Pv (i + 1) H3) (hd : ∀ H, Pv n H → Qd H) :
    ∃ W : Nat → Nat → Hp → Prop, (∃ m, W 0 m (upd H1 D u0)) ∧ ∀ i m H2, W i m H2 → (J.stop i H2 ∧ Qd H2) ∨ (J.go i H2 ∧ ∃ Nx : Hp → Prop, (∀ H', Nx H' → ∃ m', m' < m ∧ W (i + 1) m' H') ∧ ∀ x H3, J.yld i H2 x H3 → g x (wipe σ vs) H3 fun σ2 H4 => wipe σ2 vs = wipe σ vs ∧ tt σ2 H4 fun b H5 =>
      if b = true then tk σ2 H5 fun y H6 => tv σ2 H6 fun z H7 => ∃ H8, DPut H7 D y z H8 ∧ Nx H8 else Nx H5) := by
  refine ⟨fun i m H => m = n - i ∧ i ≤ n ∧ Pv i H, ⟨n, by simp, Nat.zero_le _, h0⟩, ?_⟩
  rintro i m H ⟨rfl, hi, p⟩
  have q := hG i H hi p
  by_cases lt : i < n
  · exact .inr ⟨wk.goes i H lt q, Pv (i + 1), fun H' p' => ⟨n - (i + 1), by omega, rfl, lt, p'⟩, fun x H' y => hs i x H H' lt p (wk.yields i H x H' lt q y)⟩
  · have e : i = n := by omega
    subst e
    exact .inl ⟨wk.stops H q, hd H p⟩
end
end L2

set_option Elab.async false
set_option linter.all false
namespace Sx
/-- Euclid's way: behind the first turn the second is below the first, and their product halves -/
def EuI (M g : Nat) (x y : Nat) : Nat → Nat → Nat → Prop
  | 0, a, b => a = x ∧ b = y
  | i + 1, a, b => b < a ∧ a * b * 2 ^ i ≤ 2 ^ M
theorem eu_gcd (a b : Nat) : Nat.gcd b (a % b) = Nat.gcd a b := by
  rw [Nat.gcd_comm a b, Nat.gcd_rec b a, Nat.gcd_comm]
theorem eu_half {a b : Nat} (h : b ≤ a) (hb : 0 < b) : 2 * (a % b) ≤ a := by
  have h1 := Nat.mod_lt a hb
  have h2 : a % b ≤ a - b := by
    rw [Nat.mod_eq_sub_mod h]
    exact Nat.mod_le _ _
  omega
theorem eu_step {M g x y i a b : Nat} (hxy : y * y ≤ 2 ^ M) (h : EuI M g x y i a b) (hb : 0 < b) : EuI M g x y (i + 1) b (a % b) := by
  refine ⟨Nat.mod_lt a hb, ?_⟩
  cases i with
  | zero =>
    obtain ⟨rfl, rfl⟩ := h
    have h1 := Nat.mod_lt a hb
    calc b * (a % b) * 2 ^ 0 = b * (a % b) := by rw [Nat.pow_zero, Nat.mul_one]
      _ ≤ b * b := Nat.mul_le_mul_left _ (Nat.le_of_lt h1)
      _ ≤ 2 ^ M := hxy
  | succ i =>
    obtain ⟨h1, h2⟩ := h
    have h3 := eu_half (Nat.le_of_lt h1) hb
    calc b * (a % b) * 2 ^ (i + 1) = b * (2 * (a % b)) * 2 ^ i := by
          rw [Nat.pow_succ]
          have e : b * (a % b) * (2 ^ i * 2) = b * (a % b) * 2 * 2 ^ i := by rw [Nat.mul_comm (2 ^ i) 2, ← Nat.mul_assoc]
          rw [e, Nat.mul_assoc b (a % b) 2, Nat.mul_comm (a % b) 2]
      _ ≤ b * a * 2 ^ i := Nat.mul_le_mul_right _ (Nat.mul_le_mul_left _ h3)
      _ = a * b * 2 ^ i := by rw [Nat.mul_comm b a]
      _ ≤ 2 ^ M := h2
theorem eu_end {M g x y n a b : Nat} (hn : M < n) (h : EuI M g x y (n + 1) a b) : b = 0 := by
  obtain ⟨h1, h2⟩ := h
  cases b with
  | zero => rfl
  | succ b =>
    exfalso
    have h3 : 1 ≤ a * (b + 1) := Nat.mul_pos (by omega) (by omega)
    have h4 : 2 ^ n ≤ a * (b + 1) * 2 ^ n := by
      have := Nat.mul_le_mul_right (2 ^ n) h3
      rw [Nat.one_mul] at this
      exact this
    have h5 : 2 ^ M < 2 ^ n := Nat.pow_lt_pow_right (by decide) hn
    omega
/-- a number and its divisor's sign -/
def sgd (u l : Int) : Int := if l < 0 then -((Nat.gcd u.natAbs l.natAbs : Nat) : Int) else ((Nat.gcd u.natAbs l.natAbs : Nat) : Int)
theorem sgd_ne {u l : Int} (h : l ≠ 0) : sgd u l ≠ 0 := by
  have h1 : 0 < Nat.gcd u.natAbs l.natAbs := Nat.gcd_pos_of_pos_right _ (by omega)
  unfold sgd
  split <;> omega
theorem sgd_abs (u l : Int) : (sgd u l).natAbs = Nat.gcd u.natAbs l.natAbs := by
  unfold sgd
  split <;> omega
theorem sgd_le {u l : Int} (h : l ≠ 0) : (sgd u l).natAbs ≤ l.natAbs := by
  rw [sgd_abs]
  exact Nat.gcd_le_right _ (by omega)
theorem div_ok {u l x : Int} {b : Nat} (h : l ≠ 0) (hb : l.natAbs < 2 ^ b) (h0 : 0 < b) (h9 : b ≤ 9000) : L2.CDivV x (sgd u l) :=
  ⟨sgd_ne h, Nat.lt_of_lt_of_le (PySem.Flt.log2_lt_of h0 (Nat.lt_of_le_of_lt (sgd_le h) hb)) h9⟩
end Sx
namespace Sx
theorem sgd_dvd_l (u l : Int) : sgd u l ∣ l := by
  rw [← Int.natAbs_dvd_natAbs, sgd_abs]
  exact Nat.gcd_dvd_right _ _
theorem sgd_dvd_u (u l : Int) : sgd u l ∣ u := by
  rw [← Int.natAbs_dvd_natAbs, sgd_abs]
  exact Nat.gcd_dvd_left _ _
theorem fdiv_le {u s : Int} (h : s ∣ u) (hs : s ≠ 0) : (u.fdiv s).natAbs ≤ u.natAbs := by
  obtain ⟨c, rfl⟩ := h
  rw [Int.mul_fdiv_cancel_left _ hs, Int.natAbs_mul]
  exact Nat.le_mul_of_pos_left _ (by omega)
end Sx

set_option Elab.async false
set_option linter.all false
namespace Sx
open PySem L2
def Sm (n : Nat) (x : Int) : Prop := x.natAbs < 2 ^ n
theorem Sm.mono {n m : Nat} {x : Int} (h : Sm n x) (l : n ≤ m) : Sm m x := Nat.lt_of_lt_of_le h (Nat.pow_le_pow_right (by decide) l)
theorem Sm.neg {n : Nat} {x : Int} (h : Sm n x) : Sm n (-x) := by unfold Sm at *; rw [Int.natAbs_neg]; exact h
theorem Sm.mul {n m : Nat} {x y : Int} (h : Sm n x) (g : Sm m y) : Sm (n + m) (x * y) := by
  unfold Sm at *
  rw [Int.natAbs_mul, Nat.pow_add]
  exact Nat.mul_lt_mul'' h g
theorem Sm.add {n m : Nat} {x y : Int} (h : Sm n x) (g : Sm m y) : Sm (max n m + 1) (x + y) := by
  have h1 := h.mono (Nat.le_max_left n m)
  have g1 := g.mono (Nat.le_max_right n m)
  unfold Sm at *
  rw [Nat.pow_succ]
  have := Int.natAbs_add_le x y
  omega
theorem Sm.sub {n m : Nat} {x y : Int} (h : Sm n x) (g : Sm m y) : Sm (max n m + 1) (x - y) := by
  rw [Int.sub_eq_add_neg]
  exact h.add g.neg
theorem Sm.le {n : Nat} {x y : Int} (h : Sm n x) (l : y.natAbs ≤ x.natAbs) : Sm n y := Nat.lt_of_le_of_lt l h
theorem sm40 {x : Int} (h1 : -1000000000001 < x) (h2 : x < 1000000000001) : Sm 40 x := by
  unfold Sm
  have : (1000000000001 : Nat) < 2 ^ 40 := by decide
  omega
theorem sm_log {n : Nat} {x : Int} (h : Sm n x) : x.natAbs.log2 ≤ n := by
  by_cases h0 : x.natAbs = 0
  · rw [h0]
    exact Nat.le_trans (by decide) (Nat.zero_le n)
  · have := (Nat.log2_lt h0).mpr h
    omega
theorem c_mulW {n m : Nat} {x y : Int} (h : Sm n x) (g : Sm m y) (l : n + m < 1000000) : CMulW x y := by
  have h1 := sm_log h
  have g1 := sm_log g
  unfold CMulW
  omega
theorem c_divW {n : Nat} {x y : Int} (h0 : 0 < y) (h : Sm n y) (l : n < 9000) : CDivW x y := ⟨h0, Nat.lt_of_le_of_lt (sm_log h) l⟩
theorem c_divV {n : Nat} {u l x : Int} (h0 : l ≠ 0) (h : Sm n l) (g : n < 9000) : CDivV x (sgd u l) := ⟨sgd_ne h0, Nat.lt_of_le_of_lt (sm_log (h.le (sgd_le h0))) g⟩
theorem sm_0 : Sm 1 0 := by unfold Sm; decide
theorem sm_1 : Sm 1 1 := by unfold Sm; decide
theorem sm_3 : Sm 2 3 := by unfold Sm; decide
/-- a number over another, reduced -/
def rdU (u l : Int) : Int := u.fdiv (sgd u l)
def rdL (u l : Int) : Int := l.fdiv (sgd u l)
theorem rdU_sm {n : Nat} {u l : Int} (h0 : l ≠ 0) (h : Sm n u) : Sm n (rdU u l) := h.le (fdiv_le (sgd_dvd_u u l) (sgd_ne h0))
theorem rdL_sm {n : Nat} {u l : Int} (h0 : l ≠ 0) (h : Sm n l) : Sm n (rdL u l) := h.le (fdiv_le (sgd_dvd_l u l) (sgd_ne h0))
theorem sgd_pos {u l : Int} (h : 0 < l) : 0 < sgd u l := by
  have h1 : 0 < Nat.gcd u.natAbs l.natAbs := Nat.gcd_pos_of_pos_right _ (by omega)
  unfold sgd
  rw [if_neg (by omega)]
  omega
theorem rdL_pos {u l : Int} (h : 0 < l) : 0 < rdL u l := by
  obtain ⟨c, e⟩ := sgd_dvd_l u l
  have hs := sgd_pos (u := u) h
  have e2 : rdL u l = c := by
    unfold rdL
    rw [show l.fdiv (sgd u l) = (sgd u l * c).fdiv (sgd u l) by rw [← e], Int.mul_fdiv_cancel_left _ (by omega)]
  rw [e2]
  by_cases hc : 0 < c
  · exact hc
  · have : sgd u l * c ≤ 0 := Int.mul_nonpos_of_nonneg_of_nonpos (by omega) (by omega)
    omega
theorem sgd_neg (u l : Int) : sgd (-u) l = sgd u l := by
  unfold sgd
  rw [Int.natAbs_neg]
theorem rdU_neg {u l : Int} (h0 : l ≠ 0) : rdU (-u) l = -rdU u l := by
  unfold rdU
  rw [sgd_neg]
  obtain ⟨c, e⟩ := sgd_dvd_u u l
  have hs := sgd_ne (u := u) h0
  rw [show (-u).fdiv (sgd u l) = (sgd u l * -c).fdiv (sgd u l) by rw [Int.mul_neg, ← e], Int.mul_fdiv_cancel_left _ hs,
    show u.fdiv (sgd u l) = (sgd u l * c).fdiv (sgd u l) by rw [← e], Int.mul_fdiv_cancel_left _ hs]
theorem rdL_neg (u l : Int) : rdL (-u) l = rdL u l := by
  unfold rdL
  rw [sgd_neg]
/-- the least integer that is not less than a / b -/
theorem up_ok {a b : Int} (h : 0 < b) : a ≤ -((-a) / b) * b ∧ (-((-a) / b) - 1) * b < a := by
  have h1 := Int.emod_add_mul_ediv (-a) b
  have h2 := Int.emod_nonneg (-a) (by omega : b ≠ 0)
  have h3 := Int.emod_lt_of_pos (-a) h
  have e : b * ((-a) / b) = ((-a) / b) * b := Int.mul_comm _ _
  constructor
  · rw [Int.neg_mul]
    omega
  · rw [Int.sub_mul, Int.neg_mul]
    omega
end Sx

set_option Elab.async false
set_option linter.all false
set_option maxRecDepth 100000
set_option maxHeartbeats 2000000
/-! An own exception class under a class under ValueError, whose __init__ is: super().__init__("text"); self.f = f. -/
namespace PySem
namespace SupX_what
open PySem.W PySem.Calls PyProof.Rows PySem.HandSPX
/-! ### the text of such an __init__ -/
def iA (p1 p2 : Pos) : Arguments := { posonlyargs := [], args := [{ arg := "self", annotation := none, pos := p1 }, { arg := "what", annotation := none, pos := p2 }], vararg := none, kwonlyargs := [], kw_defaults := [], kwarg := none, defaults := [] }
def iB (m : Str) (k : Nat) (p0 p1 p2 p3 p4 p5 q1 q2 q3 q4 : Pos) : List Stmt :=
  [.Expr (.Call (.Attribute (.Call (.Name "super" p0) [] [] p1) "__init__" p2) [.Constant (.str m) k p3] [] p4) p5,
   .Assign [.Attribute (.Name "self" q1) "what" q2] (.Name "what" q3) q4]
def iS : Scope := { kind := .function, names := [(PySem.Str.ofString "self", .local), (PySem.Str.ofString "what", .local), (PySem.Str.ofString "__class__", .free), (PySem.Str.ofString "super", .globalImplicit)], isGenerator := false, isCoroutine := false, more := [] }
/-- what the written part says of such a class at C, its __init__ at fI -/
structure XTxt (P : Program) (K : Frag) (mg : Str → Option Value) (x : Str) (C fI : Addr) : Prop where
  gC : mg x = some (.ref C)
  nm : (x == ("__debug__" : Str)) = false
  sup : mg "super" = none
  cls : ∃ nm q N bs bm sn sub ab col dd k0 k1 k2 k3 k5, K.lookup C = some (excClassObj nm q C N bs bm true sn sub ab col dd k0 k1 k2 k3 k5 "ValueError.__new__") ∧ refsVE bm = true
  sa : findIn K (.ref C) "__setattr__" = some (some (.builtin "object.__setattr__"))
  noN : findIn K (.ref C) "what" = some none
  iC : findIn K (.ref C) "__init__" = some (some (.ref fI))
  tC : typeIn K (.ref fI) = some (.type "function")
  kC : keepIn K (.ref C) = true
  exC : subIn K (.ref C) (.type "BaseException") = some true
  veC : subIn K (.ref C) (.type "ValueError") = some true
  tyC : typeIn K (.ref C) = some (.type "type")
  te : exmOne K (.ref C) (.ref C) = some true
  xf : L2.XfC K C
  sIn : ks_superIn K C C "__init__" = some (some (.builtin "ValueError.__init__"))
  opq : nsIn K cStatics "thirdparty.any" = some none
  mro : mroIn K C (.ref C) = some true
  htop : (P.main.scope.names.lookup ("super" : Str)).isSome = false
  fn : ∃ (oc : Value) (od : Option Addr) (doc pm : Value) (an : Option Addr) (cda cc : Addr) (ct : Value) (osl : Array (Option Value)) (qual m : Str) (k : Nat) (r1 r2 p0 p1 p2 p3 p4 p5 q1 q2 q3 q4 : Pos)
      (ccl cl : Value) (cdd cld : Option Addr) (ccs csl : Array (Option Value)) (vs : Array Value) (file : Str) (tf : Tok),
    K.lookup fI = some ⟨oc, od, .func (ksFn "__init__" qual (iA r1 r2) (iB m k p0 p1 p2 p3 p4 p5 q1 q2 q3 q4) iS .none .none doc pm an (.ref cda) ct cc), osl⟩ ∧ codeIn K (.ref cda) qual = true ∧ (p2.endLine == p4.line) = true ∧
    K.lookup cda = some ⟨ccl, cdd, .fields vs, ccs⟩ ∧ vs[2]? = some (.str file tf) ∧ ((P.main.file : Str) == file) = true ∧ K.lookup cc = some ⟨cl, cld, .cell (some (.ref C)), csl⟩
/-- what __init__ leaves of a fresh exception at x -/
structure InitEnd (h h' : Heap) (x C dx : Addr) (v : Value) : Prop where
  keep : ∀ b o, b ≠ x → h.get? b = some o → h'.get? b = some o
  obj : ∃ t1 : Addr, h'.get? x = some { cls := .ref C, dict := some dx, data := .fields #[.ref t1, .none, .none, .none, .bool false, .none] }
  dbig : h.objs.size ≤ dx
  dne : dx ≠ x
  ns : h'.Ns1 dx (fun y => if y = "what" then some v else none)
theorem kept_but {K : Frag} {h h' : Heap} {x : Addr} (X : K.In h) (hx : K.lookup x = none) (k : ∀ b o, b ≠ x → h.get? b = some o → h'.get? b = some o) : K.In h' := fun a o e =>
  k a o (fun z => by rw [z, hx] at e; cases e) (X a o e)
theorem two_size (v : Value) : [v].length ≤ sizeLine := by
  rw [sizeLine_eq]
  exact (by decide : 1 ≤ 16777216)
section
variable {prog : Program} {w : World} {A : Around} {E : Value → Shared → Prop} {h : Heap} {g : Array GenState} {d : Drawn} {t : Nat} {os : OsState}
variable {nm q : Str} {C N : Addr} {bs bm : List Value} {hdct : Bool} {sn : List Str} {sub : List Value} {ab : Bool} {col : Option Bool} {dd : Option Addr} {k0 k1 k2 k3 k5 : Option Value}
/-- the bound ValueError.__init__, called -/
theorem call_bw {u e t0 : Addr} {rest : List Value} {Q : Value → Shared → Prop}
    (hC : h.get? C = some (excClassObj nm q C N bs bm hdct sn sub ab col dd k0 k1 k2 k3 k5 "ValueError.__new__")) (he : h.get? e = some (excO C t0)) (hu : h.get? u = some (kxs_mw "ValueError.__init__" e)) (hrest : rest.length ≤ sizeLine)
    (hq : ∀ h' t1, (∀ b o, b ≠ e → h.get? b = some o → h'.get? b = some o) → h'.get? e = some (excO C t1) → Q .none ⟨h', g, d, t, os⟩) :
    wpAny (model prog w) A (call (.ref u) rest) Q E ⟨h, g, d, t, os⟩ := by
  refine wpAny_call (codeAny_of_tree ?_)
  show wpAny _ A.in1 (callAny (.ref u) ⟨rest, []⟩) _ _ _
  simp only [callAny]
  refine wpAny_bind (wpAny_load hu ?_)
  simp only [kxs_mw, show (Value.type "method-wrapper" == Value.type "method" || Value.type "method-wrapper" == Value.type "builtin_function_or_method" || Value.type "method-wrapper" == Value.type "method-wrapper") = true by decide, if_true]
  refine W.KFB.if_so (by decide) ?_
  refine wpAny_bind (ESX.check_bound F.excBase_ValueError hC he rfl ?_)
  refine wpAny_bind (wpAny_pure (wpAny_pure ?_))
  refine ⟨Code.quiet_builtin _ (by decide +kernel), codeAny_builtin F.excBase_ValueError.initEntry ?_⟩
  rw [Around.under_plainId F.excBase_ValueError.init.plain _]
  wp_walk
  refine hq _ h.objs.size (fun b o hb ho => ?_) ?_
  · rw [Heap.get?_update_other _ _ (Ne.symm hb)]
    exact Heap.get?_push_of_some _ ho
  · rw [Heap.get?_update_self _ (Heap.get?_push_of_some _ he) rfl]
    rfl
end
section
variable {prog : Program} {w : World} {A : Around} {R : Result → Shared → Prop} {s : Shared} {K : Frag} {mg : Str → Option Value} {x : Str} {C fI : Addr}
theorem sup_init (T : XTxt prog K mg x C fI) {e t0 : Addr} {v : Value} (X : K.In s.heap) (hlim : s.heap.NoLimit) (hg : s.heap.Ns mainGlobals mg) (hb : ∃ mb, s.heap.Ns builtinsNs mb ∧ ∀ y : Str, y ≠ "__name__" → mb y = bootBuiltins y)
    (hx : s.heap.get? e = some (excO C t0)) (hnx : K.lookup e = none) (hroom : A.depth < recursionLimit)
    (hq : ∀ h' tk dx, InitEnd s.heap h' e C dx v → R (.ok (.ret .none)) { s with heap := h', toks := tk }) :
    codeAny (model prog w) A (.call (.ref fI) ⟨[.ref e, v], []⟩) R s := by
  obtain ⟨oc, od, doc, pm, an, cda, cc, ct, osl, qual, m, k, r1, r2, p0, p1, p2, p3, p4, p5, q1, q2, q3, q4, ccl, cl, cdd, cld, ccs, csl, vs, file, tf, ho, hcd, hln, hcode, hvs, hfile, hcell⟩ := T.fn
  obtain ⟨nm, q, N, bs, bm, sn, sub, ab, col, dd, k0, k1, k2, k3, k5, hC, hbm⟩ := T.cls
  obtain ⟨mb, hb1, hb2⟩ := hb
  have hcl : clsIn K C = some { name := nm, bases := bs, mro := .ref C :: bm, ns := N, qualname := q, hasDict := true, slotNames := sn, subclasses := sub, abstract := ab, collection := col, hasDel := false } := by unfold clsIn; rw [hC] <;> rfl
  refine ks_codeAny_call_defAt (fd := ksFn "__init__" qual (iA r1 r2) (iB m k p0 p1 p2 p3 p4 p5 q1 q2 q3 q4) iS .none .none doc pm an (.ref cda) ct cc) (body := iB m k p0 p1 p2 p3 p4 p5 q1 q2 q3 q4) (binds := [("self", .ref e), ("what", v)])
    hroom (X _ _ ho) rfl hlim (codeRec_of X hcd) rfl (BindsTo.of_eq ?_) ?_ ?_ (fun h₁ hns hk₁ => ?_) rfl rfl rfl
  · first | rfl | with_unfolding_all rfl
  · intro y hy
    have hy2 : y ∈ [(PySem.Str.ofString "self", NameKind.local), (PySem.Str.ofString "what", .local), (PySem.Str.ofString "__class__", .free), (PySem.Str.ofString "super", .globalImplicit)] := hy
    simp only [List.mem_cons, List.not_mem_nil, or_false] at hy2
    rcases hy2 with rfl | rfl | rfl | rfl <;> intro z <;> cases z
  · intro y hy
    simp only [List.mem_cons, List.not_mem_nil, or_false] at hy
    rcases hy with rfl | rfl <;> rfl
  -- the frame: self, the field's value
  have X₁ : K.In h₁ := X.keeps hk₁
  have hx₁ := hk₁ _ _ hx
  have hC₁ := X₁ _ _ hC
  show _root_.PySem.wpAt _ _ _ (execs (iB m k p0 p1 p2 p3 p4 p5 q1 q2 q3 q4) _) _ _ _
  refine ks_wpAt_execs_cons (ks_wpAt_Expr_any (ks_wpAt_MethodCall (pl := (do return (← importBound (.Call (.Name "super" p0) [] [] p1) (callEnv
          (ksFn "__init__" qual (iA r1 r2) (iB m k p0 p1 p2 p3 p4 p5 q1 q2 q3 q4) iS .none .none doc pm an (.ref cda) ct cc) s.heap.objs.size fI)).getD true)) ?_ ?he) rfl rfl)
  case he =>
    rw [eval]
    unfold methodCall methodCallPos
    simp only [hln, Bool.or_true, if_true, pure_bind]
    rfl
  refine ks_wpAt_super_base (f := fI) (cc := cda) rfl rfl (by decide +kernel) rfl (X₁ _ _ ho) rfl rfl rfl (X₁ _ _ hcode) rfl hvs hfile T.htop ?_
  refine ks_loadName_global rfl rfl (loadGlobal_builtin (hg.keeps hk₁) T.sup (hb1.keeps hk₁) ((hb2 _ (by decide +kernel)).trans (show bootBuiltins "super" = some (.type "super") by first | rfl | decide +kernel | kernel_rfl)) ⟨rfl, ?_⟩)
  refine wpAny_loadName_free rfl rfl rfl ⟨_, X₁ _ _ hcell, rfl⟩ ?_
  refine wpAny_loadName_local (v := .ref e) rfl rfl hns (by rfl) ?_
  refine ks_wpAny_isType_cls hC₁ rfl ⟨rfl, ?_⟩
  refine ks_wpAny_call_super hC₁ rfl hx₁ rfl (fun c z => nomatch z) (looks_mroIn X₁ T.mro) (fun h₂ e₂ k₂ => ?_)
  have X₂ : K.In h₂ := X₁.keeps k₂
  have hx₂ := k₂ _ _ hx₁
  have hC₂ := X₂ _ _ hC
  have I₂ : InstAt h₂ e (excO C t0) C none := ⟨hx₂, rfl, rfl, trivial⟩
  have hI : Looks (model prog w) h₂ (isInstance (.ref e) (.type "ValueError")) true := I₂.type.andThen (looks_subIn X₂ T.veC)
  have hsi : alongIn K "__init__" (((Value.ref C :: bm).dropWhile (· != .ref C)).drop 1) = some (some (.builtin "ValueError.__init__")) := by
    have z := T.sIn
    unfold ks_superIn at z
    rw [hcl] at z
    exact z
  have hmro : Looks (model prog w) h₂ (mroOf (.ref C)) (Value.ref C :: bm) := fun A' Q' E' s' k' q' => wpAny_bind ((looks_clsIn X₂ hcl) A' _ E' s' k' (wpAny_pure q'))
  refine kxs_getMethod kxs_ValueError e₂ (looks_opaque X₂ T.opq) hmro rfl X₂ hsi hI (ks_ne X₂ I₂ hcl) (by decide +kernel) ?_
  have hu : (h₂.push (kxs_mw "ValueError.__init__" e)).get? h₂.objs.size = some (kxs_mw "ValueError.__init__" e) := by heap_get
  have k₃ : ∀ b o, h₂.get? b = some o → (h₂.push (kxs_mw "ValueError.__init__" e)).get? b = some o := fun b o z => Heap.get?_push_of_some _ z
  refine kxs_callWith (i := "ValueError.__init__") (x := e) (by rfl) ?_
  refine evalArgs_plain (spliced_cons ?_)
  show wpAny _ _ (eval (.Constant (.str m) k p3) _) _ _ _
  refine Constant_str (spliced_nil ⟨hu, ?_⟩)
  refine call_bw (k₃ _ _ hC₂) (k₃ _ _ hx₂) hu (two_size _) (fun h₄ t4 k₄ hx₄ => ?_)
  have k₅ : ∀ b o, b ≠ e → s.heap.get? b = some o → h₄.get? b = some o := fun b o z y => k₄ b o z (k₃ _ _ (k₂ _ _ (hk₁ _ _ y)))
  have X₄ : K.In h₄ := kept_but (X₂.keeps k₃) hnx k₄
  have hLe : s.heap.objs.size ≠ e := Nat.ne_of_gt (Heap.lt_size hx)
  have hns₄ : h₄.Ns s.heap.objs.size (fun y => List.lookup y ([(("self" : Str), Value.ref e), (("what" : Str), v)] : List (Str × Value)).reverse) := by
    obtain ⟨oL, es, ep, hL, r⟩ := hns
    exact ⟨oL, es, ep, k₄ _ _ hLe (k₃ _ _ (k₂ _ _ hL)), r⟩
  show wpAt _ _ _ (execs [.Assign [.Attribute (.Name "self" q1) "what" q2] (.Name "what" q3) q4] _) _ _ _
  refine wpAt_of_wpAny (wpAny_execs_cons (plainObj_wpAny_Assign_Attribute ?_))
  refine ESX.ldL (v := v) hns₄ (by rfl) (ESX.ldL (v := .ref e) hns₄ (by rfl) ?_)
  refine set_plain X₄ (ox := excO C t4) (od := none) ⟨hx₄, rfl, rfl, trivial⟩ T.sa ?_
  refine exc_osa X₄ hx₄ hcl (show refsVE (.ref C :: bm) = true from hbm) rfl T.noN (fun h₆ tk₆ dx k₆ dn dne hx₆ hn₆ => ?_)
  refine wpAny_execs_nil (hq h₆ tk₆ dx ⟨fun b o hb y => k₆ b o hb (k₅ b o hb y), ⟨t4, hx₆⟩, ?_, dne, hn₆⟩)
  have z : s.heap.objs.size < h₄.objs.size := hns₄.lt
  exact Nat.le_of_lt (Nat.lt_of_lt_of_le z dn)
/-- a made exception -/
structure OwnMade (h h' : Heap) (e C d : Addr) (v : Value) : Prop where
  keep : ∀ b o, h.get? b = some o → h'.get? b = some o
  new : h.objs.size ≤ e
  obj : ∃ t1 : Addr, h'.get? e = some { cls := .ref C, dict := some d, data := .fields #[.ref t1, .none, .none, .none, .bool false, .none] }
  dbig : h.objs.size ≤ d
  dne : d ≠ e
  ns : h'.Ns1 d (fun y => if y = "what" then some v else none)
theorem sup_made (T : XTxt prog K mg x C fI) {v : Value} (X : K.In s.heap) (hlim : s.heap.NoLimit) (hg : s.heap.Ns mainGlobals mg) (hb : ∃ mb, s.heap.Ns builtinsNs mb ∧ ∀ y : Str, y ≠ "__name__" → mb y = bootBuiltins y) (hroom : A.depth + 1 < recursionLimit)
    (hq : ∀ h' tk e d, OwnMade s.heap h' e C d v → R (.ok (.ret (.ref e))) { s with heap := h', toks := tk }) :
    codeAny (model prog w) A (.call (.ref C) ⟨[v], []⟩) R s := by
  obtain ⟨nm, q, N, bs, bm, sn, sub, ab, col, dd, k0, k1, k2, k3, k5, hC, hbm⟩ := T.cls
  obtain ⟨mb, hb1, hb2⟩ := hb
  obtain ⟨hp, g, dr, tk, os⟩ := s
  have k : ∀ b o, hp.get? b = some o → ((hp.push (kdv_tup [v])).push (excO C hp.objs.size)).get? b = some o := fun b o e => Heap.get?_push_of_some _ (Heap.get?_push_of_some _ e)
  have hget : ((hp.push (kdv_tup [v])).push (excO C hp.objs.size)).get? (hp.objs.size + 1) = some (excO C hp.objs.size) := by heap_get
  have hnx : K.lookup (hp.objs.size + 1) = none := by
    cases e : K.lookup (hp.objs.size + 1) with
    | none => rfl
    | some o =>
      have z : hp.get? (hp.objs.size + 1) = some o := X _ _ e
      exact absurd (Nat.lt_of_succ_lt (Heap.lt_size z)) (Nat.lt_irrefl _)
  refine call_own F.excBase_ValueError (fun X => refsVE_contains X bm hbm) (X _ _ hC) (looks_findIn X T.iC) (fun self => bind_fn X self T.tC) (two_size v) ?_
  refine sup_init (s := ⟨(hp.push (kdv_tup [v])).push (excO C hp.objs.size), g, dr, tk, os⟩) T (X.keeps k) (hlim.keeps k) (hg.keeps k) ⟨mb, hb1.keeps k, hb2⟩ hget hnx ?_ fun h' tk' dx M => ?_
  · show A.depth + 1 < recursionLimit
    exact hroom
  · obtain ⟨k', hx, dn, dne, hns⟩ := M
    have old : ∀ b o, hp.get? b = some o → h'.get? b = some o := fun b o e => k' b o (Nat.ne_of_lt (Nat.lt_succ_of_lt (Heap.lt_size e))) (k b o e)
    have z : hp.objs.size + 1 + 1 ≤ dx := by
      first
        | (simpa only [Heap.size_push] using dn)
        | exact dn
        | (have q := dn; rw [Heap.size_push, Heap.size_push] at q; exact q)
    exact ⟨rfl, hq h' tk' (hp.objs.size + 1) dx ⟨old, Nat.le_succ _, hx, Nat.le_trans (Nat.le_trans (Nat.le_succ _) (Nat.le_succ _)) z, dne, hns⟩⟩
end
end SupX_what
end PySem
namespace L2
namespace Sup_what
open PySem PySem.Spec PyProof.Rows PySem.SupX_what
section
variable {X : Cx} {C fI : Addr} {x : Str}
theorem gblt {pins : List (Addr × Obj)} {σ : St} {H : Hp} {s : Shared} (I : Inv X pins σ H s) : ∃ mb, s.heap.Ns builtinsNs mb ∧ ∀ y : Str, y ≠ "__name__" → mb y = bootBuiltins y := by
  obtain ⟨mb, h1, h2⟩ := I.mod.blt
  exact ⟨mb, h1.keeps I.bk, h2⟩
theorem pmk_sup {a : Expr} {ta : TA} {p pos : Pos} {k : Nat} (T : XTxt X.prog X.K X.mg x C fI) (hr : Room k X.A) (ha : PA X [a] ta) (hg : Gl X x := by rfl)
    (he : starEach (a :: []) X.env = (false, eval a X.env) :: starEach [] X.env := by rfl) (hpl : (backTo pos (starEach [] X.env)).any (·.1) = false := by rfl) :
    PMk X (.Call (.Name x p) [a] [] pos) (tMkX C "what" ta) := by
  intro pins s σ H Q I h
  refine wpAny_Call_Name_kw (ld_glob I hg T.gC ?_ T.nm)
  refine PySem.W.callWith_K (h₀ := X.base) I.ok.mod.kin T.kC (thn (ha.run pos pins s σ H _ I h) fun us s1 hh => ?_) he hpl
  obtain ⟨vs, H1, I1, r1, v, ev, q1⟩ := hh
  subst ev
  refine ⟨I1.kIn, ?_⟩
  cases r1 with
  | cons rv rn =>
    rename_i v' us'
    cases rn
    show wpAny _ _ (call (.ref C) [v']) _ _ _
    have hlim := I1.nolimit
    have hgl := I1.mod.glob.keeps I1.bk
    have hbl := gblt I1
    obtain ⟨hp, g, dr, tk, os⟩ := s1
    refine wpAny_call (sup_made T I1.kIn hlim hgl hbl (by have := hr.dp; omega) fun h' tk' e d M => ?_)
    show MkP X pins σ Q (.ref e) ⟨h', g, dr, tk', os⟩
    obtain ⟨t1, hoe⟩ := M.obj
    have hns := M.ns
    obtain ⟨G', g1, g2⟩ := restrict h' fun b => decide (b ≠ e)
    have gk : ∀ b, b ≠ e → G'.get? b = h'.get? b := fun b hb => g1 b (decide_eq_true hb)
    have ge : G'.get? e = none := g2 e (by simp)
    have old : ∀ b o, hp.get? b = some o → G'.get? b = some o := fun b o q => (gk b (Nat.ne_of_lt (Nat.lt_of_lt_of_le (Heap.lt_size q) M.new))).trans (M.keep b o q)
    have ob : ObjOk X.prog X.w (upd H1 d (.xd [(("what" : Str), v)])) G' d (.xd [(("what" : Str), v)]) :=
      ⟨_, hns.at (fun o q => (gk d M.dne).trans q), fun f => relO_one rv f⟩
    have J : Inv X pins σ (upd H1 d (.xd [(("what" : Str), v)])) ⟨G', g, dr, tk', os⟩ := I1.laid (t' := tk') old M.dbig ob
    refine ⟨e, _, _, ⟨G', g, dr, tk', os⟩, _, .ref C, some d, rfl, J, fun b o q => ?_, ge, hoe, ⟨rfl, rfl⟩, rfl, rfl, ?_, rfl, I1.bare, raises_own T.exC T.tyC, q1 d (I1.hok.fresh M.dbig)⟩
    · by_cases hb : b = e
      · have q' : G'.get? b = some o := q
        rw [hb, ge] at q'; cases q'
      · exact (gk b hb).symm.trans q
    · rw [upd_ne (Ne.symm M.dne)]
      exact I1.hok.fresh M.new
/-- raise C(e) -/
theorem ps_raiseSup {a : Expr} {ta : TA} {W : WX} {p pos pos2 : Pos} {k : Nat} (hc : X.calm = true) (T : XTxt X.prog X.K X.mg x C fI) (hr : Room k X.A) (tk : Takes X W) (ha : PA X [a] ta) (hg : Gl X x := by rfl)
    (he : starEach (a :: []) X.env = (false, eval a X.env) :: starEach [] X.env := by rfl) (hpl : (backTo pos (starEach [] X.env)).any (·.1) = false := by rfl) :
    PS X (.Raise (some (.Call (.Name x p) [a] [] pos)) none pos2) (fun _ σ H => tMkX C "what" ta σ H fun cls d H' => W cls d σ H') := ps_raise hc tk (pmk_sup T hr ha hg he hpl)
theorem pmk_supN {a : Expr} {ta : TA} {p pos : Pos} {k : Nat} (T : XTxt X.prog X.K X.mg x C fI) (hr : Room k X.A) (ha : PA X [a] ta) (hg : Gl X x := by rfl)
    (he : starEach (a :: []) X.env = (false, eval a X.env) :: starEach [] X.env := by rfl) (hpl : (backTo pos (starEach [] X.env)).any (·.1) = false := by rfl) :
    L2N.PMk X (.Call (.Name x p) [a] [] pos) (tMkX C "what" ta) := by
  intro pins s σ H Q I h
  refine wpAny_Call_Name_kw (ld_glob I hg T.gC ?_ T.nm)
  refine PySem.W.callWith_K (h₀ := X.base) I.ok.mod.kin T.kC (thn (ha.run pos pins s σ H _ I h) fun us s1 hh => ?_) he hpl
  obtain ⟨vs, H1, I1, r1, v, ev, q1⟩ := hh
  subst ev
  refine ⟨I1.kIn, ?_⟩
  cases r1 with
  | cons rv rn =>
    rename_i v' us'
    cases rn
    show wpAny _ _ (call (.ref C) [v']) _ _ _
    have hlim := I1.nolimit
    have hgl := I1.mod.glob.keeps I1.bk
    have hbl := gblt I1
    obtain ⟨hp, g, dr, tk, os⟩ := s1
    refine wpAny_call (sup_made T I1.kIn hlim hgl hbl (by have := hr.dp; omega) fun h' tk' e d M => ?_)
    show L2N.MkP X pins σ Q (.ref e) ⟨h', g, dr, tk', os⟩
    obtain ⟨t1, hoe⟩ := M.obj
    have hns := M.ns
    obtain ⟨G', g1, g2⟩ := restrict h' fun b => decide (b ≠ e)
    have gk : ∀ b, b ≠ e → G'.get? b = h'.get? b := fun b hb => g1 b (decide_eq_true hb)
    have ge : G'.get? e = none := g2 e (by simp)
    have old : ∀ b o, hp.get? b = some o → G'.get? b = some o := fun b o q => (gk b (Nat.ne_of_lt (Nat.lt_of_lt_of_le (Heap.lt_size q) M.new))).trans (M.keep b o q)
    have ob : ObjOk X.prog X.w (upd H1 d (.xd [(("what" : Str), v)])) G' d (.xd [(("what" : Str), v)]) :=
      ⟨_, hns.at (fun o q => (gk d M.dne).trans q), fun f => relO_one rv f⟩
    have J : Inv X pins σ (upd H1 d (.xd [(("what" : Str), v)])) ⟨G', g, dr, tk', os⟩ := I1.laid (t' := tk') old M.dbig ob
    refine ⟨e, _, _, ⟨G', g, dr, tk', os⟩, _, .ref C, some d, rfl, J, fun b o q => ?_, ge, hoe, ⟨rfl, rfl, fun vs e => by cases e; rfl⟩, rfl, rfl, ?_, rfl, I1.bare, raises_own T.exC T.tyC, q1 d (I1.hok.fresh M.dbig)⟩
    · by_cases hb : b = e
      · have q' : G'.get? b = some o := q
        rw [hb, ge] at q'; cases q'
      · exact (gk b hb).symm.trans q
    · rw [upd_ne (Ne.symm M.dne)]
      exact I1.hok.fresh M.new
/-- raise C(e) -/
theorem ps_raiseSupN {a : Expr} {ta : TA} {W : WX} {p pos pos2 : Pos} {k : Nat} (hc : X.calm = true) (T : XTxt X.prog X.K X.mg x C fI) (hr : Room k X.A) (tk : L2N.Takes X W) (ha : PA X [a] ta) (hg : Gl X x := by rfl)
    (he : starEach (a :: []) X.env = (false, eval a X.env) :: starEach [] X.env := by rfl) (hpl : (backTo pos (starEach [] X.env)).any (·.1) = false := by rfl) :
    PS X (.Raise (some (.Call (.Name x p) [a] [] pos)) none pos2) (fun _ σ H => tMkX C "what" ta σ H fun cls d H' => W cls d σ H')   := L2N.ps_raise hc tk (pmk_supN T hr ha hg he hpl)
/-- C(e) as a value -/
theorem pe_supV {a : Expr} {ta : TA} {p pos : Pos} {k : Nat} (T : XTxt X.prog X.K X.mg x C fI) (hr : Room k X.A) (ha : PA X [a] ta) (hg : Gl X x := by rfl)
    (he : starEach (a :: []) X.env = (false, eval a X.env) :: starEach [] X.env := by rfl) (hpl : (backTo pos (starEach [] X.env)).any (·.1) = false := by rfl) :
    PE X (.Call (.Name x p) [a] [] pos) (tExV C "what" ta) := by
  refine ⟨fun pins s σ H Q I h => ?_⟩
  refine wpAny_Call_Name_kw (ld_glob I hg T.gC ?_ T.nm)
  refine PySem.W.callWith_K (h₀ := X.base) I.ok.mod.kin T.kC (thn (ha.run pos pins s σ H _ I h) fun us s1 hh => ?_) he hpl
  obtain ⟨vs, H1, I1, r1, v, ev, q1⟩ := hh
  subst ev
  refine ⟨I1.kIn, ?_⟩
  cases r1 with
  | cons rv rn =>
    rename_i v' us'
    cases rn
    show wpAny _ _ (call (.ref C) [v']) _ _ _
    have hlim := I1.nolimit
    have hgl := I1.mod.glob.keeps I1.bk
    have hbl := gblt I1
    obtain ⟨hp, g, dr, tk, os⟩ := s1
    refine wpAny_call (sup_made T I1.kIn hlim hgl hbl (by have := hr.dp; omega) fun h' tk' e d M => ?_)
    obtain ⟨t1, hoe⟩ := M.obj
    have hne : H1 e = none := I1.hok.fresh M.new
    have hnd : H1 d = none := I1.hok.fresh M.dbig
    have nde : ∀ {b : Addr} {o : Obj}, hp.get? b = some o → b ≠ e := fun {b o} z => Nat.ne_of_lt (Nat.lt_of_lt_of_le (Heap.lt_size z) M.new)
    have ndd : ∀ {b : Addr} {o : Obj}, hp.get? b = some o → b ≠ d := fun {b o} z => Nat.ne_of_lt (Nat.lt_of_lt_of_le (Heap.lt_size z) M.dbig)
    have two : ∀ {b : Addr} {o : HO}, H1 b = some o → upd (upd H1 d (.xd [(("what" : Str), v)])) e (exo e C (some d)) b = some o := fun {b o} z => by
      rw [upd_ne (ne_of_none z hne), upd_ne (ne_of_none z hnd)]
      exact z
    have U : Un X.fs [] H1 (upd (upd H1 d (.xd [(("what" : Str), v)])) e (exo e C (some d))) hp h' := {
      keep := fun b u z _ _ _ => M.keep b u z
      slot := fun b u z _ _ _ => ⟨u.slots, M.keep b u z⟩
      free := fun b u z n _ => by rw [upd_ne (nde z), upd_ne (ndd z)]; exact n
      there := fun b u z _ => ⟨u, M.keep b u z⟩
      tups := fun b xs z => two z
      frzs := fun b u xs z => two z
      tbls := fun b ps z => ⟨#[], by rw [two z]; simp⟩ }
    have ok2 : HOk X.prog X.w (upd (upd H1 d (.xd [(("what" : Str), v)])) e (exo e C (some d))) h' := fun b o z => by
      by_cases hb : b = e
      · subst hb
        rw [upd_same] at z
        cases z
        exact exo_ok hoe
      · rw [upd_ne hb] at z
        by_cases hd : b = d
        · subst hd
          rw [upd_same] at z
          cases z
          exact ⟨_, M.ns, fun f => relO_one rv f⟩
        · rw [upd_ne hd] at z
          exact (I1.hok b o z).stay (fun c u _ q => M.keep c u q) (fun c q => two q) fun c xs q => two q
    have J2 : Inv X pins σ (upd (upd H1 d (.xd [(("what" : Str), v)])) e (exo e C (some d))) ⟨h', g, dr, tk', os⟩ := I1.un (t' := tk') U ok2
    exact ⟨.ref e, _, J2, rfl, q1 e d hne hnd M.dne⟩
end
end Sup_what
end L2

set_option Elab.async false
set_option linter.all false
set_option maxRecDepth 100000
set_option maxHeartbeats 2000000
namespace K35
open PySem L2 Sx
def top (i : Nat) : Stmt := PySem.Challenge.pw_nextguess_k35_means.main.body.getD i (.Pass ⟨0, 0, 0, 0⟩)
abbrev s_is_an_integer : Stmt := top 3
abbrev s_is_number : Stmt := top 4
abbrev s_is_value : Stmt := top 5
abbrev s_is_pair : Stmt := top 6
abbrev s_is_share : Stmt := top 14
abbrev s_is_chance : Stmt := top 15
abbrev s_are_chances : Stmt := top 16
abbrev s_share_of : Stmt := top 17
abbrev s_plus : Stmt := top 18
abbrev s_less : Stmt := top 19
abbrev s_times : Stmt := top 20
abbrev s_is_row : Stmt := top 24
abbrev s_with_value : Stmt := top 26
abbrev s_are_rows : Stmt := top 35
abbrev s_Rules____init__ : Stmt := inClass (top 36) 0
abbrev s_Rules____eq__ : Stmt := inClass (top 36) 1
abbrev s_Rules____len__ : Stmt := inClass (top 36) 2
abbrev s_ties_of : Stmt := top 28
abbrev s_is_drawn : Stmt := top 30
abbrev s_demand_drawn : Stmt := top 31
abbrev s_sums_of : Stmt := top 32
abbrev s_means_of : Stmt := top 33
abbrev s__law_flow : Stmt := top 38
abbrev s__law_take : Stmt := top 39
abbrev s__law_full : Stmt := top 40
abbrev s__law_row : Stmt := top 41
abbrev s__law_walk : Stmt := top 42
abbrev s__law_numbers : Stmt := top 43
abbrev s__law_divisor : Stmt := top 44
abbrev s__law_chance : Stmt := top 45
abbrev s__law_same : Stmt := top 46
abbrev s__law_ties : Stmt := top 47
abbrev s__law_is_chance : Stmt := top 48
abbrev s__law_is_guess : Stmt := top 49
abbrev s__law_means : Stmt := top 50
abbrev s__law_spoilt : Stmt := top 51
abbrev s__law_asked : Stmt := top 52
abbrev s__law_object_refused : Stmt := top 53
abbrev s__law_all : Stmt := top 54
abbrev s_law : Stmt := top 55
theorem sc_is_an_integer : FnScope ["value"] ["value"] (defScope s_is_an_integer) := ⟨rfl, rfl, rfl, by decide +kernel, rfl, by decide +kernel, by decide +kernel⟩
theorem sc_is_number : FnScope ["value"] ["value"] (defScope s_is_number) := ⟨rfl, rfl, rfl, by decide +kernel, rfl, by decide +kernel, by decide +kernel⟩
theorem sc_is_value : FnScope ["value"] ["value"] (defScope s_is_value) := ⟨rfl, rfl, rfl, by decide +kernel, rfl, by decide +kernel, by decide +kernel⟩
theorem sc_is_pair : FnScope ["value"] ["value"] (defScope s_is_pair) := ⟨rfl, rfl, rfl, by decide +kernel, rfl, by decide +kernel, by decide +kernel⟩
theorem sc_is_share : FnScope ["value", "member"] ["value"] (defScope s_is_share) := ⟨rfl, rfl, rfl, by decide +kernel, rfl, by decide +kernel, by decide +kernel⟩
theorem sc_is_chance : FnScope ["value"] ["value"] (defScope s_is_chance) := ⟨rfl, rfl, rfl, by decide +kernel, rfl, by decide +kernel, by decide +kernel⟩
theorem sc_are_chances : FnScope ["value", "many", "member"] ["value", "many"] (defScope s_are_chances) := ⟨rfl, rfl, rfl, by decide +kernel, rfl, by decide +kernel, by decide +kernel⟩
theorem sc_share_of : FnScope ["a", "b", "common"] ["a", "b"] (defScope s_share_of) := ⟨rfl, rfl, rfl, by decide +kernel, rfl, by decide +kernel, by decide +kernel⟩
theorem sc_plus : FnScope ["one", "other"] ["one", "other"] (defScope s_plus) := ⟨rfl, rfl, rfl, by decide +kernel, rfl, by decide +kernel, by decide +kernel⟩
theorem sc_less : FnScope ["one", "other"] ["one", "other"] (defScope s_less) := ⟨rfl, rfl, rfl, by decide +kernel, rfl, by decide +kernel, by decide +kernel⟩
theorem sc_times : FnScope ["one", "other"] ["one", "other"] (defScope s_times) := ⟨rfl, rfl, rfl, by decide +kernel, rfl, by decide +kernel, by decide +kernel⟩
theorem sc_is_row : FnScope ["value", "size", "member"] ["value", "size"] (defScope s_is_row) := ⟨rfl, rfl, rfl, by decide +kernel, rfl, by decide +kernel, by decide +kernel⟩
theorem sc_with_value : FnScope ["row", "point", "value"] ["row", "point", "value"] (defScope s_with_value) := ⟨rfl, rfl, rfl, by decide +kernel, rfl, by decide +kernel, by decide +kernel⟩
theorem sc_are_rows : FnScope ["rows", "size", "row"] ["rows", "size"] (defScope s_are_rows) := ⟨rfl, rfl, rfl, by decide +kernel, rfl, by decide +kernel, by decide +kernel⟩
theorem sc_Rules____init__ : FnScope ["self", "size", "rows", "row"] ["self", "size", "rows"] (defScope s_Rules____init__) := ⟨rfl, rfl, rfl, by decide +kernel, rfl, by decide +kernel, by decide +kernel⟩
theorem sc_Rules____eq__ : FnScope ["self", "other"] ["self", "other"] (defScope s_Rules____eq__) := ⟨rfl, rfl, rfl, by decide +kernel, rfl, by decide +kernel, by decide +kernel⟩
theorem sc_Rules____len__ : FnScope ["self"] ["self"] (defScope s_Rules____len__) := ⟨rfl, rfl, rfl, by decide +kernel, rfl, by decide +kernel, by decide +kernel⟩
theorem sc_ties_of : FnScope ["rules", "row", "numbers", "ties", "i", "point", "higher", "number"] ["rules"] (defScope s_ties_of) := ⟨rfl, rfl, rfl, by decide +kernel, rfl, by decide +kernel, by decide +kernel⟩
theorem sc_is_drawn : FnScope ["rules", "value"] ["rules", "value"] (defScope s_is_drawn) := ⟨rfl, rfl, rfl, by decide +kernel, rfl, by decide +kernel, by decide +kernel⟩
theorem sc_demand_drawn : FnScope ["rules", "drawn"] ["rules", "drawn"] (defScope s_demand_drawn) := ⟨rfl, rfl, rfl, by decide +kernel, rfl, by decide +kernel, by decide +kernel⟩
theorem sc_sums_of : FnScope ["rules", "weights", "drawn", "sums", "i", "j", "point", "yes"] ["rules", "weights", "drawn"] (defScope s_sums_of) := ⟨rfl, rfl, rfl, by decide +kernel, rfl, by decide +kernel, by decide +kernel⟩
theorem sc_means_of : FnScope ["rules", "drawn"] ["rules", "drawn"] (defScope s_means_of) := ⟨rfl, rfl, rfl, by decide +kernel, rfl, by decide +kernel, by decide +kernel⟩
theorem sc__law_flow : FnScope ["script", "place", "cell"] ["script", "place"] (defScope s__law_flow) := ⟨rfl, rfl, rfl, by decide +kernel, rfl, by decide +kernel, by decide +kernel⟩
theorem sc__law_take : FnScope ["flow", "limit", "digit", "mixed"] ["flow", "limit"] (defScope s__law_take) := ⟨rfl, rfl, rfl, by decide +kernel, rfl, by decide +kernel, by decide +kernel⟩
theorem sc__law_full : FnScope ["size"] ["size"] (defScope s__law_full) := ⟨rfl, rfl, rfl, by decide +kernel, rfl, by decide +kernel, by decide +kernel⟩
theorem sc__law_row : FnScope ["number", "size", "row", "k"] ["number", "size"] (defScope s__law_row) := ⟨rfl, rfl, rfl, by decide +kernel, rfl, by decide +kernel, by decide +kernel⟩
theorem sc__law_walk : FnScope ["flow", "size", "most", "full", "found", "due", "k", "number", "shape"] ["flow", "size", "most"] (defScope s__law_walk) := ⟨rfl, rfl, rfl, by decide +kernel, rfl, by decide +kernel, by decide +kernel⟩
theorem sc__law_numbers : FnScope ["flow", "shape", "size", "full", "numbers", "k"] ["flow"] (defScope s__law_numbers) := ⟨rfl, rfl, rfl, by decide +kernel, rfl, by decide +kernel, by decide +kernel⟩
theorem sc__law_divisor : FnScope ["one", "other", "k", "rest"] ["one", "other"] (defScope s__law_divisor) := ⟨rfl, rfl, rfl, by decide +kernel, rfl, by decide +kernel, by decide +kernel⟩
theorem sc__law_chance : FnScope ["flow", "great", "shape", "lower", "upper", "divisor"] ["flow", "great"] (defScope s__law_chance) := ⟨rfl, rfl, rfl, by decide +kernel, rfl, by decide +kernel, by decide +kernel⟩
theorem sc__law_same : FnScope ["actual", "due", "k"] ["actual", "due"] (defScope s__law_same) := ⟨rfl, rfl, rfl, by decide +kernel, rfl, by decide +kernel, by decide +kernel⟩
theorem sc__law_ties : FnScope ["size", "numbers", "bits", "found", "i", "k", "j"] ["size", "numbers"] (defScope s__law_ties) := ⟨rfl, rfl, rfl, by decide +kernel, rfl, by decide +kernel, by decide +kernel⟩
theorem sc__law_is_chance : FnScope ["value", "part"] ["value"] (defScope s__law_is_chance) := ⟨rfl, rfl, rfl, by decide +kernel, rfl, by decide +kernel, by decide +kernel⟩
theorem sc__law_is_guess : FnScope ["value", "many", "part"] ["value", "many"] (defScope s__law_is_guess) := ⟨rfl, rfl, rfl, by decide +kernel, rfl, by decide +kernel, by decide +kernel⟩
theorem sc__law_means : FnScope ["numbers", "ties", "chances", "found", "k", "upper", "lower", "side", "rule", "ahead", "means", "pair", "divisor", "number"] ["numbers", "ties", "chances"] (defScope s__law_means) := ⟨rfl, rfl, rfl, by decide +kernel, rfl, by decide +kernel, by decide +kernel⟩
theorem sc__law_spoilt : FnScope ["flow", "guess", "shape", "at", "upper", "lower", "bad"] ["flow", "guess"] (defScope s__law_spoilt) := ⟨rfl, rfl, rfl, by decide +kernel, rfl, by decide +kernel, by decide +kernel⟩
theorem sc__law_asked : FnScope ["rules", "numbers", "ties", "value", "named", "actual", "e"] ["rules", "numbers", "ties", "value", "named"] (defScope s__law_asked) := ⟨rfl, rfl, rfl, by decide +kernel, rfl, by decide +kernel, by decide +kernel⟩
theorem sc__law_object_refused : FnScope ["rules", "e"] ["rules"] (defScope s__law_object_refused) := ⟨rfl, rfl, rfl, by decide +kernel, rfl, by decide +kernel, by decide +kernel⟩
theorem sc__law_all : FnScope ["script", "one", "other", "first", "second", "ties", "other_ties", "asked", "k", "flow", "great", "guess", "turn", "value", "due", "number", "tie"] ["script"] (defScope s__law_all) := ⟨rfl, rfl, rfl, by decide +kernel, rfl, by decide +kernel, by decide +kernel⟩
theorem sc_law : FnScope ["script"] ["script"] (defScope s_law) := ⟨rfl, rfl, rfl, by decide +kernel, rfl, by decide +kernel, by decide +kernel⟩
structure Ad where
  a_is_an_integer : Addr
  d_is_an_integer : FuncData
  a_is_number : Addr
  d_is_number : FuncData
  a_is_value : Addr
  d_is_value : FuncData
  a_is_pair : Addr
  d_is_pair : FuncData
  a_is_share : Addr
  d_is_share : FuncData
  a_is_chance : Addr
  d_is_chance : FuncData
  a_are_chances : Addr
  d_are_chances : FuncData
  a_share_of : Addr
  d_share_of : FuncData
  a_plus : Addr
  d_plus : FuncData
  a_less : Addr
  d_less : FuncData
  a_times : Addr
  d_times : FuncData
  a_is_row : Addr
  d_is_row : FuncData
  a_with_value : Addr
  d_with_value : FuncData
  a_are_rows : Addr
  d_are_rows : FuncData
  a_Rules____init__ : Addr
  d_Rules____init__ : FuncData
  a_Rules____eq__ : Addr
  d_Rules____eq__ : FuncData
  a_Rules____len__ : Addr
  d_Rules____len__ : FuncData
  a_ties_of : Addr
  d_ties_of : FuncData
  a_is_drawn : Addr
  d_is_drawn : FuncData
  a_demand_drawn : Addr
  d_demand_drawn : FuncData
  a_sums_of : Addr
  d_sums_of : FuncData
  a_means_of : Addr
  d_means_of : FuncData
  a__law_flow : Addr
  d__law_flow : FuncData
  a__law_take : Addr
  d__law_take : FuncData
  a__law_full : Addr
  d__law_full : FuncData
  a__law_row : Addr
  d__law_row : FuncData
  a__law_walk : Addr
  d__law_walk : FuncData
  a__law_numbers : Addr
  d__law_numbers : FuncData
  a__law_divisor : Addr
  d__law_divisor : FuncData
  a__law_chance : Addr
  d__law_chance : FuncData
  a__law_same : Addr
  d__law_same : FuncData
  a__law_ties : Addr
  d__law_ties : FuncData
  a__law_is_chance : Addr
  d__law_is_chance : FuncData
  a__law_is_guess : Addr
  d__law_is_guess : FuncData
  a__law_means : Addr
  d__law_means : FuncData
  a__law_spoilt : Addr
  d__law_spoilt : FuncData
  a__law_asked : Addr
  d__law_asked : FuncData
  a__law_object_refused : Addr
  d__law_object_refused : FuncData
  a__law_all : Addr
  d__law_all : FuncData
  a_law : Addr
  d_law : FuncData
  c_InvalidGuess : Addr
  i_InvalidGuess : Addr
  c_Rules : Addr
structure Txt (P : Program) (K : PySem.W.Frag) (mg : Str → Option Value) (A : Ad) : Prop where
  g_is_an_integer : mg "is_an_integer" = some (.ref A.a_is_an_integer)
  F_is_an_integer : Fun K "is_an_integer" "is_an_integer" s_is_an_integer A.a_is_an_integer A.d_is_an_integer
  g_is_number : mg "is_number" = some (.ref A.a_is_number)
  F_is_number : Fun K "is_number" "is_number" s_is_number A.a_is_number A.d_is_number
  g_is_value : mg "is_value" = some (.ref A.a_is_value)
  F_is_value : Fun K "is_value" "is_value" s_is_value A.a_is_value A.d_is_value
  g_is_pair : mg "is_pair" = some (.ref A.a_is_pair)
  F_is_pair : Fun K "is_pair" "is_pair" s_is_pair A.a_is_pair A.d_is_pair
  g_is_share : mg "is_share" = some (.ref A.a_is_share)
  F_is_share : Fun K "is_share" "is_share" s_is_share A.a_is_share A.d_is_share
  g_is_chance : mg "is_chance" = some (.ref A.a_is_chance)
  F_is_chance : Fun K "is_chance" "is_chance" s_is_chance A.a_is_chance A.d_is_chance
  g_are_chances : mg "are_chances" = some (.ref A.a_are_chances)
  F_are_chances : Fun K "are_chances" "are_chances" s_are_chances A.a_are_chances A.d_are_chances
  g_share_of : mg "share_of" = some (.ref A.a_share_of)
  F_share_of : Fun K "share_of" "share_of" s_share_of A.a_share_of A.d_share_of
  g_plus : mg "plus" = some (.ref A.a_plus)
  F_plus : Fun K "plus" "plus" s_plus A.a_plus A.d_plus
  g_less : mg "less" = some (.ref A.a_less)
  F_less : Fun K "less" "less" s_less A.a_less A.d_less
  g_times : mg "times" = some (.ref A.a_times)
  F_times : Fun K "times" "times" s_times A.a_times A.d_times
  g_is_row : mg "is_row" = some (.ref A.a_is_row)
  F_is_row : Fun K "is_row" "is_row" s_is_row A.a_is_row A.d_is_row
  g_with_value : mg "with_value" = some (.ref A.a_with_value)
  F_with_value : Fun K "with_value" "with_value" s_with_value A.a_with_value A.d_with_value
  g_are_rows : mg "are_rows" = some (.ref A.a_are_rows)
  F_are_rows : Fun K "are_rows" "are_rows" s_are_rows A.a_are_rows A.d_are_rows
  F_Rules____init__ : Fun K "__init__" "Rules.__init__" s_Rules____init__ A.a_Rules____init__ A.d_Rules____init__
  F_Rules____eq__ : Fun K "__eq__" "Rules.__eq__" s_Rules____eq__ A.a_Rules____eq__ A.d_Rules____eq__
  F_Rules____len__ : Fun K "__len__" "Rules.__len__" s_Rules____len__ A.a_Rules____len__ A.d_Rules____len__
  g_ties_of : mg "ties_of" = some (.ref A.a_ties_of)
  F_ties_of : Fun K "ties_of" "ties_of" s_ties_of A.a_ties_of A.d_ties_of
  g_is_drawn : mg "is_drawn" = some (.ref A.a_is_drawn)
  F_is_drawn : Fun K "is_drawn" "is_drawn" s_is_drawn A.a_is_drawn A.d_is_drawn
  g_demand_drawn : mg "demand_drawn" = some (.ref A.a_demand_drawn)
  F_demand_drawn : Fun K "demand_drawn" "demand_drawn" s_demand_drawn A.a_demand_drawn A.d_demand_drawn
  g_sums_of : mg "sums_of" = some (.ref A.a_sums_of)
  F_sums_of : Fun K "sums_of" "sums_of" s_sums_of A.a_sums_of A.d_sums_of
  g_means_of : mg "means_of" = some (.ref A.a_means_of)
  F_means_of : Fun K "means_of" "means_of" s_means_of A.a_means_of A.d_means_of
  g__law_flow : mg "_law_flow" = some (.ref A.a__law_flow)
  F__law_flow : Fun K "_law_flow" "_law_flow" s__law_flow A.a__law_flow A.d__law_flow
  g__law_take : mg "_law_take" = some (.ref A.a__law_take)
  F__law_take : Fun K "_law_take" "_law_take" s__law_take A.a__law_take A.d__law_take
  g__law_full : mg "_law_full" = some (.ref A.a__law_full)
  F__law_full : Fun K "_law_full" "_law_full" s__law_full A.a__law_full A.d__law_full
  g__law_row : mg "_law_row" = some (.ref A.a__law_row)
  F__law_row : Fun K "_law_row" "_law_row" s__law_row A.a__law_row A.d__law_row
  g__law_walk : mg "_law_walk" = some (.ref A.a__law_walk)
  F__law_walk : Fun K "_law_walk" "_law_walk" s__law_walk A.a__law_walk A.d__law_walk
  g__law_numbers : mg "_law_numbers" = some (.ref A.a__law_numbers)
  F__law_numbers : Fun K "_law_numbers" "_law_numbers" s__law_numbers A.a__law_numbers A.d__law_numbers
  g__law_divisor : mg "_law_divisor" = some (.ref A.a__law_divisor)
  F__law_divisor : Fun K "_law_divisor" "_law_divisor" s__law_divisor A.a__law_divisor A.d__law_divisor
  g__law_chance : mg "_law_chance" = some (.ref A.a__law_chance)
  F__law_chance : Fun K "_law_chance" "_law_chance" s__law_chance A.a__law_chance A.d__law_chance
  g__law_same : mg "_law_same" = some (.ref A.a__law_same)
  F__law_same : Fun K "_law_same" "_law_same" s__law_same A.a__law_same A.d__law_same
  g__law_ties : mg "_law_ties" = some (.ref A.a__law_ties)
  F__law_ties : Fun K "_law_ties" "_law_ties" s__law_ties A.a__law_ties A.d__law_ties
  g__law_is_chance : mg "_law_is_chance" = some (.ref A.a__law_is_chance)
  F__law_is_chance : Fun K "_law_is_chance" "_law_is_chance" s__law_is_chance A.a__law_is_chance A.d__law_is_chance
  g__law_is_guess : mg "_law_is_guess" = some (.ref A.a__law_is_guess)
  F__law_is_guess : Fun K "_law_is_guess" "_law_is_guess" s__law_is_guess A.a__law_is_guess A.d__law_is_guess
  g__law_means : mg "_law_means" = some (.ref A.a__law_means)
  F__law_means : Fun K "_law_means" "_law_means" s__law_means A.a__law_means A.d__law_means
  g__law_spoilt : mg "_law_spoilt" = some (.ref A.a__law_spoilt)
  F__law_spoilt : Fun K "_law_spoilt" "_law_spoilt" s__law_spoilt A.a__law_spoilt A.d__law_spoilt
  g__law_asked : mg "_law_asked" = some (.ref A.a__law_asked)
  F__law_asked : Fun K "_law_asked" "_law_asked" s__law_asked A.a__law_asked A.d__law_asked
  g__law_object_refused : mg "_law_object_refused" = some (.ref A.a__law_object_refused)
  F__law_object_refused : Fun K "_law_object_refused" "_law_object_refused" s__law_object_refused A.a__law_object_refused A.d__law_object_refused
  g__law_all : mg "_law_all" = some (.ref A.a__law_all)
  F__law_all : Fun K "_law_all" "_law_all" s__law_all A.a__law_all A.d__law_all
  g_law : mg "law" = some (.ref A.a_law)
  F_law : Fun K "law" "law" s_law A.a_law A.d_law
  X_InvalidGuess : PySem.SupX_value.XTxt P K mg "InvalidGuess" A.c_InvalidGuess A.i_InvalidGuess
  E_InvalidGuess : Sx.ExK K A.c_InvalidGuess
  g_Rules : mg "Rules" = some (.ref A.c_Rules)
  o_Rules : Sx.OwnK K A.c_Rules
  mk_Rules : Mk K A.c_Rules A.a_Rules____init__
  no_Rules_size : NoAttr K A.c_Rules "size"
  no_Rules_rows : NoAttr K A.c_Rules "rows"
  no_Rules__known : NoAttr K A.c_Rules "_known"
  sp_Rules___len__ : PySem.W.findIn K (.ref A.c_Rules) "__len__" = some (some (.ref A.a_Rules____len__)) ∧ PySem.W.isFn K (.ref A.a_Rules____len__) = true
  sp_Rules___eq__ : PySem.W.findIn K (.ref A.c_Rules) "__eq__" = some (some (.ref A.a_Rules____eq__)) ∧ PySem.W.isFn K (.ref A.a_Rules____eq__) = true
  n_abs : mg "abs" = none
  n_all : mg "all" = none
  n_bool : mg "bool" = none
  n_enumerate : mg "enumerate" = none
  n_int : mg "int" = none
  n_isinstance : mg "isinstance" = none
  n_len : mg "len" = none
  n_list : mg "list" = none
  n_range : mg "range" = none
  n_set : mg "set" = none
  n_sorted : mg "sorted" = none
  n_str : mg "str" = none
  n_tuple : mg "tuple" = none
  n_zip : mg "zip" = none
  m_gcd : mg "gcd" = some (.builtin "math.gcd")
section
variable {P : Program} {K : PySem.W.Frag} {mg : Str → Option Value} {A : Ad}
theorem Txt.cl_Rules (T : Txt P K mg A) : Cls K A.c_Rules := T.o_Rules.cl
theorem Txt.g_InvalidGuess (T : Txt P K mg A) : mg "InvalidGuess" = some (.ref A.c_InvalidGuess) := T.X_InvalidGuess.gC
theorem B_is_an_integer (T : Txt P K mg A) : Binds K A.d_is_an_integer ["value"] [] := T.F_is_an_integer.binds (ps := ["value"]) fun _ _ _ _ _ _ us hl => match us, hl with | [_], _ => rfl
theorem B_is_number (T : Txt P K mg A) : Binds K A.d_is_number ["value"] [] := T.F_is_number.binds (ps := ["value"]) fun _ _ _ _ _ _ us hl => match us, hl with | [_], _ => rfl
theorem B_is_value (T : Txt P K mg A) : Binds K A.d_is_value ["value"] [] := T.F_is_value.binds (ps := ["value"]) fun _ _ _ _ _ _ us hl => match us, hl with | [_], _ => rfl
theorem B_is_pair (T : Txt P K mg A) : Binds K A.d_is_pair ["value"] [] := T.F_is_pair.binds (ps := ["value"]) fun _ _ _ _ _ _ us hl => match us, hl with | [_], _ => rfl
theorem B_is_share (T : Txt P K mg A) : Binds K A.d_is_share ["value"] [] := T.F_is_share.binds (ps := ["value"]) fun _ _ _ _ _ _ us hl => match us, hl with | [_], _ => rfl
theorem B_is_chance (T : Txt P K mg A) : Binds K A.d_is_chance ["value"] [] := T.F_is_chance.binds (ps := ["value"]) fun _ _ _ _ _ _ us hl => match us, hl with | [_], _ => rfl
theorem B_are_chances (T : Txt P K mg A) : Binds K A.d_are_chances ["value", "many"] [] := T.F_are_chances.binds (ps := ["value", "many"]) fun _ _ _ _ _ _ us hl => match us, hl with | [_, _], _ => rfl
theorem B_share_of (T : Txt P K mg A) : Binds K A.d_share_of ["a", "b"] [] := T.F_share_of.binds (ps := ["a", "b"]) fun _ _ _ _ _ _ us hl => match us, hl with | [_, _], _ => rfl
theorem B_plus (T : Txt P K mg A) : Binds K A.d_plus ["one", "other"] [] := T.F_plus.binds (ps := ["one", "other"]) fun _ _ _ _ _ _ us hl => match us, hl with | [_, _], _ => rfl
theorem B_less (T : Txt P K mg A) : Binds K A.d_less ["one", "other"] [] := T.F_less.binds (ps := ["one", "other"]) fun _ _ _ _ _ _ us hl => match us, hl with | [_, _], _ => rfl
theorem B_times (T : Txt P K mg A) : Binds K A.d_times ["one", "other"] [] := T.F_times.binds (ps := ["one", "other"]) fun _ _ _ _ _ _ us hl => match us, hl with | [_, _], _ => rfl
theorem B_is_row (T : Txt P K mg A) : Binds K A.d_is_row ["value", "size"] [] := T.F_is_row.binds (ps := ["value", "size"]) fun _ _ _ _ _ _ us hl => match us, hl with | [_, _], _ => rfl
theorem B_with_value (T : Txt P K mg A) : Binds K A.d_with_value ["row", "point", "value"] [] := T.F_with_value.binds (ps := ["row", "point", "value"]) fun _ _ _ _ _ _ us hl => match us, hl with | [_, _, _], _ => rfl
theorem B_are_rows (T : Txt P K mg A) : Binds K A.d_are_rows ["rows", "size"] [] := T.F_are_rows.binds (ps := ["rows", "size"]) fun _ _ _ _ _ _ us hl => match us, hl with | [_, _], _ => rfl
theorem B_Rules____init__ (T : Txt P K mg A) : Binds K A.d_Rules____init__ ["self", "size", "rows"] [] := T.F_Rules____init__.binds (ps := ["self", "size", "rows"]) fun _ _ _ _ _ _ us hl => match us, hl with | [_, _, _], _ => rfl
theorem B_Rules____eq__ (T : Txt P K mg A) : Binds K A.d_Rules____eq__ ["self", "other"] [] := T.F_Rules____eq__.binds (ps := ["self", "other"]) fun _ _ _ _ _ _ us hl => match us, hl with | [_, _], _ => rfl
theorem B_Rules____len__ (T : Txt P K mg A) : Binds K A.d_Rules____len__ ["self"] [] := T.F_Rules____len__.binds (ps := ["self"]) fun _ _ _ _ _ _ us hl => match us, hl with | [_], _ => rfl
theorem B_ties_of (T : Txt P K mg A) : Binds K A.d_ties_of ["rules"] [] := T.F_ties_of.binds (ps := ["rules"]) fun _ _ _ _ _ _ us hl => match us, hl with | [_], _ => rfl
theorem B_is_drawn (T : Txt P K mg A) : Binds K A.d_is_drawn ["rules", "value"] [] := T.F_is_drawn.binds (ps := ["rules", "value"]) fun _ _ _ _ _ _ us hl => match us, hl with | [_, _], _ => rfl
theorem B_demand_drawn (T : Txt P K mg A) : Binds K A.d_demand_drawn ["rules", "drawn"] [] := T.F_demand_drawn.binds (ps := ["rules", "drawn"]) fun _ _ _ _ _ _ us hl => match us, hl with | [_, _], _ => rfl
theorem B_sums_of (T : Txt P K mg A) : Binds K A.d_sums_of ["rules", "weights", "drawn"] [] := T.F_sums_of.binds (ps := ["rules", "weights", "drawn"]) fun _ _ _ _ _ _ us hl => match us, hl with | [_, _, _], _ => rfl
theorem B_means_of (T : Txt P K mg A) : Binds K A.d_means_of ["rules", "drawn"] [] := T.F_means_of.binds (ps := ["rules", "drawn"]) fun _ _ _ _ _ _ us hl => match us, hl with | [_, _], _ => rfl
theorem B__law_flow (T : Txt P K mg A) : Binds K A.d__law_flow ["script", "place"] [] := T.F__law_flow.binds (ps := ["script", "place"]) fun _ _ _ _ _ _ us hl => match us, hl with | [_, _], _ => rfl
theorem B__law_take (T : Txt P K mg A) : Binds K A.d__law_take ["flow", "limit"] [] := T.F__law_take.binds (ps := ["flow", "limit"]) fun _ _ _ _ _ _ us hl => match us, hl with | [_, _], _ => rfl
theorem B__law_full (T : Txt P K mg A) : Binds K A.d__law_full ["size"] [] := T.F__law_full.binds (ps := ["size"]) fun _ _ _ _ _ _ us hl => match us, hl with | [_], _ => rfl
theorem B__law_row (T : Txt P K mg A) : Binds K A.d__law_row ["number", "size"] [] := T.F__law_row.binds (ps := ["number", "size"]) fun _ _ _ _ _ _ us hl => match us, hl with | [_, _], _ => rfl
theorem B__law_walk (T : Txt P K mg A) : Binds K A.d__law_walk ["flow", "size", "most"] [] := T.F__law_walk.binds (ps := ["flow", "size", "most"]) fun _ _ _ _ _ _ us hl => match us, hl with | [_, _, _], _ => rfl
theorem B__law_numbers (T : Txt P K mg A) : Binds K A.d__law_numbers ["flow"] [] := T.F__law_numbers.binds (ps := ["flow"]) fun _ _ _ _ _ _ us hl => match us, hl with | [_], _ => rfl
theorem B__law_divisor (T : Txt P K mg A) : Binds K A.d__law_divisor ["one", "other"] [] := T.F__law_divisor.binds (ps := ["one", "other"]) fun _ _ _ _ _ _ us hl => match us, hl with | [_, _], _ => rfl
theorem B__law_chance (T : Txt P K mg A) : Binds K A.d__law_chance ["flow", "great"] [] := T.F__law_chance.binds (ps := ["flow", "great"]) fun _ _ _ _ _ _ us hl => match us, hl with | [_, _], _ => rfl
theorem B__law_same (T : Txt P K mg A) : Binds K A.d__law_same ["actual", "due"] [] := T.F__law_same.binds (ps := ["actual", "due"]) fun _ _ _ _ _ _ us hl => match us, hl with | [_, _], _ => rfl
theorem B__law_ties (T : Txt P K mg A) : Binds K A.d__law_ties ["size", "numbers"] [] := T.F__law_ties.binds (ps := ["size", "numbers"]) fun _ _ _ _ _ _ us hl => match us, hl with | [_, _], _ => rfl
theorem B__law_is_chance (T : Txt P K mg A) : Binds K A.d__law_is_chance ["value"] [] := T.F__law_is_chance.binds (ps := ["value"]) fun _ _ _ _ _ _ us hl => match us, hl with | [_], _ => rfl
theorem B__law_is_guess (T : Txt P K mg A) : Binds K A.d__law_is_guess ["value", "many"] [] := T.F__law_is_guess.binds (ps := ["value", "many"]) fun _ _ _ _ _ _ us hl => match us, hl with | [_, _], _ => rfl
theorem B__law_means (T : Txt P K mg A) : Binds K A.d__law_means ["numbers", "ties", "chances"] [] := T.F__law_means.binds (ps := ["numbers", "ties", "chances"]) fun _ _ _ _ _ _ us hl => match us, hl with | [_, _, _], _ => rfl
theorem B__law_spoilt (T : Txt P K mg A) : Binds K A.d__law_spoilt ["flow", "guess"] [] := T.F__law_spoilt.binds (ps := ["flow", "guess"]) fun _ _ _ _ _ _ us hl => match us, hl with | [_, _], _ => rfl
theorem B__law_asked (T : Txt P K mg A) : Binds K A.d__law_asked ["rules", "numbers", "ties", "value", "named"] [] := T.F__law_asked.binds (ps := ["rules", "numbers", "ties", "value", "named"]) fun _ _ _ _ _ _ us hl => match us, hl with | [_, _, _, _, _], _ => rfl
theorem B__law_object_refused (T : Txt P K mg A) : Binds K A.d__law_object_refused ["rules"] [] := T.F__law_object_refused.binds (ps := ["rules"]) fun _ _ _ _ _ _ us hl => match us, hl with | [_], _ => rfl
theorem B__law_all (T : Txt P K mg A) : Binds K A.d__law_all ["script"] [] := T.F__law_all.binds (ps := ["script"]) fun _ _ _ _ _ _ us hl => match us, hl with | [_], _ => rfl
theorem B_law (T : Txt P K mg A) : Binds K A.d_law ["script"] [] := T.F_law.binds (ps := ["script"]) fun _ _ _ _ _ _ us hl => match us, hl with | [_], _ => rfl
def kg_means_of_drawn_rules : List Value → List Value → List Value := fun us ws => match us, ws with | [], [x0, x1] => [x1, x0] | _, _ => []
def kv_means_of_drawn_rules : List V → List V → List V := fun us ws => match us, ws with | [], [x0, x1] => [x1, x0] | _, _ => []
theorem KB_means_of_drawn_rules (T : Txt P K mg A) : KBinds K A.d_means_of ["rules", "drawn"] ["drawn", "rules"] kg_means_of_drawn_rules kv_means_of_drawn_rules := by
  obtain ⟨oc, od, kV, doc, pm, an, cdv, ct, osl, e, _, _⟩ := T.F_means_of.ex
  rw [e]
  refine ⟨fun s us ws _ hl => ?_, fun {vs us zs ws} r rz => ?_⟩
  · match us, ws, hl with
    | [], [_, _], _ => exact .of_eq rfl
  · cases r with
    | cons _ _ => exact .nil
    | nil =>
      cases rz with
      | nil => exact .nil
      | cons r0 rz =>
        cases rz with
        | nil => exact .nil
        | cons r1 rz =>
          cases rz with
          | cons _ _ => exact .nil
          | nil => exact (.cons r1 (.cons r0 .nil))
end
local macro_rules | `(tactic| walk_at "cond") => `(tactic| first
  | assumption
  | decide
  | exact c_mul_r (by first | decide | omega) (by first | decide | omega)
  | exact c_mul_l (by first | decide | omega) (by first | decide | omega)
  | exact c_div (by first | decide | omega) (by first | decide | omega)
  | exact c_pow (by first | decide | omega) (by first | decide | omega) (by first | decide | omega)
  | omega)
local macro_rules | `(tactic| walk_at "ne") => `(tactic| first
  | assumption
  | (refine Ne.symm ?_; assumption)
  | (refine' Flow.ne ?nh ?nn; (case nn => assumption); (case nh => walk_at "fl"))
  | (refine Ne.symm ?_; refine' Flow.ne ?nh ?nn; (case nn => assumption); (case nh => walk_at "fl"))
  | (refine' ne_of_none ?nh ?nn; (case nn => assumption); (case nh => walk_at "at"))
  | (refine Ne.symm ?_; refine' ne_of_none ?nh ?nn; (case nn => assumption); (case nh => walk_at "at")))
local macro_rules | `(tactic| walk_at "at") => `(tactic| first
  | assumption
  | (refine Same.up (by assumption) ?_; walk_at "at")
  | (refine Keep.up (by assumption) (by walk_at "ne") ?_; walk_at "at"))
local macro_rules | `(tactic| walk_at "fl") => `(tactic| first
  | assumption
  | (refine Flow.same (by assumption) ?_; walk_at "fl")
  | (refine Flow.keep (by assumption) (by walk_at "ne") ?_; walk_at "fl"))
local macro_rules | `(tactic| walk_at "fr") => `(tactic| first
  | assumption
  | (refine same_free (by assumption) ?_; walk_at "fr")
  | (refine Keep.free (by assumption) (by walk_at "ne") ?_; walk_at "fr"))
local macro_rules | `(tactic| walk_at "kp") => `(tactic| first
  | assumption
  | exact Keep.refl _ _
  | (refine Keep.trans ?_ (by assumption); walk_at "kp")
  | (refine Keep.trans ?_ (Keep.same (by assumption)); walk_at "kp"))
local macro_rules | `(tactic| walk_at "sm") => `(tactic| first
  | assumption
  | exact L2.Same.refl _
  | (refine L2.Same.trans ?_ (by assumption); walk_at "sm"))
local macro_rules | `(tactic| walk_at "sz") => `(tactic| first | exact Nat.le_of_ble_eq_true rfl | omega)
local macro_rules | `(tactic| walk_at "new") => `(tactic| (intro p np; generalize hE : upd _ p _ = H2; have s2 := new_same np hE; have h2 := new_at hE; clear hE))
local macro_rules | `(tactic| walk_at "newx") => `(tactic| (intro e d na nd hda; generalize hE : upd (upd _ d _) e _ = H2; have s2 := newx_same na nd hE; have h2 := newx_at hE; have h3 := newx_d hda hE; clear hE))
local macro_rules | `(tactic| walk_at "s1") => `(tactic| first
  | with_reducible refine s_seq ?_
  | with_reducible refine s_asg ?_
  | with_reducible refine s_name ?_
  | with_reducible refine s_ret ?_
  | with_reducible refine s_c ?_
  | ((with_reducible refine' s_var ?hv ?_); (case hv => rfl))
  | with_reducible refine s_op ?_
  | with_reducible refine s_un ?_
  | with_reducible refine s_ifS ?_
  | with_reducible refine s_cb ?_
  | with_reducible refine s_cons ?_
  | with_reducible refine s_nil ?_
  | with_reducible refine s_call ?_
  | with_reducible refine s_test ?_
  | with_reducible refine s_tB ?_
  | with_reducible refine s_bl ?_
  | with_reducible refine s_and ?_
  | with_reducible refine s_or ?_
  | with_reducible refine s_not ?_
  | with_reducible refine s_andV ?_
  | with_reducible refine s_orV ?_
  | with_reducible refine s_notV ?_
  | with_reducible refine s_blV ?_
  | with_reducible refine s_if ?_
  | with_reducible refine s_tup ?_
  | with_reducible refine s_lst ?_
  | with_reducible refine s_drop ?_
  | with_reducible refine s_next ?_
  | with_reducible refine s_sub ?_
  | with_reducible refine s_bm ?_
  | with_reducible refine s_callK ?_
  | with_reducible refine s_brk ?_
  | with_reducible refine s_cont ?_
  | with_reducible refine r_I0 ?_
  | with_reducible refine r_U ?_
  | with_reducible refine r_eqI ?_
  | with_reducible refine r_neI ?_
  | with_reducible refine r_isB ?_
  | with_reducible refine r_notB ?_
  | with_reducible refine i_t ?_
  | with_reducible refine i_f ?_
  | with_reducible refine i_nt ?_
  | with_reducible refine i_nf ?_
  | ((with_reducible refine' r_I ?hc ?_); (case hc => walk_at "cond"))
  | (with_reducible refine .inl ⟨_, rfl, ?_⟩)
  | (with_reducible refine ⟨_, rfl, ?_⟩)
  | ((with_reducible refine' r_ixL ?hx ?ha ?_); (case hx => walk_at "at"); (case ha => rfl))
  | ((with_reducible refine' r_ixT ?hx ?ha ?_); (case hx => walk_at "at"); (case ha => rfl))
  | ((with_reducible refine' r_setL ?hx ?ha ?_); (case hx => walk_at "at"); (case ha => rfl); intro H2 k2 h2; (try dsimp only [List.set, Int.toNat] at h2))
  | ((with_reducible refine' r_app ?hx ?hl ?_); (case hx => walk_at "at"); (case hl => first | exact Nat.lt_of_ble_eq_true rfl | omega); intro H2 k2 h2)
  | ((with_reducible refine' ty_list ?hx ?_); (case hx => walk_at "at"))
  | (refine And.intro (by (with_reducible show _ ≤ sizeLine); walk_at "sz") ?_; walk_at "new")
  | with_reducible refine s_exv ?_
  | walk_at "newx")
local macro_rules | `(tactic| walk_at "sx") => `(tactic| repeat (walk_at "s1"))
local macro_rules | `(tactic| walk_at "s2") => `(tactic| first
  | ((with_reducible refine' r_ixG ?hx ?hn ?_); (case hx => walk_at "at"); (case hn => omega))
  | ((with_reducible refine' r_ixGT ?hx ?hn ?_); (case hx => walk_at "at"); (case hn => omega))
  | (with_reducible refine ig_cons (fun hix => ?_) (fun hix => ?_))
  | ((with_reducible refine ig_nil ?_); omega)
  | ((with_reducible refine' i_T ?hc ?_); (case hc => omega))
  | ((with_reducible refine' i_F ?hc ?_); (case hc => omega))
  | (with_reducible refine i_2 (fun hc => ?_) (fun hc => ?_))
  | (with_reducible refine i_n2 (fun hc => ?_) (fun hc => ?_)))
local macro_rules | `(tactic| walk_at "go") => `(tactic| repeat' (first | walk_at "s1" | walk_at "s2"))

section
variable {P : Program} {w : World} {K : PySem.W.Frag} {mg : Str → Option Value} {base : Heap} {A : Ad}
def spTake : Sp := fun vs H Q _ => ∃ (a : Addr) (m : Int), vs = [.ref a, .int m] ∧ Flow H a ∧ 0 < m ∧ m < 1073741824 ∧ ∀ d H', 0 ≤ d → d < m → Flow H' a → Keep a H H' → Q (.int d) H'
theorem c_take {H : Hp} {Q : VK} {E : XK} {a : Addr} {m : Int} (f : Flow H a) (m0 : 0 < m) (m1 : m < 1073741824) (q : ∀ d H', 0 ≤ d → d < m → Flow H' a → Keep a H H' → Q (.int d) H') : spTake ([.ref a, .int m] ++ []) H Q E := ⟨a, m, rfl, f, m0, m1, q⟩
theorem ok_take (T : Txt P K mg A) : FnOk P w K mg base CX0 1 A.a__law_take A.d__law_take ["flow", "limit"] spTake := by
  refine T.F__law_take.ok sc__law_take (fun vs H Q E h => ?_) (fun cdv A' outer s H vs Q E hr h => ?_)
  · obtain ⟨a, m, rfl, _⟩ := h
    rfl
  · obtain ⟨a, m, rfl, ⟨c, n, b, p, hL⟩, m0, m1, k⟩ := h
    refine ⟨_, (pss_cons (ps_asg (pe_op op_add (pe_ix ix_seq (pv 0) pe_int (fun _ _ => rfl)) pe_int) (pg_sub (pv 0) pe_int set_list))
  (pss_cons (ps_if (pt_val (pe_ix ix_seq (pv 0) pe_int (fun _ _ => rfl))) (pss_cons (ps_set (i := 2) sc__law_take.nd rfl (Or.inl rfl) (pe_op op_mod (pe_callTy call_int1 (by rfl) T.n_int (by decide +kernel) (pa_cons (pe_ix ix_seq (pv 0) pe_int (fun _ _ => rfl)) pa_nil)) (pv 1)))
  (pss_cons (ps_asg (pe_op op_fdiv (pe_ix ix_seq (pv 0) pe_int (fun _ _ => rfl)) (pv 1)) (pg_sub (pv 0) pe_int set_list))
  (pss_one (ps_ret (pv 2))))) pss_nil)
  (pss_cons (ps_set (i := 3) sc__law_take.nd rfl (Or.inl rfl) (pe_op op_mod (pe_callTy call_int1 (by rfl) T.n_int (by decide +kernel) (pa_cons (pe_op op_add (pe_op op_add (pe_op op_mul (pe_ix ix_seq (pv 0) pe_int (fun _ _ => rfl)) pe_int) (pe_op op_mul (pe_ix ix_seq (pv 0) pe_int (fun _ _ => rfl)) pe_int)) (pe_op op_mul (pe_ix ix_seq (pv 0) pe_int (fun _ _ => rfl)) pe_int)) pa_nil)) pe_int))
  (pss_cons (ps_set (i := 3) sc__law_take.nd rfl (Or.inl rfl) (pe_op op_mod (pe_callTy call_int1 (by rfl) T.n_int (by decide +kernel) (pa_cons (pe_op op_add (pe_op op_add (pe_op op_mul (pv 3) pe_int) (pe_op op_mul (pe_ix ix_seq (pv 0) pe_int (fun _ _ => rfl)) pe_int)) pe_int) pa_nil)) pe_int))
  (pss_one (ps_ret (pe_op op_mod (pe_callTy call_int1 (by rfl) T.n_int (by decide +kernel) (pa_cons (pe_op op_fdiv (pv 3) pe_int) pa_nil)) (pv 1)))))))), ?_⟩
    walk_at "sx"
    refine i_b2 (fun hb => ?_) (fun hb => ?_)
    · walk_at "sx"
      exact k _ _ (Int.emod_nonneg _ (by omega)) (Int.emod_lt_of_pos _ m0) ⟨_, _, _, _, by assumption⟩ (by walk_at "kp")
    · walk_at "sx"
      exact k _ _ (Int.emod_nonneg _ (by omega)) (Int.emod_lt_of_pos _ m0) ⟨_, _, _, _, by assumption⟩ (by walk_at "kp")
def spFlow (K : PySem.W.Frag) : Sp := fun vs H Q _ => ∃ (l : Addr) (ns : List Int) (j : Nat), vs = [.ref l, .int (j : Int)] ∧ SqL K H l (ns.map V.int) ∧ ∀ p H', H p = none → Same H H' → Flow H' p → Q (.ref p) H'
theorem c_flow {H : Hp} {Q : VK} {E : XK} {l : Addr} {ns : List Int} {i : Int} (hi : 0 ≤ i) (h : SqL K H l (ns.map V.int)) (q : ∀ p H', H p = none → Same H H' → Flow H' p → Q (.ref p) H') : spFlow K ([.ref l, .int i] ++ []) H Q E :=
  ⟨l, ns, i.toNat, by rw [Int.toNat_of_nonneg hi]; rfl, h, q⟩
theorem ok_flow (T : Txt P K mg A) : FnOk P w K mg base CX0 1 A.a__law_flow A.d__law_flow ["script", "place"] (spFlow K) := by
  refine T.F__law_flow.ok sc__law_flow (fun vs H Q E h => ?_) (fun cdv A' outer s H vs Q E hr h => ?_)
  · obtain ⟨l, ns, j, rfl, _⟩ := h
    rfl
  · obtain ⟨l, ns, j, rfl, hs, k⟩ := h
    refine ⟨_, (pss_cons (ps_set (i := 2) sc__law_flow.nd rfl (Or.inl rfl) pe_int)
  (pss_cons (ps_if (pt_cmpR op_lt (pv 1) (pe_callB call_len (by rfl) T.n_len (by decide +kernel) (pa_cons (pv 0) pa_nil)) (nomark _)) (pss_one (ps_set (i := 2) sc__law_flow.nd rfl (Or.inl rfl) (pe_callB call_abs (by rfl) T.n_abs (by decide +kernel) (pa_cons (pe_callTy call_int1 (by rfl) T.n_int (by decide +kernel) (pa_cons (pe_ix ix_seq (pv 0) (pv 1) (fun _ _ => rfl)) pa_nil)) pa_nil)))) pss_nil)
  (pss_one (ps_ret (pe_lst (pa_cons (pv 2) (pa_cons pe_int (pa_cons (pe_cmpR op_ge (pv 2) (pe_op op_pow pe_int pe_int) (nomark _)) (pa_cons (pv 1) pa_nil))))))))), ?_⟩
    walk_at "sx"
    refine ⟨_, _, rfl, .inl ⟨_, hs, rfl⟩, ?_⟩
    walk_at "sx"
    refine i_2 (fun hb => ?_) (fun hb => ?_)
    · walk_at "sx"
      have hj : j < ns.length := by
        rw [List.length_map] at hb
        omega
      refine r_ixS hs (v := .int (ns[j])) (atI_nat (by rw [List.getElem?_map, List.getElem?_eq_getElem hj]; rfl)) ?_
      walk_at "sx"
      exact k _ _ (by walk_at "fr") (by walk_at "sm") ⟨_, _, _, _, by assumption⟩
    · walk_at "sx"
      exact k _ _ (by walk_at "fr") (by walk_at "sm") ⟨_, _, _, _, by assumption⟩

end
end K35

set_option Elab.async false
set_option linter.all false
set_option maxRecDepth 100000
set_option maxHeartbeats 2000000
namespace K35
open PySem L2 Sx
local macro_rules | `(tactic| walk_at "cond") => `(tactic| first
  | assumption
  | decide
  | exact c_mul_r (by first | decide | omega) (by first | decide | omega)
  | exact c_mul_l (by first | decide | omega) (by first | decide | omega)
  | exact c_div (by first | decide | omega) (by first | decide | omega)
  | exact c_pow (by first | decide | omega) (by first | decide | omega) (by first | decide | omega)
  | omega)
local macro_rules | `(tactic| walk_at "ne") => `(tactic| first
  | assumption
  | (refine Ne.symm ?_; assumption)
  | (refine' Flow.ne ?nh ?nn; (case nn => assumption); (case nh => walk_at "fl"))
  | (refine Ne.symm ?_; refine' Flow.ne ?nh ?nn; (case nn => assumption); (case nh => walk_at "fl"))
  | (refine' ne_of_none ?nh ?nn; (case nn => assumption); (case nh => walk_at "at"))
  | (refine Ne.symm ?_; refine' ne_of_none ?nh ?nn; (case nn => assumption); (case nh => walk_at "at")))
local macro_rules | `(tactic| walk_at "at") => `(tactic| first
  | assumption
  | (refine Same.up (by assumption) ?_; walk_at "at")
  | (refine Keep.up (by assumption) (by walk_at "ne") ?_; walk_at "at"))
local macro_rules | `(tactic| walk_at "fl") => `(tactic| first
  | assumption
  | (refine Flow.same (by assumption) ?_; walk_at "fl")
  | (refine Flow.keep (by assumption) (by walk_at "ne") ?_; walk_at "fl"))
local macro_rules | `(tactic| walk_at "fr") => `(tactic| first
  | assumption
  | (refine same_free (by assumption) ?_; walk_at "fr")
  | (refine Keep.free (by assumption) (by walk_at "ne") ?_; walk_at "fr"))
local macro_rules | `(tactic| walk_at "kp") => `(tactic| first
  | assumption
  | exact Keep.refl _ _
  | (refine Keep.trans ?_ (by assumption); walk_at "kp")
  | (refine Keep.trans ?_ (Keep.same (by assumption)); walk_at "kp"))
local macro_rules | `(tactic| walk_at "sm") => `(tactic| first
  | assumption
  | exact L2.Same.refl _
  | (refine L2.Same.trans ?_ (by assumption); walk_at "sm"))
local macro_rules | `(tactic| walk_at "sz") => `(tactic| first | exact Nat.le_of_ble_eq_true rfl | omega)
local macro_rules | `(tactic| walk_at "new") => `(tactic| (intro p np; generalize hE : upd _ p _ = H2; have s2 := new_same np hE; have h2 := new_at hE; clear hE))
local macro_rules | `(tactic| walk_at "newx") => `(tactic| (intro e d na nd hda; generalize hE : upd (upd _ d _) e _ = H2; have s2 := newx_same na nd hE; have h2 := newx_at hE; have h3 := newx_d hda hE; clear hE))
local macro_rules | `(tactic| walk_at "s1") => `(tactic| first
  | with_reducible refine s_seq ?_
  | with_reducible refine s_asg ?_
  | with_reducible refine s_name ?_
  | with_reducible refine s_ret ?_
  | with_reducible refine s_c ?_
  | ((with_reducible refine' s_var ?hv ?_); (case hv => rfl))
  | with_reducible refine s_op ?_
  | with_reducible refine s_un ?_
  | with_reducible refine s_ifS ?_
  | with_reducible refine s_cb ?_
  | with_reducible refine s_cons ?_
  | with_reducible refine s_nil ?_
  | with_reducible refine s_call ?_
  | with_reducible refine s_test ?_
  | with_reducible refine s_tB ?_
  | with_reducible refine s_bl ?_
  | with_reducible refine s_and ?_
  | with_reducible refine s_or ?_
  | with_reducible refine s_not ?_
  | with_reducible refine s_andV ?_
  | with_reducible refine s_orV ?_
  | with_reducible refine s_notV ?_
  | with_reducible refine s_blV ?_
  | with_reducible refine s_if ?_
  | with_reducible refine s_tup ?_
  | with_reducible refine s_lst ?_
  | with_reducible refine s_drop ?_
  | with_reducible refine s_next ?_
  | with_reducible refine s_sub ?_
  | with_reducible refine s_bm ?_
  | with_reducible refine s_callK ?_
  | with_reducible refine s_brk ?_
  | with_reducible refine s_cont ?_
  | with_reducible refine r_I0 ?_
  | with_reducible refine r_U ?_
  | with_reducible refine r_eqI ?_
  | with_reducible refine r_neI ?_
  | with_reducible refine r_isB ?_
  | with_reducible refine r_notB ?_
  | with_reducible refine i_t ?_
  | with_reducible refine i_f ?_
  | with_reducible refine i_nt ?_
  | with_reducible refine i_nf ?_
  | ((with_reducible refine' r_I ?hc ?_); (case hc => walk_at "cond"))
  | (with_reducible refine .inl ⟨_, rfl, ?_⟩)
  | (with_reducible refine ⟨_, rfl, ?_⟩)
  | ((with_reducible refine' r_ixL ?hx ?ha ?_); (case hx => walk_at "at"); (case ha => rfl))
  | ((with_reducible refine' r_ixT ?hx ?ha ?_); (case hx => walk_at "at"); (case ha => rfl))
  | ((with_reducible refine' r_setL ?hx ?ha ?_); (case hx => walk_at "at"); (case ha => rfl); intro H2 k2 h2; (try dsimp only [List.set, Int.toNat] at h2))
  | ((with_reducible refine' r_app ?hx ?hl ?_); (case hx => walk_at "at"); (case hl => first | exact Nat.lt_of_ble_eq_true rfl | omega); intro H2 k2 h2)
  | ((with_reducible refine' ty_list ?hx ?_); (case hx => walk_at "at"))
  | (refine And.intro (by (with_reducible show _ ≤ sizeLine); walk_at "sz") ?_; walk_at "new")
  | with_reducible refine s_exv ?_
  | walk_at "newx")
local macro_rules | `(tactic| walk_at "sx") => `(tactic| repeat (walk_at "s1"))
local macro_rules | `(tactic| walk_at "s2") => `(tactic| first
  | ((with_reducible refine' r_ixG ?hx ?hn ?_); (case hx => walk_at "at"); (case hn => omega))
  | ((with_reducible refine' r_ixGT ?hx ?hn ?_); (case hx => walk_at "at"); (case hn => omega))
  | (with_reducible refine ig_cons (fun hix => ?_) (fun hix => ?_))
  | ((with_reducible refine ig_nil ?_); omega)
  | ((with_reducible refine' i_T ?hc ?_); (case hc => omega))
  | ((with_reducible refine' i_F ?hc ?_); (case hc => omega))
  | (with_reducible refine i_2 (fun hc => ?_) (fun hc => ?_))
  | (with_reducible refine i_n2 (fun hc => ?_) (fun hc => ?_)))
local macro_rules | `(tactic| walk_at "go") => `(tactic| repeat' (first | walk_at "s1" | walk_at "s2"))

local macro_rules | `(tactic| walk_at "s1") => `(tactic| first
  | with_reducible refine s_chain ?_
  | with_reducible refine s_fldS ?_
  | with_reducible refine s_fld ?_
  | with_reducible refine s_dIn ?_
  | with_reducible refine s_dNotIn ?_
  | with_reducible refine s_sl ?_
  | with_reducible refine s_noPart ?_
  | with_reducible refine s_part ?_
  | with_reducible refine s_meth ?_
  | with_reducible refine s_make ?_)

section
variable {P : Program} {w : World} {K : PySem.W.Frag} {mg : Str → Option Value} {base : Heap} {A : Ad}
/-- a test of one value -/
def spT1 (K : PySem.W.Frag) (f : V → Bool) : Sp := fun vs H Q _ => ∃ v, vs = [v] ∧ NI K H v ∧ Q (.bl (f v)) H
theorem c_t1 {H : Hp} {Q : VK} {E : XK} {f : V → Bool} {v : V} (n : NI K H v) (q : Q (.bl (f v)) H) : spT1 K f ([v] ++ []) H Q E := ⟨v, rfl, n, q⟩
theorem i_cases (v : V) : (∃ i, v = .int i) ∨ isI v = false := by cases v <;> simp [isI]
theorem num_no {f : Int → Bool} {v : V} (h : isI v = false) : num? f v = false := by cases v <;> first | rfl | cases h
theorem ok_isi (T : Txt P K mg A) : FnOk P w K mg base CX0 1 A.a_is_an_integer A.d_is_an_integer ["value"] (spT1 K isI) := by
  refine T.F_is_an_integer.ok sc_is_an_integer (fun vs H Q E h => ?_) (fun cdv A' outer s H vs Q E hr h => ?_)
  · obtain ⟨v, rfl, _⟩ := h
    rfl
  · obtain ⟨v, rfl, ⟨b, c, hb, hc, e⟩, k⟩ := h
    refine ⟨_, (pss_one (ps_ret (pe_and (pe_callB (id := "isinstance") (r := rIsiV K) call_isiV (by rfl) T.n_isinstance (by decide +kernel) (pa_cons (pv 0) (pa_cons (pe_bltn (v := .ty "int") (u := .type "int") (by rfl) T.n_int (by decide +kernel) rfl) pa_nil))) (pe_one (pe_not (pe_callB (id := "isinstance") (r := rIsiV K) call_isiV (by rfl) T.n_isinstance (by decide +kernel) (pa_cons (pv 0) (pa_cons (pe_bltn (v := .ty "bool") (u := .type "bool") (by rfl) T.n_bool (by decide +kernel) rfl) pa_nil)))))))), ?_⟩
    rw [← e] at k
    walk_at "sx"
    refine isi_in hb ?_
    cases b
    · walk_at "sx"
      exact k
    · walk_at "sx"
      refine isi_in hc ?_
      walk_at "sx"
      exact k
abbrev isN : V → Bool := num? fun i => decide (0 ≤ i)
theorem ok_isn (T : Txt P K mg A) : FnOk P w K mg base CX0 2 A.a_is_number A.d_is_number ["value"] (spT1 K isN) := by
  refine T.F_is_number.ok sc_is_number (fun vs H Q E h => ?_) (fun cdv A' outer s H vs Q E hr h => ?_)
  · obtain ⟨v, rfl, _⟩ := h
    rfl
  · obtain ⟨v, rfl, n, k⟩ := h
    have G_is_an_integer := ok_isi (w := w) (base := base) T
    refine ⟨_, (pss_one (ps_ret (pe_and (pe_call G_is_an_integer (hr.mono (by decide)) rfl T.g_is_an_integer T.F_is_an_integer.kp (B_is_an_integer T) .nil pass0 (pa_cons (pv 0) pa_nil)) (pe_one (pe_cmpR op_ge (pv 0) pe_int (nomark _)))))), ?_⟩
    walk_at "sx"
    refine c_t1 n ?_
    rcases i_cases v with ⟨i, rfl⟩ | h
    · walk_at "sx"
      refine iteT ?_
      walk_at "sx"
      exact k
    · have e : isN v = false := num_no h
      rw [e] at k
      rw [h]
      walk_at "sx"
      exact k
theorem ok_isv (T : Txt P K mg A) : FnOk P w K mg base CX0 2 A.a_is_value A.d_is_value ["value"] (spT1 K isBit) := by
  refine T.F_is_value.ok sc_is_value (fun vs H Q E h => ?_) (fun cdv A' outer s H vs Q E hr h => ?_)
  · obtain ⟨v, rfl, _⟩ := h
    rfl
  · obtain ⟨v, rfl, n, k⟩ := h
    have G_is_an_integer := ok_isi (w := w) (base := base) T
    refine ⟨_, (pss_one (ps_ret (pe_and (pe_call G_is_an_integer (hr.mono (by decide)) rfl T.g_is_an_integer T.F_is_an_integer.kp (B_is_an_integer T) .nil pass0 (pa_cons (pv 0) pa_nil)) (pe_one (pe_chain op_le op_le pe_int (pv 0) pe_int))))), ?_⟩
    walk_at "sx"
    refine c_t1 n ?_
    rcases i_cases v with ⟨i, rfl⟩ | h
    · walk_at "sx"
      refine iteT ?_
      have e : isBit (.int i) = (decide (0 ≤ i) && decide (i ≤ 1)) := rfl
      rw [e] at k
      walk_at "sx"
      refine i_2 (fun hc => ?_) (fun hc => ?_)
      · rw [decide_eq_true hc] at k
        walk_at "sx"
        exact k
      · rw [decide_eq_false hc] at k
        exact k
    · have e : isBit v = false := num_no h
      rw [e] at k
      rw [h]
      walk_at "sx"
      exact k
/-- is_row -/
def spRow (K : PySem.W.Frag) : Sp := fun vs H Q _ => ∃ v n, vs = [v, .int n] ∧ ((IsIn K H v "tuple" false ∧ Q (.bl false) H) ∨
  ∃ p xs, v = .ref p ∧ H p = some (.tup xs) ∧ (∀ x ∈ xs, NI K H x) ∧ xs.length < 1000 ∧ ∀ H', Same H H' → Q (.bl (decide ((xs.length : Int) = n) && xs.all isBit)) H')
theorem ok_row (T : Txt P K mg A) : FnOk P w K mg base CX0 3 A.a_is_row A.d_is_row ["value", "size"] (spRow K) := by
  refine T.F_is_row.ok sc_is_row (fun vs H Q E h => ?_) (fun cdv A' outer s H vs Q E hr h => ?_)
  · obtain ⟨v, m, rfl, _⟩ := h
    rfl
  · obtain ⟨v, m, rfl, h⟩ := h
    have G_is_value := ok_isv (w := w) (base := base) T
    refine ⟨_, (pss_one (ps_ret (pe_and (pe_callB (id := "isinstance") (r := rIsiV K) call_isiV (by rfl) T.n_isinstance (by decide +kernel) (pa_cons (pv 0) (pa_cons (pe_bltn (v := .ty "tuple") (u := .type "tuple") (by rfl) T.n_tuple (by decide +kernel) rfl) pa_nil))) (pe_and (pe_cmpR op_eq (pe_callB call_len (by rfl) T.n_len (by decide +kernel) (pa_cons (pv 0) pa_nil)) (pv 1) (nomark _)) (pe_one (pe_callB (cr_all rfl) (by rfl) T.n_all (by decide +kernel) (pa_cons (pe_lc (own := [("member", 2)]) (g := (gName 2)) (by rfl) sc_is_row.nd (pi_tup (pv 0)) (blkOk_by (own := [("member", 2)]) (N := ["value", "size", "member"]) (sc := defScope s_is_row) (by decide +kernel)) (fun _ _ _ _ _ => (pg_name (i := 2) sc_is_row.nd rfl (Or.inl rfl))) (fun _ _ _ _ _ => pts_nil) (fun _ _ _ _ _ => (pe_call G_is_value (hr.mono (by decide)) rfl T.g_is_value T.F_is_value.kp (B_is_value T) .nil pass0 (pa_cons (pv 2) pa_nil)))) pa_nil))))))), ?_⟩
    walk_at "sx"
    rcases h with ⟨no, k⟩ | ⟨p, xs, rfl, hp, mem, sz, k⟩
    · refine isi_in no ?_
      walk_at "sx"
      exact k
    · refine isi_in (in_tup hp) ?_
      walk_at "sx"
      refine ⟨_, _, rfl, .inr ⟨xs, SqT.of hp, rfl⟩, ?_⟩
      walk_at "sx"
      refine i_2 (fun hc => ?_) (fun hc => ?_)
      · rw [decide_eq_true hc] at k
        walk_at "sx"
        refine ⟨_, rfl, p, rfl, ⟨_, SqT.of hp⟩, fun D hD => lc_tup (K := K) (a := p) (xs := xs) (fun i H' => Same H H' ∧ H' D = some (.lst ((xs.take i).map fun x => V.bl (isBit x)))) ⟨Same.new hD, upd_same⟩ (fun i H' _ ⟨s, _⟩ => SqT.of (s _ _ hp)) ?_ ?_⟩
        · rintro i x H' hx ⟨s', hD'⟩
          refine s_name ⟨rfl, ?_⟩
          refine s_yes (i_t ?_)
          walk_at "sx"
          refine c_t1 (ni_same s' (mem x (List.mem_of_getElem? hx))) ?_
          refine ⟨_, hD', ?_, Sx.Same.put s' hD, ?_⟩
          · rw [List.length_map, List.length_take]
            exact Nat.lt_of_le_of_lt (Nat.min_le_right _ _) (by show xs.length < 16777216; omega)
          · rw [upd_same, List.take_succ, hx]
            simp
        · rintro H' ⟨s', hD'⟩
          rw [List.take_length] at hD'
          have e : (xs.map fun x => V.bl (isBit x)) = (xs.map isBit).map V.bl := by
            rw [List.map_map]
            rfl
          rw [e] at hD'
          have k' := k H' s'
          rw [Bool.true_and, show xs.all isBit = (xs.map isBit).all id by rw [List.all_map]; rfl] at k'
          walk_at "sx"
          exact r_all hD' k'
      · rw [decide_eq_false hc] at k
        exact k H (L2.Same.refl _)
end
end K35

set_option Elab.async false
set_option linter.all false
set_option maxRecDepth 100000
set_option maxHeartbeats 2000000
namespace K35
open PySem L2 Sx
local macro_rules | `(tactic| walk_at "cond") => `(tactic| first
  | assumption
  | decide
  | exact c_mul_r (by first | decide | omega) (by first | decide | omega)
  | exact c_mul_l (by first | decide | omega) (by first | decide | omega)
  | exact c_div (by first | decide | omega) (by first | decide | omega)
  | exact c_pow (by first | decide | omega) (by first | decide | omega) (by first | decide | omega)
  | omega)
local macro_rules | `(tactic| walk_at "ne") => `(tactic| first
  | assumption
  | (refine Ne.symm ?_; assumption)
  | (refine' Flow.ne ?nh ?nn; (case nn => assumption); (case nh => walk_at "fl"))
  | (refine Ne.symm ?_; refine' Flow.ne ?nh ?nn; (case nn => assumption); (case nh => walk_at "fl"))
  | (refine' ne_of_none ?nh ?nn; (case nn => assumption); (case nh => walk_at "at"))
  | (refine Ne.symm ?_; refine' ne_of_none ?nh ?nn; (case nn => assumption); (case nh => walk_at "at")))
local macro_rules | `(tactic| walk_at "at") => `(tactic| first
  | assumption
  | (refine Same.up (by assumption) ?_; walk_at "at")
  | (refine Keep.up (by assumption) (by walk_at "ne") ?_; walk_at "at"))
local macro_rules | `(tactic| walk_at "fl") => `(tactic| first
  | assumption
  | (refine Flow.same (by assumption) ?_; walk_at "fl")
  | (refine Flow.keep (by assumption) (by walk_at "ne") ?_; walk_at "fl"))
local macro_rules | `(tactic| walk_at "fr") => `(tactic| first
  | assumption
  | (refine same_free (by assumption) ?_; walk_at "fr")
  | (refine Keep.free (by assumption) (by walk_at "ne") ?_; walk_at "fr"))
local macro_rules | `(tactic| walk_at "kp") => `(tactic| first
  | assumption
  | exact Keep.refl _ _
  | (refine Keep.trans ?_ (by assumption); walk_at "kp")
  | (refine Keep.trans ?_ (Keep.same (by assumption)); walk_at "kp"))
local macro_rules | `(tactic| walk_at "sm") => `(tactic| first
  | assumption
  | exact L2.Same.refl _
  | (refine L2.Same.trans ?_ (by assumption); walk_at "sm"))
local macro_rules | `(tactic| walk_at "sz") => `(tactic| first | exact Nat.le_of_ble_eq_true rfl | omega)
local macro_rules | `(tactic| walk_at "new") => `(tactic| (intro p np; generalize hE : upd _ p _ = H2; have s2 := new_same np hE; have h2 := new_at hE; clear hE))
local macro_rules | `(tactic| walk_at "newx") => `(tactic| (intro e d na nd hda; generalize hE : upd (upd _ d _) e _ = H2; have s2 := newx_same na nd hE; have h2 := newx_at hE; have h3 := newx_d hda hE; clear hE))
local macro_rules | `(tactic| walk_at "s1") => `(tactic| first
  | with_reducible refine s_seq ?_
  | with_reducible refine s_asg ?_
  | with_reducible refine s_name ?_
  | with_reducible refine s_ret ?_
  | with_reducible refine s_c ?_
  | ((with_reducible refine' s_var ?hv ?_); (case hv => rfl))
  | with_reducible refine s_op ?_
  | with_reducible refine s_un ?_
  | with_reducible refine s_ifS ?_
  | with_reducible refine s_cb ?_
  | with_reducible refine s_cons ?_
  | with_reducible refine s_nil ?_
  | with_reducible refine s_call ?_
  | with_reducible refine s_test ?_
  | with_reducible refine s_tB ?_
  | with_reducible refine s_bl ?_
  | with_reducible refine s_and ?_
  | with_reducible refine s_or ?_
  | with_reducible refine s_not ?_
  | with_reducible refine s_andV ?_
  | with_reducible refine s_orV ?_
  | with_reducible refine s_notV ?_
  | with_reducible refine s_blV ?_
  | with_reducible refine s_if ?_
  | with_reducible refine s_tup ?_
  | with_reducible refine s_lst ?_
  | with_reducible refine s_drop ?_
  | with_reducible refine s_next ?_
  | with_reducible refine s_sub ?_
  | with_reducible refine s_bm ?_
  | with_reducible refine s_callK ?_
  | with_reducible refine s_brk ?_
  | with_reducible refine s_cont ?_
  | with_reducible refine r_I0 ?_
  | with_reducible refine r_U ?_
  | with_reducible refine r_eqI ?_
  | with_reducible refine r_neI ?_
  | with_reducible refine r_isB ?_
  | with_reducible refine r_notB ?_
  | with_reducible refine i_t ?_
  | with_reducible refine i_f ?_
  | with_reducible refine i_nt ?_
  | with_reducible refine i_nf ?_
  | ((with_reducible refine' r_I ?hc ?_); (case hc => walk_at "cond"))
  | (with_reducible refine .inl ⟨_, rfl, ?_⟩)
  | (with_reducible refine ⟨_, rfl, ?_⟩)
  | ((with_reducible refine' r_ixL ?hx ?ha ?_); (case hx => walk_at "at"); (case ha => rfl))
  | ((with_reducible refine' r_ixT ?hx ?ha ?_); (case hx => walk_at "at"); (case ha => rfl))
  | ((with_reducible refine' r_setL ?hx ?ha ?_); (case hx => walk_at "at"); (case ha => rfl); intro H2 k2 h2; (try dsimp only [List.set, Int.toNat] at h2))
  | ((with_reducible refine' r_app ?hx ?hl ?_); (case hx => walk_at "at"); (case hl => first | exact Nat.lt_of_ble_eq_true rfl | omega); intro H2 k2 h2)
  | ((with_reducible refine' ty_list ?hx ?_); (case hx => walk_at "at"))
  | (refine And.intro (by (with_reducible show _ ≤ sizeLine); walk_at "sz") ?_; walk_at "new")
  | with_reducible refine s_exv ?_
  | walk_at "newx")
local macro_rules | `(tactic| walk_at "sx") => `(tactic| repeat (walk_at "s1"))
local macro_rules | `(tactic| walk_at "s2") => `(tactic| first
  | ((with_reducible refine' r_ixG ?hx ?hn ?_); (case hx => walk_at "at"); (case hn => omega))
  | ((with_reducible refine' r_ixGT ?hx ?hn ?_); (case hx => walk_at "at"); (case hn => omega))
  | (with_reducible refine ig_cons (fun hix => ?_) (fun hix => ?_))
  | ((with_reducible refine ig_nil ?_); omega)
  | ((with_reducible refine' i_T ?hc ?_); (case hc => omega))
  | ((with_reducible refine' i_F ?hc ?_); (case hc => omega))
  | (with_reducible refine i_2 (fun hc => ?_) (fun hc => ?_))
  | (with_reducible refine i_n2 (fun hc => ?_) (fun hc => ?_)))
local macro_rules | `(tactic| walk_at "go") => `(tactic| repeat' (first | walk_at "s1" | walk_at "s2"))

local macro_rules | `(tactic| walk_at "s1") => `(tactic| first
  | with_reducible refine s_chain ?_
  | with_reducible refine s_fldS ?_
  | with_reducible refine s_fld ?_
  | with_reducible refine s_dIn ?_
  | with_reducible refine s_dNotIn ?_
  | with_reducible refine s_sl ?_
  | with_reducible refine s_noPart ?_
  | with_reducible refine s_part ?_
  | with_reducible refine s_meth ?_
  | with_reducible refine s_make ?_)

section
variable {P : Program} {w : World} {K : PySem.W.Frag} {mg : Str → Option Value} {base : Heap} {A : Ad}
/-- bits -/
def Bits (n : Nat) (r : List Int) : Prop := r.length = n ∧ ∀ x ∈ r, x = 0 ∨ x = 1
abbrev rf (p : Addr × List Int) : V := .ref p.1
/-- rows of n bits that stand each at its place -/
def RowsAt (H : Hp) (n : Nat) (ks : List (Addr × List Int)) : Prop := ∀ p ∈ ks, H p.1 = some (.tup (p.2.map V.int)) ∧ Bits n p.2
theorem RowsAt.same {H H' : Hp} {n : Nat} {ks : List (Addr × List Int)} (e : Same H H') (h : RowsAt H n ks) : RowsAt H' n ks := fun p hp => ⟨e _ _ (h p hp).1, (h p hp).2⟩
theorem bit_all {n : Nat} {r : List Int} (h : Bits n r) : ((r.map V.int).all isBit) = true := by
  rw [List.all_eq_true]
  intro x hx
  obtain ⟨i, hi, rfl⟩ := List.mem_map.mp hx
  rcases h.2 i hi with rfl | rfl <;> rfl
theorem ints_ni {H : Hp} {r : List Int} : ∀ x ∈ r.map V.int, NI K H x := fun x hx => by
  obtain ⟨i, hi, rfl⟩ := List.mem_map.mp hx
  exact ni_int i
theorem c_row {H : Hp} {Q : VK} {E : XK} {p : Addr} {r : List Int} {n m : Nat} (hp : H p = some (.tup (r.map V.int))) (b : Bits m r) (sm : m < 1000) (q : ∀ H', Same H H' → Q (.bl (decide ((m : Int) = n))) H') : spRow K ([.ref p, .int n] ++ []) H Q E :=
  ⟨_, _, rfl, .inr ⟨p, _, rfl, hp, ints_ni, by rw [List.length_map, b.1]; exact sm, fun H' s => by
    rw [bit_all b, Bool.and_true, List.length_map, b.1]
    exact q H' s⟩⟩
theorem kit_any_l : PySem.W.kitAny K (.type "list") [.type "list", .type "tuple"] = some true := kitAny_cons (b := true) (kit_ty (by decide +kernel)) (fun z => nomatch z) (fun _ => rfl)
/-- are_rows of what are rows -/
def spAre : Sp := fun vs H Q _ => ∃ (l : Addr) (n : Nat) (ks : List (Addr × List Int)), vs = [.ref l, .int n] ∧ H l = some (.lst (ks.map rf)) ∧ ks ≠ [] ∧ ks.length < 1000 ∧ n < 1000 ∧ RowsAt H n ks ∧ ∀ H', Same H H' → Q (.bl true) H'
theorem ok_are (T : Txt P K mg A) : FnOk P w K mg base CX0 4 A.a_are_rows A.d_are_rows ["rows", "size"] spAre := by
  refine T.F_are_rows.ok sc_are_rows (fun vs H Q E h => ?_) (fun cdv A' outer s H vs Q E hr h => ?_)
  · obtain ⟨l, n, ks, rfl, _⟩ := h
    rfl
  · obtain ⟨l, n, ks, rfl, hl, ne, sz, sn, rows, k⟩ := h
    have G_is_row := ok_row (w := w) (base := base) T
    refine ⟨_, (pss_cons (ps_if (PW.pt (pw_or (pt_not (pt_val (pe_callB (id := "isinstance") (r := rIsiT K) call_isiT (by rfl) T.n_isinstance (by decide +kernel) (pa_cons (pv 0) (pa_cons (pe_tup (pa_cons (pe_bltn (v := .ty "list") (u := .type "list") (by rfl) T.n_list (by decide +kernel) rfl) (pa_cons (pe_bltn (v := .ty "tuple") (u := .type "tuple") (by rfl) T.n_tuple (by decide +kernel) rfl) pa_nil))) pa_nil))))) (pw_or1 (pt_cmpR op_eq (pe_callB call_len (by rfl) T.n_len (by decide +kernel) (pa_cons (pv 0) pa_nil)) pe_int (nomark _))))) (pss_one (ps_ret pe_bl)) pss_nil)
  (pss_one (ps_ret (pe_callB (cr_all rfl) (by rfl) T.n_all (by decide +kernel) (pa_cons (pe_lc (own := [("row", 2)]) (g := (gName 2)) (by rfl) sc_are_rows.nd (pi_list (pv 0)) (blkOk_by (own := [("row", 2)]) (N := ["rows", "size", "row"]) (sc := defScope s_are_rows) (by decide +kernel)) (fun _ _ _ _ _ => (pg_name (i := 2) sc_are_rows.nd rfl (Or.inl rfl))) (fun _ _ _ _ _ => pts_nil) (fun _ _ _ _ _ => (pe_call G_is_row (hr.mono (by decide)) rfl T.g_is_row T.F_is_row.kp (B_is_row T) .nil pass0 (pa_cons (pv 2) (pa_cons (pv 1) pa_nil))))) pa_nil))))), ?_⟩
    walk_at "sx"
    rename_i pt nt H1 s1 ht
    refine ⟨.ref l, pt, _, _, [.type "list", .type "tuple"], true, rfl, ht, .cons (.ty _) (.cons (.ty _) .nil), .base (.lst (s1 _ _ hl)), kit_any_l, ?_⟩
    walk_at "sx"
    refine ⟨_, _, rfl, .inl ⟨_, SqL.of (s1 _ _ hl), rfl⟩, ?_⟩
    walk_at "sx"
    have hn : ¬ (((ks.map rf).length : Int) = 0) := by
      rw [List.length_map]
      cases ks with
      | nil => exact absurd rfl ne
      | cons a b => simp; omega
    refine i_F hn ?_
    walk_at "sx"
    refine ⟨_, rfl, l, rfl, ⟨_, SqL.of (s1 _ _ hl)⟩, fun D hD => lc_list (K := K) (a := l) (xs := ks.map rf) (fun i H' => Same H1 H' ∧ H' D = some (.lst ((ks.take i).map fun _ => V.bl true))) ⟨Same.new hD, upd_same⟩ (fun i H' _ ⟨s, _⟩ => SqL.of (s _ _ (s1 _ _ hl))) ?_ ?_⟩
    · rintro i x H' hx ⟨s', hD'⟩
      obtain ⟨p, hp, rfl⟩ : ∃ p, ks[i]? = some p ∧ rf p = x := by
        rw [List.getElem?_map] at hx
        exact Option.map_eq_some_iff.mp hx
      obtain ⟨at', b⟩ := rows.same s1 p (List.mem_of_getElem? hp)
      refine s_name ⟨rfl, ?_⟩
      refine s_yes (i_t ?_)
      walk_at "sx"
      refine c_row (s' _ _ at') b sn fun H3 s3 => ?_
      rw [decide_eq_true rfl]
      refine ⟨_, s3 _ _ hD', ?_, Sx.Same.put (s'.trans s3) hD, ?_⟩
      · rw [List.length_map, List.length_take]
        exact Nat.lt_of_le_of_lt (Nat.min_le_right _ _) (by show ks.length < 16777216; omega)
      · rw [upd_same, List.take_succ, hp]
        simp
    · rintro H' ⟨s', hD'⟩
      rw [List.length_map, List.take_length] at hD'
      have e : (ks.map fun _ => V.bl true) = (ks.map fun _ => true).map V.bl := by
        rw [List.map_map]
        rfl
      rw [e] at hD'
      walk_at "sx"
      refine r_all hD' ?_
      have z : ((ks.map fun _ => true).all id) = true := by
        rw [List.all_eq_true]
        intro x hx
        obtain ⟨_, _, rfl⟩ := List.mem_map.mp hx
        rfl
      rw [z]
      exact k _ (s1.trans s')
end
end K35

set_option Elab.async false
set_option linter.all false
set_option maxRecDepth 100000
set_option maxHeartbeats 4000000
namespace K35
open PySem L2 Sx
local macro_rules | `(tactic| walk_at "cond") => `(tactic| first
  | assumption
  | decide
  | exact c_mul_r (by first | decide | omega) (by first | decide | omega)
  | exact c_mul_l (by first | decide | omega) (by first | decide | omega)
  | exact c_div (by first | decide | omega) (by first | decide | omega)
  | exact c_pow (by first | decide | omega) (by first | decide | omega) (by first | decide | omega)
  | omega)
local macro_rules | `(tactic| walk_at "ne") => `(tactic| first
  | assumption
  | (refine Ne.symm ?_; assumption)
  | (refine' Flow.ne ?nh ?nn; (case nn => assumption); (case nh => walk_at "fl"))
  | (refine Ne.symm ?_; refine' Flow.ne ?nh ?nn; (case nn => assumption); (case nh => walk_at "fl"))
  | (refine' ne_of_none ?nh ?nn; (case nn => assumption); (case nh => walk_at "at"))
  | (refine Ne.symm ?_; refine' ne_of_none ?nh ?nn; (case nn => assumption); (case nh => walk_at "at")))
local macro_rules | `(tactic| walk_at "at") => `(tactic| first
  | assumption
  | (refine Same.up (by assumption) ?_; walk_at "at")
  | (refine Keep.up (by assumption) (by walk_at "ne") ?_; walk_at "at"))
local macro_rules | `(tactic| walk_at "fl") => `(tactic| first
  | assumption
  | (refine Flow.same (by assumption) ?_; walk_at "fl")
  | (refine Flow.keep (by assumption) (by walk_at "ne") ?_; walk_at "fl"))
local macro_rules | `(tactic| walk_at "fr") => `(tactic| first
  | assumption
  | (refine same_free (by assumption) ?_; walk_at "fr")
  | (refine Keep.free (by assumption) (by walk_at "ne") ?_; walk_at "fr"))
local macro_rules | `(tactic| walk_at "kp") => `(tactic| first
  | assumption
  | exact Keep.refl _ _
  | (refine Keep.trans ?_ (by assumption); walk_at "kp")
  | (refine Keep.trans ?_ (Keep.same (by assumption)); walk_at "kp"))
local macro_rules | `(tactic| walk_at "sm") => `(tactic| first
  | assumption
  | exact L2.Same.refl _
  | (refine L2.Same.trans ?_ (by assumption); walk_at "sm"))
local macro_rules | `(tactic| walk_at "sz") => `(tactic| first | exact Nat.le_of_ble_eq_true rfl | omega)
local macro_rules | `(tactic| walk_at "new") => `(tactic| (intro p np; generalize hE : upd _ p _ = H2; have s2 := new_same np hE; have h2 := new_at hE; clear hE))
local macro_rules | `(tactic| walk_at "newx") => `(tactic| (intro e d na nd hda; generalize hE : upd (upd _ d _) e _ = H2; have s2 := newx_same na nd hE; have h2 := newx_at hE; have h3 := newx_d hda hE; clear hE))
local macro_rules | `(tactic| walk_at "s1") => `(tactic| first
  | with_reducible refine s_seq ?_
  | with_reducible refine s_asg ?_
  | with_reducible refine s_name ?_
  | with_reducible refine s_ret ?_
  | with_reducible refine s_c ?_
  | ((with_reducible refine' s_var ?hv ?_); (case hv => rfl))
  | with_reducible refine s_op ?_
  | with_reducible refine s_un ?_
  | with_reducible refine s_ifS ?_
  | with_reducible refine s_cb ?_
  | with_reducible refine s_cons ?_
  | with_reducible refine s_nil ?_
  | with_reducible refine s_call ?_
  | with_reducible refine s_test ?_
  | with_reducible refine s_tB ?_
  | with_reducible refine s_bl ?_
  | with_reducible refine s_and ?_
  | with_reducible refine s_or ?_
  | with_reducible refine s_not ?_
  | with_reducible refine s_andV ?_
  | with_reducible refine s_orV ?_
  | with_reducible refine s_notV ?_
  | with_reducible refine s_blV ?_
  | with_reducible refine s_if ?_
  | with_reducible refine s_tup ?_
  | with_reducible refine s_lst ?_
  | with_reducible refine s_drop ?_
  | with_reducible refine s_next ?_
  | with_reducible refine s_sub ?_
  | with_reducible refine s_bm ?_
  | with_reducible refine s_callK ?_
  | with_reducible refine s_brk ?_
  | with_reducible refine s_cont ?_
  | with_reducible refine r_I0 ?_
  | with_reducible refine r_U ?_
  | with_reducible refine r_eqI ?_
  | with_reducible refine r_neI ?_
  | with_reducible refine r_isB ?_
  | with_reducible refine r_notB ?_
  | with_reducible refine i_t ?_
  | with_reducible refine i_f ?_
  | with_reducible refine i_nt ?_
  | with_reducible refine i_nf ?_
  | ((with_reducible refine' r_I ?hc ?_); (case hc => walk_at "cond"))
  | (with_reducible refine .inl ⟨_, rfl, ?_⟩)
  | (with_reducible refine ⟨_, rfl, ?_⟩)
  | ((with_reducible refine' r_ixL ?hx ?ha ?_); (case hx => walk_at "at"); (case ha => rfl))
  | ((with_reducible refine' r_ixT ?hx ?ha ?_); (case hx => walk_at "at"); (case ha => rfl))
  | ((with_reducible refine' r_setL ?hx ?ha ?_); (case hx => walk_at "at"); (case ha => rfl); intro H2 k2 h2; (try dsimp only [List.set, Int.toNat] at h2))
  | ((with_reducible refine' r_app ?hx ?hl ?_); (case hx => walk_at "at"); (case hl => first | exact Nat.lt_of_ble_eq_true rfl | omega); intro H2 k2 h2)
  | ((with_reducible refine' ty_list ?hx ?_); (case hx => walk_at "at"))
  | (refine And.intro (by (with_reducible show _ ≤ sizeLine); walk_at "sz") ?_; walk_at "new")
  | with_reducible refine s_exv ?_
  | walk_at "newx")
local macro_rules | `(tactic| walk_at "sx") => `(tactic| repeat (walk_at "s1"))
local macro_rules | `(tactic| walk_at "s2") => `(tactic| first
  | ((with_reducible refine' r_ixG ?hx ?hn ?_); (case hx => walk_at "at"); (case hn => omega))
  | ((with_reducible refine' r_ixGT ?hx ?hn ?_); (case hx => walk_at "at"); (case hn => omega))
  | (with_reducible refine ig_cons (fun hix => ?_) (fun hix => ?_))
  | ((with_reducible refine ig_nil ?_); omega)
  | ((with_reducible refine' i_T ?hc ?_); (case hc => omega))
  | ((with_reducible refine' i_F ?hc ?_); (case hc => omega))
  | (with_reducible refine i_2 (fun hc => ?_) (fun hc => ?_))
  | (with_reducible refine i_n2 (fun hc => ?_) (fun hc => ?_)))
local macro_rules | `(tactic| walk_at "go") => `(tactic| repeat' (first | walk_at "s1" | walk_at "s2"))

local macro_rules | `(tactic| walk_at "s1") => `(tactic| first
  | with_reducible refine s_chain ?_
  | with_reducible refine s_fldS ?_
  | with_reducible refine s_fld ?_
  | with_reducible refine s_dIn ?_
  | with_reducible refine s_dNotIn ?_
  | with_reducible refine s_sl ?_
  | with_reducible refine s_noPart ?_
  | with_reducible refine s_part ?_
  | with_reducible refine s_meth ?_
  | with_reducible refine s_make ?_)

section
variable {P : Program} {w : World} {K : PySem.W.Frag} {mg : Str → Option Value} {base : Heap} {A : Ad}
abbrev rkey (p : Addr × List Int) : List L2.Key × V := (p.2.map Sum.inl, .bl true)
/-- the rows ascending, each once -/
def Asc (ks : List (Addr × List Int)) : Prop := (ks.map (·.2)).Nodup ∧ ks.Pairwise (fun q r => TS.code 2 q.2 ≤ TS.code 2 r.2)
/-- a list of rules stands at x: its rows ks, each at its place -/
def RuAt (C : Addr) (H : Hp) (x : Addr) (n : Nat) (ks : List (Addr × List Int)) : Prop := ∃ dx t kn, H x = some (.ins C dx [("size", .int n), ("rows", .ref t), ("_known", .ref kn)]) ∧ H t = some (.tup (ks.map rf)) ∧ H kn = some (.dT (ks.map rkey)) ∧
  RowsAt H n ks ∧ Asc ks ∧ ks ≠ [] ∧ ks.length < 64
theorem RuAt.same {C : Addr} {H H' : Hp} {x : Addr} {n : Nat} {ks : List (Addr × List Int)} (e : Same H H') (h : RuAt C H x n ks) : RuAt C H' x n ks := by
  obtain ⟨dx, t, kn, h1, h2, h3, h4, h5⟩ := h
  exact ⟨dx, t, kn, e _ _ h1, e _ _ h2, e _ _ h3, h4.same e, h5⟩
theorem bits_bd {n : Nat} {r : List Int} (h : Bits n r) : TS.Bd 2 r := fun m hm => by
  rcases h.2 m hm with rfl | rfl <;> decide
theorem rf_sq {H : Hp} {n : Nat} {ks : List (Addr × List Int)} (h : RowsAt H n ks) : ∀ p ∈ ks, SqT K H p.1 (p.2.map V.int) := fun p hp => SqT.of (h p hp).1
/-- what is made of the rows of a sequence: the same rows, ascending, each once -/
def Of (ks ks' : List (Addr × List Int)) : Prop := (∀ p ∈ ks', p ∈ ks) ∧ (∀ p ∈ ks, p.2 ∈ ks'.map (·.2)) ∧ Asc ks' ∧ ks' ≠ [] ∧ ks'.length < 64
theorem one_pw {α : Type} {R : α → α → Prop} : ∀ {L : List α}, L.length ≤ 1 → L.Pairwise R
  | [], _ => .nil
  | [_], _ => List.pairwise_singleton _ _
theorem of_ne {ks L : List (Addr × List Int)} (ne : ks ≠ []) (all : ∀ p ∈ ks, p.2 ∈ L.map (·.2)) : L ≠ [] := fun e => by
  subst e
  cases ks with
  | nil => exact ne rfl
  | cons q r => exact nomatch all q List.mem_cons_self
theorem inl_inj : ∀ {r r' : List Int}, (r.map Sum.inl : List L2.Key) = r'.map Sum.inl → r = r'
  | [], [], _ => rfl
  | a :: r, b :: r', e => by
    rw [List.map_cons, List.map_cons] at e
    obtain ⟨h1, h2⟩ := List.cons.inj e
    rw [Sum.inl.inj h1, inl_inj h2]
theorem valV_none {κ : Type} [DecidableEq κ] {k : κ} : ∀ {kvs : List (κ × V)}, (∀ p ∈ kvs, p.1 ≠ k) → valV kvs k = none
  | [], _ => rfl
  | p :: r, h => by
    rw [valV_neg (h p List.mem_cons_self)]
    exact valV_none fun q hq => h q (List.mem_cons_of_mem _ hq)
theorem rkeys_next {L : List (Addr × List Int)} (nd : (L.map (·.2)).Nodup) {i : Nat} {q : Addr × List Int} (hq : L[i]? = some q) : putK ((L.take i).map rkey) (q.2.map Sum.inl) (.bl true) = (L.take (i + 1)).map rkey := by
  rw [List.take_succ, hq, putK_new]
  · simp
  · refine valV_none fun p hp e => ?_
    obtain ⟨z, hz, rfl⟩ := List.mem_map.mp hp
    have e2 : z.2 = q.2 := inl_inj e
    obtain ⟨j, hj, hjz⟩ := List.getElem_of_mem hz
    rw [List.length_take] at hj
    have hji : j < i := by omega
    have hjl : j < L.length := by omega
    rw [List.getElem_take] at hjz
    have hil : i < L.length := (List.getElem?_eq_some_iff.mp hq).1
    have hqi : L[i] = q := (List.getElem?_eq_some_iff.mp hq).2
    have z1 := List.pairwise_iff_getElem.mp nd j i (by rw [List.length_map]; exact hjl) (by rw [List.length_map]; exact hil) hji
    apply z1
    rw [List.getElem_map, List.getElem_map, hjz, hqi]
    exact e2
def spMake (C : Addr) : Sp := fun vs H Q _ => ∃ (x dx l : Addr) (n : Nat) (ks : List (Addr × List Int)), vs = [.ref x, .int n, .ref l] ∧ H x = some (.ins C dx []) ∧ H l = some (.lst (ks.map rf)) ∧ ks ≠ [] ∧ ks.length < 64 ∧ n < 1000 ∧ RowsAt H n ks ∧
  (∀ p ∈ ks, p.1 ≠ x) ∧ ∀ H' ks', Keep x H H' → Of ks ks' → RuAt C H' x n ks' → Q .non H'
theorem ok_make (T : Txt P K mg A) : FnOk P w K mg base CX0 5 A.a_Rules____init__ A.d_Rules____init__ ["self", "size", "rows"] (spMake A.c_Rules) := by
  refine T.F_Rules____init__.ok sc_Rules____init__ (fun vs H Q E h => ?_) (fun cdv A' outer s H vs Q E hr h => ?_)
  · obtain ⟨x, dx, l, n, ks, rfl, _⟩ := h
    rfl
  · obtain ⟨x, dx, l, n, ks, rfl, hx, hl, ne, sz, sn, rows, nx, k⟩ := h
    have G_is_number := ok_isn (w := w) (base := base) T
    have G_are_rows := ok_are (w := w) (base := base) T
    have en : isN (.int (n : Int)) = true := decide_eq_true (Int.natCast_nonneg n)
    have lx : l ≠ x := ne_of hl hx fun z => nomatch z
    rcases Nat.eq_zero_or_pos n with n0 | n0
    · refine ⟨_, (pss_cons (ps_if (PW.pt (pw_or (pt_not (pt_val (pe_call G_is_number (hr.mono (by decide)) rfl T.g_is_number T.F_is_number.kp (B_is_number T) .nil pass0 (pa_cons (pv 1) pa_nil)))) (pw_or1 (pt_not (pt_val (pe_call G_are_rows (hr.mono (by decide)) rfl T.g_are_rows T.F_are_rows.kp (B_are_rows T) .nil pass0 (pa_cons (pv 2) (pa_cons (pv 1) pa_nil)))))))) (pss_one ps_never) pss_nil)
  (pss_cons (ps_fld (pv 0) (pv 1) (by rfl))
  (pss_cons (ps_fld (pv 0) (pe_callTy call_tuple_of (by rfl) T.n_tuple (by decide +kernel) (pa_cons (pe_callB (cr_sortedOne rfl) (by rfl) T.n_sorted (by decide +kernel) (pa_cons (pe_callTy (cr_setOfT rfl hr.units) (by rfl) T.n_set (by decide +kernel) (pa_cons (pv 2) pa_nil)) pa_nil)) pa_nil)) (by rfl))
  (pss_one (ps_fld (pv 0) (pe_dcP (u0 := .dT []) (own := [("row", 3)]) (g := (gName 3)) (.inr rfl) hr.units0 rfl sc_Rules____init__.nd (pi_tup (pe_fld (pv 0) rfl)) (blkOk_by (own := [("row", 3)]) (N := ["self", "size", "rows", "row"]) (sc := defScope s_Rules____init__) (by decide +kernel)) ⟨fun _ _ _ _ _ => (pg_name (i := 3) sc_Rules____init__.nd rfl (Or.inl rfl)), fun _ _ _ _ _ => pts_nil, fun _ _ _ _ _ => (pv 3), fun _ _ _ _ _ => pe_bl⟩) (by rfl)))))), ?_⟩
      walk_at "sx"
      refine c_t1 (ni_int _) ?_
      rw [en]
      walk_at "sx"
      refine ⟨l, n, ks, rfl, hl, ne, by omega, sn, rows, fun H1 s1 => ?_⟩
      walk_at "sx"
      refine r_put rfl (s1 _ _ hx) T.cl_Rules T.no_Rules_size (by decide) (fun H2 k2 h2 => ?_)
      walk_at "sx"
      refine ⟨l, ks, rfl, SqL.of (k2 _ _ lx (s1 _ _ hl)), fun p hp => SqT.of (k2 _ _ (nx p hp) (s1 _ _ (rows p hp).1)), sz, fun a L na sub all => ?_⟩
      generalize hE3 : upd H2 a _ = H3
      have s3 := new_same na hE3
      have h3 := new_at hE3
      walk_at "sx"
      refine ⟨a, L, rfl, h3, fun p hp => SqT.of (s3 _ _ (k2 _ _ (nx p (sub p hp)) (s1 _ _ (rows p (sub p hp)).1))), fun p hp => ?_, fun nd one p np => ?_⟩
      · have := (rows p (sub p hp)).2.1
        exact List.eq_nil_of_length_eq_zero (by omega)
      have of' : Of ks L := ⟨sub, all, ⟨nd, one_pw one⟩, of_ne ne all, by omega⟩
      generalize hE4 : upd H3 p _ = H4
      have s4 := new_same np hE4
      have h4 := new_at hE4
      walk_at "sx"
      refine ⟨p, _, rfl, .inl ⟨SqL.of h4, fun t nt => ?_⟩⟩
      generalize hE5 : upd H4 t _ = H5
      have s5 := new_same nt hE5
      have h5 := new_at hE5
      have hx4 := s4 _ _ (s3 _ _ h2)
      have tx : t ≠ x := fun e => by rw [e, hx4] at nt; cases nt
      walk_at "sx"
      refine r_put rfl (s5 _ _ hx4) T.cl_Rules T.no_Rules_rows (Nat.le_of_ble_eq_true rfl) (fun H6 k6 h6 => ?_)
      have rows6 : RowsAt H6 n L := fun q hq => ⟨k6 _ _ (nx q (of'.1 q hq)) (s5 _ _ (s4 _ _ (s3 _ _ (k2 _ _ (nx q (of'.1 q hq)) (s1 _ _ (rows q (of'.1 q hq)).1))))), (rows q (of'.1 q hq)).2⟩
      walk_at "sx"
      refine ⟨_, rfl, _, _, _, _, _, rfl, h6, T.cl_Rules, T.no_Rules_rows, rfl, t, rfl, ⟨_, SqT.of (k6 _ _ tx h5)⟩, fun D hD => dcp_tup (K := K) (a := t) (xs := L.map rf) (fun i H' => Same H6 H' ∧ H' D = some (.dT ((L.take i).map rkey))) ⟨Same.new hD, upd_same⟩ (fun i H' _ ⟨s, _⟩ => SqT.of (s _ _ (k6 _ _ tx h5))) ?_ ?_⟩
      · rintro i y H' hy ⟨s', hD'⟩
        obtain ⟨q, hq, rfl⟩ : ∃ q, L[i]? = some q ∧ rf q = y := by
          rw [List.getElem?_map] at hy
          exact Option.map_eq_some_iff.mp hy
        have hm := List.mem_of_getElem? hq
        refine s_name ⟨rfl, ?_⟩
        refine s_yes (i_t ?_)
        walk_at "sx"
        refine ⟨_, DPut.t (k := q.2.map Sum.inl) hD' ?_ ?_, Sx.Same.put s' hD, ?_⟩
        · rw [List.map_map]
          exact s' _ _ (rows6 q hm).1
        · rw [List.length_map, List.length_take]
          exact Nat.lt_of_le_of_lt (Nat.min_le_right _ _) (by show L.length < 16777216; have := of'.2.2.2.2; omega)
        · rw [upd_same, rkeys_next of'.2.2.1.1 hq]
      · rintro H' ⟨s', hD'⟩
        rw [List.length_map, List.take_length] at hD'
        have dx' : D ≠ x := fun e => by rw [e, h6] at hD; cases hD
        walk_at "sx"
        refine r_put rfl (s' _ _ h6) T.cl_Rules T.no_Rules__known (Nat.le_of_ble_eq_true rfl) (fun H7 k7 h7 => ?_)
        walk_at "sx"
        refine k H7 L ?_ of' ⟨dx, t, D, h7, k7 _ _ tx (s' _ _ (k6 _ _ tx h5)), k7 _ _ dx' hD', fun q hq => ⟨k7 _ _ (nx q (of'.1 q hq)) (s' _ _ (rows6 q hq).1), (rows6 q hq).2⟩, of'.2.2.1, of'.2.2.2.1, of'.2.2.2.2⟩
        exact (Keep.same s1).trans (k2.trans ((Keep.same s3).trans ((Keep.same s4).trans ((Keep.same s5).trans (k6.trans ((Keep.same s').trans k7))))))
    · refine ⟨_, (pss_cons (ps_if (PW.pt (pw_or (pt_not (pt_val (pe_call G_is_number (hr.mono (by decide)) rfl T.g_is_number T.F_is_number.kp (B_is_number T) .nil pass0 (pa_cons (pv 1) pa_nil)))) (pw_or1 (pt_not (pt_val (pe_call G_are_rows (hr.mono (by decide)) rfl T.g_are_rows T.F_are_rows.kp (B_are_rows T) .nil pass0 (pa_cons (pv 2) (pa_cons (pv 1) pa_nil)))))))) (pss_one ps_never) pss_nil)
  (pss_cons (ps_fld (pv 0) (pv 1) (by rfl))
  (pss_cons (ps_fld (pv 0) (pe_callTy call_tuple_of (by rfl) T.n_tuple (by decide +kernel) (pa_cons (pe_callB (cr_sortedT rfl) (by rfl) T.n_sorted (by decide +kernel) (pa_cons (pe_callTy (cr_setOfT rfl hr.units) (by rfl) T.n_set (by decide +kernel) (pa_cons (pv 2) pa_nil)) pa_nil)) pa_nil)) (by rfl))
  (pss_one (ps_fld (pv 0) (pe_dcP (u0 := .dT []) (own := [("row", 3)]) (g := (gName 3)) (.inr rfl) hr.units0 rfl sc_Rules____init__.nd (pi_tup (pe_fld (pv 0) rfl)) (blkOk_by (own := [("row", 3)]) (N := ["self", "size", "rows", "row"]) (sc := defScope s_Rules____init__) (by decide +kernel)) ⟨fun _ _ _ _ _ => (pg_name (i := 3) sc_Rules____init__.nd rfl (Or.inl rfl)), fun _ _ _ _ _ => pts_nil, fun _ _ _ _ _ => (pv 3), fun _ _ _ _ _ => pe_bl⟩) (by rfl)))))), ?_⟩
      walk_at "sx"
      refine c_t1 (ni_int _) ?_
      rw [en]
      walk_at "sx"
      refine ⟨l, n, ks, rfl, hl, ne, by omega, sn, rows, fun H1 s1 => ?_⟩
      walk_at "sx"
      refine r_put rfl (s1 _ _ hx) T.cl_Rules T.no_Rules_size (by decide) (fun H2 k2 h2 => ?_)
      walk_at "sx"
      refine ⟨l, ks, rfl, SqL.of (k2 _ _ lx (s1 _ _ hl)), fun p hp => SqT.of (k2 _ _ (nx p hp) (s1 _ _ (rows p hp).1)), sz, fun a L na sub all => ?_⟩
      generalize hE3 : upd H2 a _ = H3
      have s3 := new_same na hE3
      have h3 := new_at hE3
      walk_at "sx"
      refine ⟨a, L, n, 2, rfl, h3, fun p hp => SqT.of (s3 _ _ (k2 _ _ (nx p (sub p hp)) (s1 _ _ (rows p (sub p hp)).1))), n0, fun p hp => ⟨(rows p (sub p hp)).2.1, bits_bd (rows p (sub p hp)).2⟩, fun L' p pm nd len pw np => ?_⟩
      have of' : Of ks L' := ⟨fun q hq => sub q (pm.mem_iff.mp hq), fun q hq => (pm.map (·.2)).mem_iff.mpr (all q hq), ⟨nd, pw⟩, fun e => of_ne ne all (by rw [e] at pm; exact pm.symm.eq_nil), len⟩
      generalize hE4 : upd H3 p _ = H4
      have s4 := new_same np hE4
      have h4 := new_at hE4
      walk_at "sx"
      refine ⟨p, _, rfl, .inl ⟨SqL.of h4, fun t nt => ?_⟩⟩
      generalize hE5 : upd H4 t _ = H5
      have s5 := new_same nt hE5
      have h5 := new_at hE5
      have hx4 := s4 _ _ (s3 _ _ h2)
      have tx : t ≠ x := fun e => by rw [e, hx4] at nt; cases nt
      walk_at "sx"
      refine r_put rfl (s5 _ _ hx4) T.cl_Rules T.no_Rules_rows (Nat.le_of_ble_eq_true rfl) (fun H6 k6 h6 => ?_)
      have rows6 : RowsAt H6 n L' := fun q hq => ⟨k6 _ _ (nx q (of'.1 q hq)) (s5 _ _ (s4 _ _ (s3 _ _ (k2 _ _ (nx q (of'.1 q hq)) (s1 _ _ (rows q (of'.1 q hq)).1))))), (rows q (of'.1 q hq)).2⟩
      walk_at "sx"
      refine ⟨_, rfl, _, _, _, _, _, rfl, h6, T.cl_Rules, T.no_Rules_rows, rfl, t, rfl, ⟨_, SqT.of (k6 _ _ tx h5)⟩, fun D hD => dcp_tup (K := K) (a := t) (xs := L'.map rf) (fun i H' => Same H6 H' ∧ H' D = some (.dT ((L'.take i).map rkey))) ⟨Same.new hD, upd_same⟩ (fun i H' _ ⟨s, _⟩ => SqT.of (s _ _ (k6 _ _ tx h5))) ?_ ?_⟩
      · rintro i y H' hy ⟨s', hD'⟩
        obtain ⟨q, hq, rfl⟩ : ∃ q, L'[i]? = some q ∧ rf q = y := by
          rw [List.getElem?_map] at hy
          exact Option.map_eq_some_iff.mp hy
        have hm := List.mem_of_getElem? hq
        refine s_name ⟨rfl, ?_⟩
        refine s_yes (i_t ?_)
        walk_at "sx"
        refine ⟨_, DPut.t (k := q.2.map Sum.inl) hD' ?_ ?_, Sx.Same.put s' hD, ?_⟩
        · rw [List.map_map]
          exact s' _ _ (rows6 q hm).1
        · rw [List.length_map, List.length_take]
          exact Nat.lt_of_le_of_lt (Nat.min_le_right _ _) (by show L'.length < 16777216; have := of'.2.2.2.2; omega)
        · rw [upd_same, rkeys_next of'.2.2.1.1 hq]
      · rintro H' ⟨s', hD'⟩
        rw [List.length_map, List.take_length] at hD'
        have dx' : D ≠ x := fun e => by rw [e, h6] at hD; cases hD
        walk_at "sx"
        refine r_put rfl (s' _ _ h6) T.cl_Rules T.no_Rules__known (Nat.le_of_ble_eq_true rfl) (fun H7 k7 h7 => ?_)
        walk_at "sx"
        refine k H7 L' ?_ of' ⟨dx, t, D, h7, k7 _ _ tx (s' _ _ (k6 _ _ tx h5)), k7 _ _ dx' hD', fun q hq => ⟨k7 _ _ (nx q (of'.1 q hq)) (s' _ _ (rows6 q hq).1), (rows6 q hq).2⟩, of'.2.2.1, of'.2.2.2.1, of'.2.2.2.2⟩
        exact (Keep.same s1).trans (k2.trans ((Keep.same s3).trans ((Keep.same s4).trans ((Keep.same s5).trans (k6.trans ((Keep.same s').trans k7))))))
end
end K35

set_option Elab.async false
set_option linter.all false
set_option maxRecDepth 100000
set_option maxHeartbeats 4000000
namespace K35
open PySem L2 Sx
local macro_rules | `(tactic| walk_at "cond") => `(tactic| first
  | assumption
  | decide
  | exact c_mul_r (by first | decide | omega) (by first | decide | omega)
  | exact c_mul_l (by first | decide | omega) (by first | decide | omega)
  | exact c_div (by first | decide | omega) (by first | decide | omega)
  | exact c_pow (by first | decide | omega) (by first | decide | omega) (by first | decide | omega)
  | omega)
local macro_rules | `(tactic| walk_at "ne") => `(tactic| first
  | assumption
  | (refine Ne.symm ?_; assumption)
  | (refine' Flow.ne ?nh ?nn; (case nn => assumption); (case nh => walk_at "fl"))
  | (refine Ne.symm ?_; refine' Flow.ne ?nh ?nn; (case nn => assumption); (case nh => walk_at "fl"))
  | (refine' ne_of_none ?nh ?nn; (case nn => assumption); (case nh => walk_at "at"))
  | (refine Ne.symm ?_; refine' ne_of_none ?nh ?nn; (case nn => assumption); (case nh => walk_at "at")))
local macro_rules | `(tactic| walk_at "at") => `(tactic| first
  | assumption
  | (refine Same.up (by assumption) ?_; walk_at "at")
  | (refine Keep.up (by assumption) (by walk_at "ne") ?_; walk_at "at"))
local macro_rules | `(tactic| walk_at "fl") => `(tactic| first
  | assumption
  | (refine Flow.same (by assumption) ?_; walk_at "fl")
  | (refine Flow.keep (by assumption) (by walk_at "ne") ?_; walk_at "fl"))
local macro_rules | `(tactic| walk_at "fr") => `(tactic| first
  | assumption
  | (refine same_free (by assumption) ?_; walk_at "fr")
  | (refine Keep.free (by assumption) (by walk_at "ne") ?_; walk_at "fr"))
local macro_rules | `(tactic| walk_at "kp") => `(tactic| first
  | assumption
  | exact Keep.refl _ _
  | (refine Keep.trans ?_ (by assumption); walk_at "kp")
  | (refine Keep.trans ?_ (Keep.same (by assumption)); walk_at "kp"))
local macro_rules | `(tactic| walk_at "sm") => `(tactic| first
  | assumption
  | exact L2.Same.refl _
  | (refine L2.Same.trans ?_ (by assumption); walk_at "sm"))
local macro_rules | `(tactic| walk_at "sz") => `(tactic| first | exact Nat.le_of_ble_eq_true rfl | omega)
local macro_rules | `(tactic| walk_at "new") => `(tactic| (intro p np; generalize hE : upd _ p _ = H2; have s2 := new_same np hE; have h2 := new_at hE; clear hE))
local macro_rules | `(tactic| walk_at "newx") => `(tactic| (intro e d na nd hda; generalize hE : upd (upd _ d _) e _ = H2; have s2 := newx_same na nd hE; have h2 := newx_at hE; have h3 := newx_d hda hE; clear hE))
local macro_rules | `(tactic| walk_at "s1") => `(tactic| first
  | with_reducible refine s_seq ?_
  | with_reducible refine s_asg ?_
  | with_reducible refine s_name ?_
  | with_reducible refine s_ret ?_
  | with_reducible refine s_c ?_
  | ((with_reducible refine' s_var ?hv ?_); (case hv => rfl))
  | with_reducible refine s_op ?_
  | with_reducible refine s_un ?_
  | with_reducible refine s_ifS ?_
  | with_reducible refine s_cb ?_
  | with_reducible refine s_cons ?_
  | with_reducible refine s_nil ?_
  | with_reducible refine s_call ?_
  | with_reducible refine s_test ?_
  | with_reducible refine s_tB ?_
  | with_reducible refine s_bl ?_
  | with_reducible refine s_and ?_
  | with_reducible refine s_or ?_
  | with_reducible refine s_not ?_
  | with_reducible refine s_andV ?_
  | with_reducible refine s_orV ?_
  | with_reducible refine s_notV ?_
  | with_reducible refine s_blV ?_
  | with_reducible refine s_if ?_
  | with_reducible refine s_tup ?_
  | with_reducible refine s_lst ?_
  | with_reducible refine s_drop ?_
  | with_reducible refine s_next ?_
  | with_reducible refine s_sub ?_
  | with_reducible refine s_bm ?_
  | with_reducible refine s_callK ?_
  | with_reducible refine s_brk ?_
  | with_reducible refine s_cont ?_
  | with_reducible refine r_I0 ?_
  | with_reducible refine r_U ?_
  | with_reducible refine r_eqI ?_
  | with_reducible refine r_neI ?_
  | with_reducible refine r_isB ?_
  | with_reducible refine r_notB ?_
  | with_reducible refine i_t ?_
  | with_reducible refine i_f ?_
  | with_reducible refine i_nt ?_
  | with_reducible refine i_nf ?_
  | ((with_reducible refine' r_I ?hc ?_); (case hc => walk_at "cond"))
  | (with_reducible refine .inl ⟨_, rfl, ?_⟩)
  | (with_reducible refine ⟨_, rfl, ?_⟩)
  | ((with_reducible refine' r_ixL ?hx ?ha ?_); (case hx => walk_at "at"); (case ha => rfl))
  | ((with_reducible refine' r_ixT ?hx ?ha ?_); (case hx => walk_at "at"); (case ha => rfl))
  | ((with_reducible refine' r_setL ?hx ?ha ?_); (case hx => walk_at "at"); (case ha => rfl); intro H2 k2 h2; (try dsimp only [List.set, Int.toNat] at h2))
  | ((with_reducible refine' r_app ?hx ?hl ?_); (case hx => walk_at "at"); (case hl => first | exact Nat.lt_of_ble_eq_true rfl | omega); intro H2 k2 h2)
  | ((with_reducible refine' ty_list ?hx ?_); (case hx => walk_at "at"))
  | (refine And.intro (by (with_reducible show _ ≤ sizeLine); walk_at "sz") ?_; walk_at "new")
  | with_reducible refine s_exv ?_
  | walk_at "newx")
local macro_rules | `(tactic| walk_at "sx") => `(tactic| repeat (walk_at "s1"))
local macro_rules | `(tactic| walk_at "s2") => `(tactic| first
  | ((with_reducible refine' r_ixG ?hx ?hn ?_); (case hx => walk_at "at"); (case hn => omega))
  | ((with_reducible refine' r_ixGT ?hx ?hn ?_); (case hx => walk_at "at"); (case hn => omega))
  | (with_reducible refine ig_cons (fun hix => ?_) (fun hix => ?_))
  | ((with_reducible refine ig_nil ?_); omega)
  | ((with_reducible refine' i_T ?hc ?_); (case hc => omega))
  | ((with_reducible refine' i_F ?hc ?_); (case hc => omega))
  | (with_reducible refine i_2 (fun hc => ?_) (fun hc => ?_))
  | (with_reducible refine i_n2 (fun hc => ?_) (fun hc => ?_)))
local macro_rules | `(tactic| walk_at "go") => `(tactic| repeat' (first | walk_at "s1" | walk_at "s2"))

local macro_rules | `(tactic| walk_at "s1") => `(tactic| first
  | with_reducible refine s_chain ?_
  | with_reducible refine s_fldS ?_
  | with_reducible refine s_fld ?_
  | with_reducible refine s_dIn ?_
  | with_reducible refine s_dNotIn ?_
  | with_reducible refine s_sl ?_
  | with_reducible refine s_noPart ?_
  | with_reducible refine s_part ?_
  | with_reducible refine s_meth ?_
  | with_reducible refine s_make ?_)

section
variable {P : Program} {w : World} {K : PySem.W.Frag} {mg : Str → Option Value} {base : Heap} {A : Ad}
/-- row with another value at a place -/
def spWith (K : PySem.W.Frag) : Sp := fun vs H Q _ => ∃ (p : Addr) (xs : List V) (k : Nat) (v : V), vs = [.ref p, .int k, v] ∧ H p = some (.tup xs) ∧ k < xs.length ∧ xs.length < 1000 ∧ ∀ q H', Same H H' → H' q = some (.tup (xs.set k v)) → Q (.ref q) H'
theorem ok_with (T : Txt P K mg A) : FnOk P w K mg base CX0 1 A.a_with_value A.d_with_value ["row", "point", "value"] (spWith K) := by
  refine T.F_with_value.ok sc_with_value (fun vs H Q E h => ?_) (fun cdv A' outer s H vs Q E hr h => ?_)
  · obtain ⟨p, xs, k, v, rfl, _⟩ := h
    rfl
  · obtain ⟨p, xs, j, v, rfl, hp, lt, sz, k⟩ := h
    refine ⟨_, (pss_one (ps_ret (pe_op op_catA (pe_op op_catA (pe_slice sl_tupA (pv 0) po_none (po_some (pv 1))) (pe_tup (pa_cons (pv 2) pa_nil))) (pe_slice sl_tupA (pv 0) (po_some (pe_op op_add (pv 1) pe_int)) po_none)))), ?_⟩
    walk_at "sx"
    refine r_take hp lt fun p1 H1 n1 s1 h1 => ?_
    walk_at "sx"
    rename_i p2 n2 H2 s2 h2
    refine r_cat (s2 _ _ h1) h2 (by rw [List.length_take, sizeLine_eq]; simp; omega) fun p3 H3 s3 h3 => ?_
    walk_at "sx"
    refine r_drop (s3 _ _ (s2 _ _ (s1 _ _ hp))) lt fun p4 H4 n4 s4 h4 => ?_
    refine r_cat (s4 _ _ h3) h4 (by rw [List.length_append, List.length_take, List.length_drop, sizeLine_eq]; simp; omega) fun p5 H5 s5 h5 => ?_
    refine k p5 H5 (s1.trans (s2.trans (s3.trans (s4.trans s5)))) ?_
    rw [h5, List.set_eq_take_append_cons_drop, if_pos lt, List.append_assoc]
    rfl
/-! own len and == -/
def spLen (C : Addr) : Sp := fun vs H Q _ => ∃ (x : Addr) (n : Nat) (ks : List (Addr × List Int)), vs = [.ref x] ∧ RuAt C H x n ks ∧ Q (.int ks.length) H
theorem ok_len (T : Txt P K mg A) : FnOk P w K mg base CX0 1 A.a_Rules____len__ A.d_Rules____len__ ["self"] (spLen A.c_Rules) := by
  refine T.F_Rules____len__.ok sc_Rules____len__ (fun vs H Q E h => ?_) (fun cdv A' outer s H vs Q E hr h => ?_)
  · obtain ⟨x, n, ks, rfl, _⟩ := h
    rfl
  · obtain ⟨x, n, ks, rfl, ⟨dx, t, kn, h1, h2, h3, rows, asc, ne, sz⟩, k⟩ := h
    refine ⟨_, (pss_one (ps_ret (pe_callB call_len (by rfl) T.n_len (by decide +kernel) (pa_cons (pe_fld (pv 0) rfl) pa_nil)))), ?_⟩
    walk_at "sx"
    refine r_get rfl h1 T.cl_Rules T.no_Rules_rows rfl ?_
    walk_at "sx"
    refine ⟨_, _, rfl, .inr ⟨_, SqT.of h2, rfl⟩, ?_⟩
    rw [List.length_map]
    exact k
end
end K35

set_option Elab.async false
set_option linter.all false
set_option maxRecDepth 100000
set_option maxHeartbeats 4000000
namespace K35
open PySem L2 Sx
local macro_rules | `(tactic| walk_at "cond") => `(tactic| first
  | assumption
  | decide
  | exact c_mul_r (by first | decide | omega) (by first | decide | omega)
  | exact c_mul_l (by first | decide | omega) (by first | decide | omega)
  | exact c_div (by first | decide | omega) (by first | decide | omega)
  | exact c_pow (by first | decide | omega) (by first | decide | omega) (by first | decide | omega)
  | omega)
local macro_rules | `(tactic| walk_at "ne") => `(tactic| first
  | assumption
  | (refine Ne.symm ?_; assumption)
  | (refine' Flow.ne ?nh ?nn; (case nn => assumption); (case nh => walk_at "fl"))
  | (refine Ne.symm ?_; refine' Flow.ne ?nh ?nn; (case nn => assumption); (case nh => walk_at "fl"))
  | (refine' ne_of_none ?nh ?nn; (case nn => assumption); (case nh => walk_at "at"))
  | (refine Ne.symm ?_; refine' ne_of_none ?nh ?nn; (case nn => assumption); (case nh => walk_at "at")))
local macro_rules | `(tactic| walk_at "at") => `(tactic| first
  | assumption
  | (refine Same.up (by assumption) ?_; walk_at "at")
  | (refine Keep.up (by assumption) (by walk_at "ne") ?_; walk_at "at"))
local macro_rules | `(tactic| walk_at "fl") => `(tactic| first
  | assumption
  | (refine Flow.same (by assumption) ?_; walk_at "fl")
  | (refine Flow.keep (by assumption) (by walk_at "ne") ?_; walk_at "fl"))
local macro_rules | `(tactic| walk_at "fr") => `(tactic| first
  | assumption
  | (refine same_free (by assumption) ?_; walk_at "fr")
  | (refine Keep.free (by assumption) (by walk_at "ne") ?_; walk_at "fr"))
local macro_rules | `(tactic| walk_at "kp") => `(tactic| first
  | assumption
  | exact Keep.refl _ _
  | (refine Keep.trans ?_ (by assumption); walk_at "kp")
  | (refine Keep.trans ?_ (Keep.same (by assumption)); walk_at "kp"))
local macro_rules | `(tactic| walk_at "sm") => `(tactic| first
  | assumption
  | exact L2.Same.refl _
  | (refine L2.Same.trans ?_ (by assumption); walk_at "sm"))
local macro_rules | `(tactic| walk_at "sz") => `(tactic| first | exact Nat.le_of_ble_eq_true rfl | omega)
local macro_rules | `(tactic| walk_at "new") => `(tactic| (intro p np; generalize hE : upd _ p _ = H2; have s2 := new_same np hE; have h2 := new_at hE; clear hE))
local macro_rules | `(tactic| walk_at "newx") => `(tactic| (intro e d na nd hda; generalize hE : upd (upd _ d _) e _ = H2; have s2 := newx_same na nd hE; have h2 := newx_at hE; have h3 := newx_d hda hE; clear hE))
local macro_rules | `(tactic| walk_at "s1") => `(tactic| first
  | with_reducible refine s_seq ?_
  | with_reducible refine s_asg ?_
  | with_reducible refine s_name ?_
  | with_reducible refine s_ret ?_
  | with_reducible refine s_c ?_
  | ((with_reducible refine' s_var ?hv ?_); (case hv => rfl))
  | with_reducible refine s_op ?_
  | with_reducible refine s_un ?_
  | with_reducible refine s_ifS ?_
  | with_reducible refine s_cb ?_
  | with_reducible refine s_cons ?_
  | with_reducible refine s_nil ?_
  | with_reducible refine s_call ?_
  | with_reducible refine s_test ?_
  | with_reducible refine s_tB ?_
  | with_reducible refine s_bl ?_
  | with_reducible refine s_and ?_
  | with_reducible refine s_or ?_
  | with_reducible refine s_not ?_
  | with_reducible refine s_andV ?_
  | with_reducible refine s_orV ?_
  | with_reducible refine s_notV ?_
  | with_reducible refine s_blV ?_
  | with_reducible refine s_if ?_
  | with_reducible refine s_tup ?_
  | with_reducible refine s_lst ?_
  | with_reducible refine s_drop ?_
  | with_reducible refine s_next ?_
  | with_reducible refine s_sub ?_
  | with_reducible refine s_bm ?_
  | with_reducible refine s_callK ?_
  | with_reducible refine s_brk ?_
  | with_reducible refine s_cont ?_
  | with_reducible refine r_I0 ?_
  | with_reducible refine r_U ?_
  | with_reducible refine r_eqI ?_
  | with_reducible refine r_neI ?_
  | with_reducible refine r_isB ?_
  | with_reducible refine r_notB ?_
  | with_reducible refine i_t ?_
  | with_reducible refine i_f ?_
  | with_reducible refine i_nt ?_
  | with_reducible refine i_nf ?_
  | ((with_reducible refine' r_I ?hc ?_); (case hc => walk_at "cond"))
  | (with_reducible refine .inl ⟨_, rfl, ?_⟩)
  | (with_reducible refine ⟨_, rfl, ?_⟩)
  | ((with_reducible refine' r_ixL ?hx ?ha ?_); (case hx => walk_at "at"); (case ha => rfl))
  | ((with_reducible refine' r_ixT ?hx ?ha ?_); (case hx => walk_at "at"); (case ha => rfl))
  | ((with_reducible refine' r_setL ?hx ?ha ?_); (case hx => walk_at "at"); (case ha => rfl); intro H2 k2 h2; (try dsimp only [List.set, Int.toNat] at h2))
  | ((with_reducible refine' r_app ?hx ?hl ?_); (case hx => walk_at "at"); (case hl => first | exact Nat.lt_of_ble_eq_true rfl | omega); intro H2 k2 h2)
  | ((with_reducible refine' ty_list ?hx ?_); (case hx => walk_at "at"))
  | (refine And.intro (by (with_reducible show _ ≤ sizeLine); walk_at "sz") ?_; walk_at "new")
  | with_reducible refine s_exv ?_
  | walk_at "newx")
local macro_rules | `(tactic| walk_at "sx") => `(tactic| repeat (walk_at "s1"))
local macro_rules | `(tactic| walk_at "s2") => `(tactic| first
  | ((with_reducible refine' r_ixG ?hx ?hn ?_); (case hx => walk_at "at"); (case hn => omega))
  | ((with_reducible refine' r_ixGT ?hx ?hn ?_); (case hx => walk_at "at"); (case hn => omega))
  | (with_reducible refine ig_cons (fun hix => ?_) (fun hix => ?_))
  | ((with_reducible refine ig_nil ?_); omega)
  | ((with_reducible refine' i_T ?hc ?_); (case hc => omega))
  | ((with_reducible refine' i_F ?hc ?_); (case hc => omega))
  | (with_reducible refine i_2 (fun hc => ?_) (fun hc => ?_))
  | (with_reducible refine i_n2 (fun hc => ?_) (fun hc => ?_)))
local macro_rules | `(tactic| walk_at "go") => `(tactic| repeat' (first | walk_at "s1" | walk_at "s2"))

local macro_rules | `(tactic| walk_at "s1") => `(tactic| first
  | with_reducible refine s_chain ?_
  | with_reducible refine s_fldS ?_
  | with_reducible refine s_fld ?_
  | with_reducible refine s_dIn ?_
  | with_reducible refine s_dNotIn ?_
  | with_reducible refine s_sl ?_
  | with_reducible refine s_noPart ?_
  | with_reducible refine s_part ?_
  | with_reducible refine s_meth ?_
  | with_reducible refine s_make ?_)

section
variable {P : Program} {w : World} {K : PySem.W.Frag} {mg : Str → Option Value} {base : Heap} {A : Ad}
/-! numbers and their rows -/
/-- the n lowest bits of m, the highest first -/
def bitsOf : Nat → Nat → List Int
  | 0, _ => []
  | n + 1, m => bitsOf n (m / 2) ++ [((m % 2 : Nat) : Int)]
theorem bitsOf_bits : ∀ n m, Bits n (bitsOf n m)
  | 0, _ => ⟨rfl, fun x h => nomatch h⟩
  | n + 1, m => by
    obtain ⟨h1, h2⟩ := bitsOf_bits n (m / 2)
    refine ⟨by simp [bitsOf, h1], fun x hx => ?_⟩
    rcases List.mem_append.mp hx with z | z
    · exact h2 x z
    · rw [List.mem_singleton.mp z]
      omega
/-- what is left of the row behind i turns -/
theorem bitsOf_add : ∀ i n m, bitsOf (n + i) m = bitsOf n (m / 2 ^ i) ++ bitsOf i m
  | 0, n, m => by simp [bitsOf]
  | i + 1, n, m => by
    show bitsOf (n + i) (m / 2) ++ [((m % 2 : Nat) : Int)] = _
    rw [bitsOf_add i n (m / 2), List.append_assoc, Nat.div_div_eq_div_mul, ← Nat.pow_succ', bitsOf]
theorem bitsOf_next (i m : Nat) : bitsOf (i + 1) m = [((m / 2 ^ i % 2 : Nat) : Int)] ++ bitsOf i m := by
  rw [Nat.add_comm i 1, bitsOf_add i 1 m]
  rfl
def spRowOf : Sp := fun vs H Q _ => ∃ (m n : Nat), vs = [.int m, .int n] ∧ n < 1000 ∧ ∀ q H', Same H H' → H' q = some (.tup ((bitsOf n m).map V.int)) → Q (.ref q) H'
theorem ok_rowOf (T : Txt P K mg A) : FnOk P w K mg base CX0 1 A.a__law_row A.d__law_row ["number", "size"] spRowOf := by
  refine T.F__law_row.ok sc__law_row (fun vs H Q E h => ?_) (fun cdv A' outer s H vs Q E hr h => ?_)
  · obtain ⟨m, n, rfl, _⟩ := h
    rfl
  · obtain ⟨m, n, rfl, sn, k⟩ := h
    refine ⟨_, (pss_cons (ps_set (i := 2) sc__law_row.nd rfl (Or.inl rfl) (pe_tup pa_nil))
  (pss_cons (ps_for PassesOwn.never rfl (pi_range1 rfl T.n_range (pa_cons (pv 1) pa_nil)) (pg_name (i := 3) sc__law_row.nd rfl (Or.inl rfl))
  (pss_cons (ps_set (i := 2) sc__law_row.nd rfl (Or.inl rfl) (pe_op op_catA (pe_tup (pa_cons (pe_op op_mod (pe_callTy call_int1 (by rfl) T.n_int (by decide +kernel) (pa_cons (pv 0) pa_nil)) pe_int) pa_nil)) (pv 2)))
  (pss_one (ps_set (i := 0) sc__law_row.nd rfl (Or.inl rfl) (pe_op op_fdiv (pv 0) pe_int)))))
  (pss_one (ps_ret (pv 2))))), ?_⟩
    walk_at "sx"
    rename_i p0 np0 H1 s1 h1
    refine ⟨_, rfl, _, rfl, by omega, by omega, for_range (lo := 0) (n := n) (fun i σ H' => Same H H' ∧ ∃ (q : Addr) (v : Option V), σ = [some (.int (m / 2 ^ i : Nat)), some (.int n), some (.ref q), v] ∧ H' q = some (.tup ((bitsOf i m).map V.int))) ?_ ?_ ?_⟩
    · refine ⟨s1, p0, none, ?_, h1⟩
      rw [Nat.pow_zero, Nat.div_one]
      rfl
    · rintro i σ H' hi ⟨s', q, v, rfl, hq⟩
      walk_at "sx"
      rename_i p2 np2 H2 s2 h2
      have hb := (bitsOf_bits i m).1
      refine r_cat h2 (s2 _ _ hq) (by rw [List.length_map, hb, sizeLine_eq]; simp; omega) fun p3 H3 s3 h3 => ?_
      walk_at "sx"
      refine ⟨s'.trans (s2.trans s3), p3, some (.int (0 + (i : Int))), ?_, ?_⟩
      · have e : ((m / 2 ^ i : Nat) : Int) / 2 = ((m / 2 ^ (i + 1) : Nat) : Int) := by
          rw [Nat.pow_succ, ← Nat.div_div_eq_div_mul]
          omega
        rw [e]
        rfl
      · have e : (((m / 2 ^ i : Nat) : Int) % 2) = ((m / 2 ^ i % 2 : Nat) : Int) := by omega
        rw [h3, bitsOf_next, List.map_append, e]
        rfl
    · rintro σ H' ⟨s', q, v, rfl, hq⟩
      walk_at "sx"
      exact k q H' s' hq
theorem code_snoc (x : Int) : ∀ r : List Int, TS.code 2 (r ++ [x]) = TS.code 2 r * 2 + x
  | [] => by
    show x * 2 ^ 0 + 0 = 0 * 2 + x
    rw [Int.pow_zero]
    omega
  | d :: r => by
    show d * 2 ^ (r ++ [x]).length + TS.code 2 (r ++ [x]) = (d * 2 ^ r.length + TS.code 2 r) * 2 + x
    rw [code_snoc x r, List.length_append, List.length_singleton, Int.pow_succ, Int.add_mul, ← Int.mul_assoc]
    omega
theorem code_bits : ∀ n m, m < 2 ^ n → TS.code 2 (bitsOf n m) = (m : Int)
  | 0, m, h => by
    have : m = 0 := by simpa using h
    subst this
    rfl
  | n + 1, m, h => by
    rw [bitsOf, code_snoc, code_bits n (m / 2) (by rw [Nat.pow_succ] at h; omega)]
    omega
theorem bits_inj {n a b : Nat} (ha : a < 2 ^ n) (hb : b < 2 ^ n) (e : bitsOf n a = bitsOf n b) : a = b := by
  have z := congrArg (TS.code 2) e
  rw [code_bits n a ha, code_bits n b hb] at z
  omega
/-- numbers of rules: ascending, below 2 ^ n -/
structure Nums (n : Nat) (ns : List Nat) : Prop where
  asc : ns.Pairwise (· < ·)
  lt : ∀ m ∈ ns, m < 2 ^ n
  ne : ns ≠ []
  few : ns.length < 64
abbrev nv (m : Nat) : V := .int m
/-- one row more in the list at D -/
theorem rows_step {H1 H' H2 : Hp} {D p : Addr} {n : Nat} {ls : List (Addr × List Int)} {r : List Int} {rs : List (List Int)} (hD : H1 D = none) (hD' : H' D = some (.lst (ls.map rf))) (s' : Same H1 H') (s2 : Same H' H2) (rl : RowsAt H' n ls) (hp : H2 p = some (.tup (r.map V.int))) (b : Bits n r)
    (sz : ls.length < 1000) (e : ls.map (·.2) ++ [r] = rs) :
    ∃ acc, H2 D = some (.lst acc) ∧ acc.length < sizeLine ∧ Same H1 (upd H2 D (.lst (acc ++ [V.ref p]))) ∧ ∃ ls' : List (Addr × List Int), (upd H2 D (.lst (acc ++ [V.ref p]))) D = some (.lst (ls'.map rf)) ∧ RowsAt (upd H2 D (.lst (acc ++ [V.ref p]))) n ls' ∧ ls'.map (·.2) = rs := by
  have hD2 := s2 _ _ hD'
  refine ⟨_, hD2, ?_, Sx.Same.put (s'.trans s2) hD, ls ++ [(p, r)], ?_, fun z hz => ?_, ?_⟩
  · rw [List.length_map]
    show ls.length < 16777216
    omega
  · rw [upd_same, List.map_append]
    rfl
  · have tu : H2 z.1 = some (.tup (z.2.map V.int)) ∧ Bits n z.2 := by
      rcases List.mem_append.mp hz with m | m
      · exact ⟨s2 _ _ (rl z m).1, (rl z m).2⟩
      · rw [List.mem_singleton.mp m]
        exact ⟨hp, b⟩
    refine ⟨?_, tu.2⟩
    rw [upd_ne (ne_of tu.1 hD2 fun e => nomatch e)]
    exact tu.1
  · rw [List.map_append]
    exact e
theorem rows_nil {H : Hp} {n : Nat} : RowsAt H n [] := fun _ h => nomatch h
/-- a list made of the rows of numbers has just these, in order -/
theorem of_nums {n : Nat} {ns : List Nat} {ls ks : List (Addr × List Int)} (N : Nums n ns) (e : ∀ r, r ∈ ls.map (·.2) ↔ r ∈ ns.map (bitsOf n)) (o : Of ls ks) : ks.map (·.2) = ns.map (bitsOf n) := by
  have ndr : (ns.map (bitsOf n)).Nodup := List.pairwise_map.mpr (List.Pairwise.imp_of_mem (fun {a b} ha hb hlt h => Nat.ne_of_lt hlt (bits_inj (N.lt a ha) (N.lt b hb) h)) N.asc)
  have mem : ∀ r, r ∈ ks.map (·.2) ↔ r ∈ ns.map (bitsOf n) := fun r => by
    rw [← e r]
    exact ⟨fun h => (List.mem_map.mp h).elim fun p hp => List.mem_map.mpr ⟨p, o.1 p hp.1, hp.2⟩, fun h => (List.mem_map.mp h).elim fun p hp => hp.2 ▸ o.2.1 p hp.1⟩
  have perm := (List.perm_ext_iff_of_nodup o.2.2.1.1 ndr).mpr mem
  refine List.Perm.eq_of_pairwise (le := fun a b => TS.code 2 a ≤ TS.code 2 b) (fun a b ha hb h1 h2 => ?_) (List.pairwise_map.mpr o.2.2.1.2) (List.pairwise_map.mpr (List.Pairwise.imp_of_mem (fun {a b} ha hb h => ?_) N.asc)) perm
  · obtain ⟨c, hc, rfl⟩ := List.mem_map.mp ((mem a).mp ha)
    obtain ⟨d, hd, rfl⟩ := List.mem_map.mp hb
    rw [code_bits n c (N.lt c hc), code_bits n d (N.lt d hd)] at h1 h2
    have : c = d := by omega
    rw [this]
  · show TS.code 2 (bitsOf n a) ≤ TS.code 2 (bitsOf n b)
    rw [code_bits n a (N.lt a ha), code_bits n b (N.lt b hb)]
    omega
/-- 1, 2, 4 .. -/
def spFull : Sp := fun vs H Q _ => ∃ n : Nat, vs = [.int n] ∧ n ≤ 6 ∧ ∀ H', Same H H' → Q (.int (2 ^ n : Nat)) H'
theorem ok_full (T : Txt P K mg A) : FnOk P w K mg base CX0 1 A.a__law_full A.d__law_full ["size"] spFull := by
  refine T.F__law_full.ok sc__law_full (fun vs H Q E h => ?_) (fun cdv A' outer s H vs Q E hr h => ?_)
  · obtain ⟨n, rfl, _⟩ := h
    rfl
  · obtain ⟨n, rfl, sn, k⟩ := h
    refine ⟨_, (pss_one (ps_ret (pe_ix ix_seq (pe_lst (pa_cons pe_int (pa_cons pe_int (pa_cons pe_int (pa_cons pe_int (pa_cons pe_int (pa_cons pe_int (pa_cons pe_int pa_nil)))))))) (pv 0) (fun _ _ => rfl)))), ?_⟩
    walk_at "sx"
    rename_i p0 np0 H1 s1 h1
    have hn : n = 0 ∨ n = 1 ∨ n = 2 ∨ n = 3 ∨ n = 4 ∨ n = 5 ∨ n = 6 := by omega
    rcases hn with rfl | rfl | rfl | rfl | rfl | rfl | rfl
    all_goals
      refine r_ixL h1 (by rfl) ?_
      exact k _ s1
end
end K35

set_option Elab.async false
set_option linter.all false
/-! how many pairs of numbers differ at one bit alone -/
namespace Ct
/-- from a one step up at the p-th of n bits (0 the highest) -/
abbrev Up (n : Nat) (S : List Nat) (a p : Nat) : Prop := a / 2 ^ (n - 1 - p) % 2 = 0 ∧ a + 2 ^ (n - 1 - p) ∈ S
def cnt (n : Nat) (S : List Nat) (a : Nat) : Nat := ((List.range n).filter fun p => decide (Up n S a p)).length
def edges (n : Nat) (S : List Nat) : Nat := (S.map (cnt n S)).sum
def ones : Nat → Nat
  | 0 => 0
  | k + 1 => ones ((k + 1) / 2) + (k + 1) % 2
decreasing_by omega
def pops : List Nat := [0,1,1,2,1,2,2,3,1,2,2,3,2,3,3,4,1,2,2,3,2,3,3,4,2,3,3,4,3,4,4,5]
/-- the most pairs among m numbers -/
def F (m : Nat) : Nat := (pops.take m).sum
theorem F_split : ∀ a, a ≤ 32 → ∀ b, b ≤ 32 → a + b ≤ 32 → F a + F b + min a b ≤ F (a + b) := by
  have z : ((List.range 33).all fun a => (List.range 33).all fun b => !decide (a + b ≤ 32) || decide (F a + F b + min a b ≤ F (a + b))) = true := by decide +kernel
  intro a ha b hb h
  have z1 := List.all_eq_true.mp z a (List.mem_range.mpr (by omega))
  have z2 := List.all_eq_true.mp z1 b (List.mem_range.mpr (by omega))
  simpa [h] using z2
theorem sum_split (f : Nat → Nat) (t : Nat) : ∀ S : List Nat, (S.map f).sum = ((S.filter fun a => decide (a < t)).map f).sum + ((S.filter fun a => decide (t ≤ a)).map f).sum
  | [] => rfl
  | a :: S => by
    have ih := sum_split f t S
    rw [List.map_cons, List.sum_cons, ih]
    by_cases h : a < t
    · rw [List.filter_cons_of_pos (by simpa using h), List.filter_cons_of_neg (by simp; omega), List.map_cons, List.sum_cons]
      omega
    · rw [List.filter_cons_of_neg (by simpa using h), List.filter_cons_of_pos (by simp; omega), List.map_cons, List.sum_cons]
      omega
theorem len_split (t : Nat) : ∀ S : List Nat, S.length = (S.filter fun a => decide (a < t)).length + (S.filter fun a => decide (t ≤ a)).length
  | [] => rfl
  | a :: S => by
    have ih := len_split t S
    rw [List.length_cons, ih]
    by_cases h : a < t
    · rw [List.filter_cons_of_pos (by simpa using h), List.filter_cons_of_neg (by simp; omega), List.length_cons]
      omega
    · rw [List.filter_cons_of_neg (by simpa using h), List.filter_cons_of_pos (by simp; omega), List.length_cons]
      omega
/-- one more at a place that was 0 stays below -/
theorem up_lt {n k a : Nat} (hk : k < n) (ha : a < 2 ^ n) (b : a / 2 ^ k % 2 = 0) : a + 2 ^ k < 2 ^ n := by
  obtain ⟨m, rfl⟩ : ∃ m, n = k + 1 + m := ⟨n - (k + 1), by omega⟩
  have p0 : 0 < 2 ^ k := Nat.pow_pos (by decide)
  have e : 2 ^ (k + 1 + m) = 2 ^ k * (2 * 2 ^ m) := by rw [Nat.pow_add, Nat.pow_succ, Nat.mul_assoc]
  rw [e] at ha ⊢
  have q : a / 2 ^ k < 2 * 2 ^ m := Nat.div_lt_of_lt_mul ha
  have q2 : a / 2 ^ k + 2 ≤ 2 * 2 ^ m := by omega
  have r := Nat.div_add_mod a (2 ^ k)
  have s := Nat.mod_lt a p0
  have t := Nat.mul_le_mul_left (2 ^ k) q2
  rw [Nat.mul_add] at t
  omega
theorem bit_low {n k a : Nat} (hk : k < n) (ha : 2 ^ n ≤ a) : (a - 2 ^ n) / 2 ^ k % 2 = a / 2 ^ k % 2 := by
  obtain ⟨m, rfl⟩ : ∃ m, n = k + 1 + m := ⟨n - (k + 1), by omega⟩
  have p0 : 0 < 2 ^ k := Nat.pow_pos (by decide)
  have e : 2 ^ (k + 1 + m) = 2 ^ k * (2 * 2 ^ m) := by rw [Nat.pow_add, Nat.pow_succ, Nat.mul_assoc]
  rw [e] at ha ⊢
  obtain ⟨b, rfl⟩ : ∃ b, a = b + 2 ^ k * (2 * 2 ^ m) := ⟨a - 2 ^ k * (2 * 2 ^ m), by omega⟩
  rw [Nat.add_sub_cancel, Nat.add_mul_div_left _ _ p0]
  omega
theorem cnt_succ (n : Nat) (S : List Nat) (a : Nat) : cnt (n + 1) S a = (if a / 2 ^ n % 2 = 0 ∧ a + 2 ^ n ∈ S then 1 else 0) + ((List.range n).filter fun p => decide (a / 2 ^ (n - 1 - p) % 2 = 0 ∧ a + 2 ^ (n - 1 - p) ∈ S)).length := by
  unfold cnt
  have ef : (fun p => decide (Up (n + 1) S a p)) ∘ Nat.succ = fun p => decide (a / 2 ^ (n - 1 - p) % 2 = 0 ∧ a + 2 ^ (n - 1 - p) ∈ S) := funext fun p => by
    have e : n + 1 - 1 - (p + 1) = n - 1 - p := by omega
    show decide (a / 2 ^ (n + 1 - 1 - (p + 1)) % 2 = 0 ∧ a + 2 ^ (n + 1 - 1 - (p + 1)) ∈ S) = _
    rw [e]
  rw [List.range_succ_eq_map, List.filter_cons, List.filter_map, ef]
  by_cases h : a / 2 ^ n % 2 = 0 ∧ a + 2 ^ n ∈ S
  · have h0 : decide (Up (n + 1) S a 0) = true := decide_eq_true h
    rw [if_pos h0, if_pos h, List.length_cons, List.length_map, Nat.add_comm]
  · have h0 : ¬ decide (Up (n + 1) S a 0) = true := fun z => h (of_decide_eq_true z)
    rw [if_neg h0, if_neg h, List.length_map, Nat.zero_add]
theorem ind_sum (p : Nat → Bool) : ∀ L : List Nat, (L.map fun a => if p a = true then 1 else 0).sum = (L.filter p).length
  | [] => rfl
  | a :: L => by
    rw [List.map_cons, List.sum_cons, ind_sum p L, List.filter_cons]
    split
    · rw [List.length_cons]
      omega
    · omega
theorem sum_add (f g : Nat → Nat) : ∀ L : List Nat, (L.map fun a => f a + g a).sum = (L.map f).sum + (L.map g).sum
  | [] => rfl
  | a :: L => by
    rw [List.map_cons, List.sum_cons, sum_add f g L, List.map_cons, List.map_cons, List.sum_cons, List.sum_cons]
    omega
theorem edges_le : ∀ (n : Nat) (S : List Nat), S.Nodup → (∀ a ∈ S, a < 2 ^ n) → S.length ≤ 32 → edges n S ≤ F S.length
  | 0, S, _, _, _ => by
    have e : ∀ a, cnt 0 S a = 0 := fun a => rfl
    have z : ∀ L : List Nat, (L.map (cnt 0 S)).sum = 0 := fun L => by
      induction L with
      | nil => rfl
      | cons a L ih => rw [List.map_cons, List.sum_cons, ih, e]
    show (S.map (cnt 0 S)).sum ≤ _
    rw [z]
    exact Nat.zero_le _
  | n + 1, S, nd, lt, sz => by
    obtain ⟨S0, e0⟩ : ∃ S0, S0 = S.filter fun a => decide (a < 2 ^ n) := ⟨_, rfl⟩
    obtain ⟨Sg, eg⟩ : ∃ Sg, Sg = S.filter fun a => decide (2 ^ n ≤ a) := ⟨_, rfl⟩
    obtain ⟨S1, e1⟩ : ∃ S1, S1 = Sg.map fun a => a - 2 ^ n := ⟨_, rfl⟩
    have m0 : ∀ a, a ∈ S0 ↔ a ∈ S ∧ a < 2 ^ n := fun a => by rw [e0, List.mem_filter]; simp
    have mg : ∀ a, a ∈ Sg ↔ a ∈ S ∧ 2 ^ n ≤ a := fun a => by rw [eg, List.mem_filter]; simp
    have m1 : ∀ a, a ∈ S1 ↔ a + 2 ^ n ∈ S := fun a => by
      rw [e1, List.mem_map]
      constructor
      · rintro ⟨b, hb, rfl⟩
        have := (mg b).mp hb
        rw [Nat.sub_add_cancel this.2]
        exact this.1
      · intro h
        exact ⟨a + 2 ^ n, (mg _).mpr ⟨h, Nat.le_add_left _ _⟩, by omega⟩
    have nd0 : S0.Nodup := by rw [e0]; exact nd.filter _
    have ndg : Sg.Nodup := by rw [eg]; exact nd.filter _
    have nd1 : S1.Nodup := by
      rw [e1]
      refine List.pairwise_map.mpr (List.Pairwise.imp_of_mem (fun {a b} ha hb hne h => hne ?_) ndg)
      have := (mg a).mp ha
      have := (mg b).mp hb
      omega
    have l0 := len_split (2 ^ n) S
    rw [← e0, ← eg] at l0
    have l1 : S1.length = Sg.length := by rw [e1, List.length_map]
    have i0 := edges_le n S0 nd0 (fun a h => ((m0 a).mp h).2) (by omega)
    have i1 := edges_le n S1 nd1 (fun a h => by
      have := lt _ ((m1 a).mp h)
      rw [Nat.pow_succ] at this
      omega) (by omega)
    have low : ∀ a ∈ S0, ((List.range n).filter fun p => decide (a / 2 ^ (n - 1 - p) % 2 = 0 ∧ a + 2 ^ (n - 1 - p) ∈ S)).length = cnt n S0 a := fun a ha => by
      unfold cnt
      congr 1
      refine List.filter_congr fun p hp => ?_
      have hp' := List.mem_range.mp hp
      refine decide_eq_decide.mpr ⟨fun h => ⟨h.1, (m0 _).mpr ⟨h.2, up_lt (by omega) ((m0 a).mp ha).2 h.1⟩⟩, fun h => ⟨h.1, ((m0 _).mp h.2).1⟩⟩
    have high : ∀ a ∈ Sg, ((List.range n).filter fun p => decide (a / 2 ^ (n - 1 - p) % 2 = 0 ∧ a + 2 ^ (n - 1 - p) ∈ S)).length = cnt n S1 (a - 2 ^ n) := fun a ha => by
      unfold cnt
      congr 1
      refine List.filter_congr fun p hp => ?_
      have hp' := List.mem_range.mp hp
      have ha' := (mg a).mp ha
      refine decide_eq_decide.mpr ?_
      show _ ↔ (a - 2 ^ n) / 2 ^ (n - 1 - p) % 2 = 0 ∧ (a - 2 ^ n) + 2 ^ (n - 1 - p) ∈ S1
      rw [bit_low (show n - 1 - p < n by omega) ha'.2, m1, show a - 2 ^ n + 2 ^ (n - 1 - p) + 2 ^ n = a + 2 ^ (n - 1 - p) by omega]
    have none : ∀ a ∈ Sg, ¬ (a / 2 ^ n % 2 = 0 ∧ a + 2 ^ n ∈ S) := fun a ha h => by
      have := lt _ h.2
      have := ((mg a).mp ha).2
      rw [Nat.pow_succ] at *
      omega
    have tot : edges (n + 1) S = (S0.filter fun a => decide (a ∈ S1)).length + edges n S0 + edges n S1 := by
      unfold edges
      rw [sum_split _ (2 ^ n) S, ← e0, ← eg]
      have p0 : (S0.map (cnt (n + 1) S)).sum = (S0.map fun a => (if decide (a ∈ S1) = true then 1 else 0) + cnt n S0 a).sum := by
        congr 1
        refine List.map_congr_left fun a ha => ?_
        rw [cnt_succ, low a ha]
        have h0 : a / 2 ^ n % 2 = 0 := by rw [Nat.div_eq_of_lt ((m0 a).mp ha).2]
        congr 1
        by_cases h : a + 2 ^ n ∈ S
        · rw [if_pos ⟨h0, h⟩, if_pos (decide_eq_true ((m1 a).mpr h))]
        · rw [if_neg fun z => h z.2, if_neg fun z => h ((m1 a).mp (of_decide_eq_true z))]
      have pg : (Sg.map (cnt (n + 1) S)).sum = (S1.map (cnt n S1)).sum := by
        rw [e1, List.map_map]
        congr 1
        refine List.map_congr_left fun a ha => ?_
        rw [cnt_succ, high a ha, if_neg (none a ha), Nat.zero_add, ← e1]
        rfl
      rw [p0, pg, sum_add, ind_sum]
    have c0 : (S0.filter fun a => decide (a ∈ S1)).length ≤ S0.length := List.length_filter_le _ _
    have c1 : (S0.filter fun a => decide (a ∈ S1)).length ≤ S1.length := L2.nat_nodup_len _ _ (nd0.filter _) fun x hx => by simpa using (List.mem_filter.mp hx).2
    have f := F_split S0.length (by omega) S1.length (by omega) (by omega)
    rw [tot, l0, ← l1]
    omega
end Ct

set_option Elab.async false
set_option linter.all false
set_option maxRecDepth 100000
/-! a list's item ahead of xs[k] += 1 -/
namespace L2
open PySem PySem.Spec PyProof.Rows
def rGetL (K : PySem.W.Frag) : V → V → Hp → VK → Prop := fun o i H Q => ∃ (p : Addr) (xs : List V) (k : Nat) (v : V), o = .ref p ∧ i = .int (k : Int) ∧ SqL K H p xs ∧ xs[k]? = some v ∧ Q v H
theorem get_ix {X : Cx} : PGet X (rGetL X.K) := by
  rintro pins s σ H o i ov iv Q I ro ri ⟨p, xs, k, v, rfl, rfl, hq, hv, q⟩
  cases ro
  obtain ⟨t, rfl⟩ := ri
  obtain ⟨its, r, pl, hz⟩ := I.list hq
  obtain ⟨w, ew, rv⟩ := r.get hv
  have l := (List.getElem?_eq_some_iff.mp hv).1
  have hn := line63
  exact wpAny_getItem_list pl.isList (Int.natCast_nonneg k) (by omega) (by simpa using ew) ⟨v, H, I, rv, q⟩
end L2

set_option Elab.async false
set_option linter.all false
set_option maxRecDepth 100000
set_option maxHeartbeats 4000000
namespace K35
open PySem L2 Sx Ct
local macro_rules | `(tactic| walk_at "cond") => `(tactic| first
  | assumption
  | decide
  | exact c_mul_r (by first | decide | omega) (by first | decide | omega)
  | exact c_mul_l (by first | decide | omega) (by first | decide | omega)
  | exact c_div (by first | decide | omega) (by first | decide | omega)
  | exact c_pow (by first | decide | omega) (by first | decide | omega) (by first | decide | omega)
  | omega)
local macro_rules | `(tactic| walk_at "ne") => `(tactic| first
  | assumption
  | (refine Ne.symm ?_; assumption)
  | (refine' Flow.ne ?nh ?nn; (case nn => assumption); (case nh => walk_at "fl"))
  | (refine Ne.symm ?_; refine' Flow.ne ?nh ?nn; (case nn => assumption); (case nh => walk_at "fl"))
  | (refine' ne_of_none ?nh ?nn; (case nn => assumption); (case nh => walk_at "at"))
  | (refine Ne.symm ?_; refine' ne_of_none ?nh ?nn; (case nn => assumption); (case nh => walk_at "at")))
local macro_rules | `(tactic| walk_at "at") => `(tactic| first
  | assumption
  | (refine Same.up (by assumption) ?_; walk_at "at")
  | (refine Keep.up (by assumption) (by walk_at "ne") ?_; walk_at "at"))
local macro_rules | `(tactic| walk_at "fl") => `(tactic| first
  | assumption
  | (refine Flow.same (by assumption) ?_; walk_at "fl")
  | (refine Flow.keep (by assumption) (by walk_at "ne") ?_; walk_at "fl"))
local macro_rules | `(tactic| walk_at "fr") => `(tactic| first
  | assumption
  | (refine same_free (by assumption) ?_; walk_at "fr")
  | (refine Keep.free (by assumption) (by walk_at "ne") ?_; walk_at "fr"))
local macro_rules | `(tactic| walk_at "kp") => `(tactic| first
  | assumption
  | exact Keep.refl _ _
  | (refine Keep.trans ?_ (by assumption); walk_at "kp")
  | (refine Keep.trans ?_ (Keep.same (by assumption)); walk_at "kp"))
local macro_rules | `(tactic| walk_at "sm") => `(tactic| first
  | assumption
  | exact L2.Same.refl _
  | (refine L2.Same.trans ?_ (by assumption); walk_at "sm"))
local macro_rules | `(tactic| walk_at "sz") => `(tactic| first | exact Nat.le_of_ble_eq_true rfl | omega)
local macro_rules | `(tactic| walk_at "new") => `(tactic| (intro p np; generalize hE : upd _ p _ = H2; have s2 := new_same np hE; have h2 := new_at hE; clear hE))
local macro_rules | `(tactic| walk_at "newx") => `(tactic| (intro e d na nd hda; generalize hE : upd (upd _ d _) e _ = H2; have s2 := newx_same na nd hE; have h2 := newx_at hE; have h3 := newx_d hda hE; clear hE))
local macro_rules | `(tactic| walk_at "s1") => `(tactic| first
  | with_reducible refine s_seq ?_
  | with_reducible refine s_asg ?_
  | with_reducible refine s_name ?_
  | with_reducible refine s_ret ?_
  | with_reducible refine s_c ?_
  | ((with_reducible refine' s_var ?hv ?_); (case hv => rfl))
  | with_reducible refine s_op ?_
  | with_reducible refine s_un ?_
  | with_reducible refine s_ifS ?_
  | with_reducible refine s_cb ?_
  | with_reducible refine s_cons ?_
  | with_reducible refine s_nil ?_
  | with_reducible refine s_call ?_
  | with_reducible refine s_test ?_
  | with_reducible refine s_tB ?_
  | with_reducible refine s_bl ?_
  | with_reducible refine s_and ?_
  | with_reducible refine s_or ?_
  | with_reducible refine s_not ?_
  | with_reducible refine s_andV ?_
  | with_reducible refine s_orV ?_
  | with_reducible refine s_notV ?_
  | with_reducible refine s_blV ?_
  | with_reducible refine s_if ?_
  | with_reducible refine s_tup ?_
  | with_reducible refine s_lst ?_
  | with_reducible refine s_drop ?_
  | with_reducible refine s_next ?_
  | with_reducible refine s_sub ?_
  | with_reducible refine s_bm ?_
  | with_reducible refine s_callK ?_
  | with_reducible refine s_brk ?_
  | with_reducible refine s_cont ?_
  | with_reducible refine r_I0 ?_
  | with_reducible refine r_U ?_
  | with_reducible refine r_eqI ?_
  | with_reducible refine r_neI ?_
  | with_reducible refine r_isB ?_
  | with_reducible refine r_notB ?_
  | with_reducible refine i_t ?_
  | with_reducible refine i_f ?_
  | with_reducible refine i_nt ?_
  | with_reducible refine i_nf ?_
  | ((with_reducible refine' r_I ?hc ?_); (case hc => walk_at "cond"))
  | (with_reducible refine .inl ⟨_, rfl, ?_⟩)
  | (with_reducible refine ⟨_, rfl, ?_⟩)
  | ((with_reducible refine' r_ixL ?hx ?ha ?_); (case hx => walk_at "at"); (case ha => rfl))
  | ((with_reducible refine' r_ixT ?hx ?ha ?_); (case hx => walk_at "at"); (case ha => rfl))
  | ((with_reducible refine' r_setL ?hx ?ha ?_); (case hx => walk_at "at"); (case ha => rfl); intro H2 k2 h2; (try dsimp only [List.set, Int.toNat] at h2))
  | ((with_reducible refine' r_app ?hx ?hl ?_); (case hx => walk_at "at"); (case hl => first | exact Nat.lt_of_ble_eq_true rfl | omega); intro H2 k2 h2)
  | ((with_reducible refine' ty_list ?hx ?_); (case hx => walk_at "at"))
  | (refine And.intro (by (with_reducible show _ ≤ sizeLine); walk_at "sz") ?_; walk_at "new")
  | with_reducible refine s_exv ?_
  | walk_at "newx")
local macro_rules | `(tactic| walk_at "sx") => `(tactic| repeat (walk_at "s1"))
local macro_rules | `(tactic| walk_at "s2") => `(tactic| first
  | ((with_reducible refine' r_ixG ?hx ?hn ?_); (case hx => walk_at "at"); (case hn => omega))
  | ((with_reducible refine' r_ixGT ?hx ?hn ?_); (case hx => walk_at "at"); (case hn => omega))
  | (with_reducible refine ig_cons (fun hix => ?_) (fun hix => ?_))
  | ((with_reducible refine ig_nil ?_); omega)
  | ((with_reducible refine' i_T ?hc ?_); (case hc => omega))
  | ((with_reducible refine' i_F ?hc ?_); (case hc => omega))
  | (with_reducible refine i_2 (fun hc => ?_) (fun hc => ?_))
  | (with_reducible refine i_n2 (fun hc => ?_) (fun hc => ?_)))
local macro_rules | `(tactic| walk_at "go") => `(tactic| repeat' (first | walk_at "s1" | walk_at "s2"))

local macro_rules | `(tactic| walk_at "s1") => `(tactic| first
  | with_reducible refine s_chain ?_
  | with_reducible refine s_fldS ?_
  | with_reducible refine s_fld ?_
  | with_reducible refine s_dIn ?_
  | with_reducible refine s_dNotIn ?_
  | with_reducible refine s_sl ?_
  | with_reducible refine s_noPart ?_
  | with_reducible refine s_part ?_
  | with_reducible refine s_meth ?_
  | with_reducible refine s_make ?_)

/-! ties as lists of three numbers -/
theorem get_bits : ∀ (n m p : Nat), p < n → (bitsOf n m)[p]? = some ((m / 2 ^ (n - 1 - p) % 2 : Nat) : Int)
  | 0, _, _, h => absurd h (Nat.not_lt_zero _)
  | n + 1, m, p, h => by
    have hb := (bitsOf_bits n (m / 2)).1
    rcases Nat.lt_or_eq_of_le (Nat.le_of_lt_succ h) with l | rfl
    · have e : n + 1 - 1 - p = (n - 1 - p) + 1 := by omega
      rw [e, bitsOf, List.getElem?_append_left (by rw [hb]; exact l), get_bits n (m / 2) p l, Nat.div_div_eq_div_mul, ← Nat.pow_succ']
    · have e : p + 1 - 1 - p = 0 := by omega
      rw [e, Nat.pow_zero, Nat.div_one, bitsOf, List.getElem?_append_right (by rw [hb]; exact Nat.le_refl _), hb, Nat.sub_self]
      rfl
theorem set_one : ∀ n m p, p < n → m / 2 ^ (n - 1 - p) % 2 = 0 → (bitsOf n m).set p 1 = bitsOf n (m + 2 ^ (n - 1 - p))
  | 0, _, _, h, _ => absurd h (Nat.not_lt_zero _)
  | n + 1, m, p, h, b => by
    have hb := (bitsOf_bits n (m / 2)).1
    rcases Nat.lt_or_eq_of_le (Nat.le_of_lt_succ h) with l | rfl
    · have e : n + 1 - 1 - p = (n - 1 - p) + 1 := by omega
      rw [e, Nat.pow_succ'] at b
      rw [← Nat.div_div_eq_div_mul] at b
      rw [e, bitsOf, List.set_append_left _ _ (by rw [hb]; exact l), set_one n (m / 2) p l b, Nat.pow_succ', bitsOf]
      have e3 : (m + 2 * 2 ^ (n - 1 - p)) / 2 = m / 2 + 2 ^ (n - 1 - p) := by omega
      have e4 : (m + 2 * 2 ^ (n - 1 - p)) % 2 = m % 2 := by omega
      rw [e3, e4]
    · have e : p + 1 - 1 - p = 0 := by omega
      rw [e, Nat.pow_zero, Nat.div_one] at b
      rw [e, Nat.pow_zero, bitsOf, List.set_append_right _ _ (by rw [hb]; exact Nat.le_refl _), hb, Nat.sub_self, bitsOf]
      have e3 : (m + 1) / 2 = m / 2 := by omega
      have e4 : (m + 1) % 2 = 1 := by omega
      rw [e3, e4]
      rfl
def tri (ns : List Nat) (n i m p : Nat) : List Int := [(i : Int), ((ns.idxOf (m + 2 ^ (n - 1 - p)) : Nat) : Int), (p : Int)]
/-- the ties of the i-th rule m at the first j points -/
def rowT (n : Nat) (ns : List Nat) (i m j : Nat) : List (List Int) := ((List.range j).filter fun p => decide (Up n ns m p)).map (tri ns n i m)
def rawT (n : Nat) (ns : List Nat) (i : Nat) : List (List Int) := (List.range i).flatMap fun k => rowT n ns k (ns.getD k 0) n
theorem rowT_succ (n : Nat) (ns : List Nat) (i m j : Nat) : rowT n ns i m (j + 1) = rowT n ns i m j ++ (if Up n ns m j then [tri ns n i m j] else []) := by
  unfold rowT
  rw [List.range_succ, List.filter_append, List.map_append]
  congr 1
  by_cases h : Up n ns m j
  · simp [h]
  · simp [h]
theorem rawT_succ (n : Nat) (ns : List Nat) (i : Nat) : rawT n ns (i + 1) = rawT n ns i ++ rowT n ns i (ns.getD i 0) n := by
  unfold rawT
  rw [List.range_succ, List.flatMap_append]
  simp
theorem rawT_len (n : Nat) (ns : List Nat) : (rawT n ns ns.length).length = edges n ns := by
  have z : ∀ i, i ≤ ns.length → (rawT n ns i).length = ((ns.take i).map (cnt n ns)).sum := fun i => by
    induction i with
    | zero => intro _; rfl
    | succ i ih =>
      intro h
      have hx : ns[i]? = some ns[i] := List.getElem?_eq_getElem (by omega)
      have g : ns.getD i 0 = ns[i] := by simp [show i < ns.length by omega]
      rw [rawT_succ, List.length_append, ih (by omega), List.take_succ, hx, List.map_append, List.sum_append, g]
      unfold rowT cnt
      simp
  rw [z _ (Nat.le_refl _), List.take_length]
  rfl
/-- what a tie is -/
def Tie (n : Nat) (ns : List Nat) (t : List Int) : Prop := ∃ (i j p a : Nat), t = [(i : Int), (j : Int), (p : Int)] ∧ p < n ∧ ns[i]? = some a ∧ a / 2 ^ (n - 1 - p) % 2 = 0 ∧ ns[j]? = some (a + 2 ^ (n - 1 - p))
theorem idx_get {ns : List Nat} (nd : ns.Nodup) {j x : Nat} (h : ns[j]? = some x) : ns.idxOf x = j := by
  obtain ⟨l, e⟩ := List.getElem?_eq_some_iff.mp h
  rw [← e]
  exact nd.idxOf_getElem j l
theorem get_idx {ns : List Nat} {x : Nat} (h : x ∈ ns) : ns[ns.idxOf x]? = some x := by
  have l := List.idxOf_lt_length_of_mem h
  rw [List.getElem?_eq_getElem l]
  simp
theorem raw_mem {n : Nat} {ns : List Nat} (nd : ns.Nodup) (t : List Int) : t ∈ rawT n ns ns.length ↔ Tie n ns t := by
  unfold rawT
  rw [List.mem_flatMap]
  constructor
  · rintro ⟨i, hi, ht⟩
    obtain ⟨p, hp, rfl⟩ := List.mem_map.mp ht
    obtain ⟨hp1, hp2⟩ := List.mem_filter.mp hp
    have li := List.mem_range.mp hi
    have hx : ns[i]? = some ns[i] := List.getElem?_eq_getElem li
    have g : ns.getD i 0 = ns[i] := by simp [li]
    have up := of_decide_eq_true hp2
    rw [g] at up ⊢
    exact ⟨i, _, p, ns[i], rfl, List.mem_range.mp hp1, hx, up.1, get_idx up.2⟩
  · rintro ⟨i, j, p, a, rfl, hp, hi, b, hj⟩
    have li := (List.getElem?_eq_some_iff.mp hi).1
    have g : ns.getD i 0 = a := by simp [hi]
    refine ⟨i, List.mem_range.mpr li, List.mem_map.mpr ⟨p, List.mem_filter.mpr ⟨List.mem_range.mpr hp, decide_eq_true ?_⟩, ?_⟩⟩
    · rw [g]
      exact ⟨b, List.mem_of_getElem? hj⟩
    · unfold tri
      rw [g, idx_get nd hj]
theorem raw_nodup (n : Nat) (ns : List Nat) (k : Nat) : (rawT n ns k).Nodup := by
  unfold rawT List.Nodup
  rw [List.pairwise_flatMap]
  refine ⟨fun i _ => ?_, ?_⟩
  · unfold rowT
    refine List.pairwise_map.mpr ?_
    refine List.Pairwise.imp ?_ (List.Pairwise.filter _ List.nodup_range)
    intro a b hne e
    simp [tri] at e
    exact hne (by omega)
  · refine List.Pairwise.imp ?_ List.nodup_range
    intro a b hne x hx y hy e
    obtain ⟨p, _, rfl⟩ := List.mem_map.mp hx
    obtain ⟨q, _, rfl⟩ := List.mem_map.mp hy
    simp [tri] at e
    exact hne (by omega)
/-- the ties of a list of rules, ascending -/
structure Ties (n : Nat) (ns : List Nat) (L : List (List Int)) : Prop where
  nd : L.Nodup
  mem : ∀ t, t ∈ L ↔ Tie n ns t
  asc : L.Pairwise fun a b => TS.code 64 a ≤ TS.code 64 b
theorem code3 (i j p : Int) : TS.code 64 [i, j, p] = i * 4096 + (j * 64 + p) := by
  show i * 64 ^ 2 + (j * 64 ^ 1 + (p * 64 ^ 0 + 0)) = _
  omega
theorem tie_bd {n : Nat} {ns : List Nat} (few : ns.length < 64) (sn : n ≤ 8) {t : List Int} (h : Tie n ns t) : ∃ i j p : Nat, t = [(i : Int), (j : Int), (p : Int)] ∧ i < 64 ∧ j < 64 ∧ p < 8 := by
  obtain ⟨i, j, p, a, rfl, hp, hi, _, hj⟩ := h
  have := (List.getElem?_eq_some_iff.mp hi).1
  have := (List.getElem?_eq_some_iff.mp hj).1
  exact ⟨i, j, p, rfl, by omega, by omega, by omega⟩
theorem Ties.eq {n : Nat} {ns : List Nat} {L M : List (List Int)} (few : ns.length < 64) (sn : n ≤ 8) (a : Ties n ns L) (b : Ties n ns M) : L = M := by
  have pm := (List.perm_ext_iff_of_nodup a.nd b.nd).mpr fun t => (a.mem t).trans (b.mem t).symm
  refine List.Perm.eq_of_pairwise (le := fun a b => TS.code 64 a ≤ TS.code 64 b) (fun s t hs ht h1 h2 => ?_) a.asc b.asc pm
  obtain ⟨i, j, p, rfl, b1, b2, b3⟩ := tie_bd few sn ((a.mem s).mp hs)
  obtain ⟨i', j', p', rfl, c1, c2, c3⟩ := tie_bd few sn ((b.mem t).mp ht)
  rw [code3, code3] at h1 h2
  have : i = i' := by omega
  have : j = j' := by omega
  have : p = p' := by omega
  simp [*]
theorem raw_few {n : Nat} {ns : List Nat} (N : Nums n ns) (few : ns.length ≤ 24) : (rawT n ns ns.length).length < 64 := by
  rw [rawT_len]
  have z := edges_le n ns (N.asc.imp fun h => Nat.ne_of_lt h) N.lt (by omega)
  have f : ∀ m, m ≤ 24 → F m < 64 := by
    have q : ((List.range 25).all fun m => decide (F m < 64)) = true := by decide +kernel
    intro m hm
    exact of_decide_eq_true (List.all_eq_true.mp q m (List.mem_range.mpr (by omega)))
  exact Nat.lt_of_le_of_lt z (f _ few)
theorem perm_map {α β : Type} {f : α → β} {ys zs : List β} (h : ys.Perm zs) : ∀ qs : List α, zs = qs.map f → ∃ qs' : List α, qs'.Perm qs ∧ ys = qs'.map f := by
  induction h with
  | nil =>
    intro qs e
    cases qs with
    | nil => exact ⟨[], .nil, rfl⟩
    | cons _ _ => cases e
  | cons x h ih =>
    intro qs e
    cases qs with
    | nil => cases e
    | cons q r =>
      rw [List.map_cons] at e
      obtain ⟨e1, e2⟩ := List.cons.inj e
      obtain ⟨r', p, e3⟩ := ih r e2
      exact ⟨q :: r', p.cons q, by rw [List.map_cons, e1, e3]⟩
  | swap x y l =>
    intro qs e
    match qs, e with
    | a :: b :: r, e =>
      rw [List.map_cons, List.map_cons] at e
      obtain ⟨e1, e2⟩ := List.cons.inj e
      obtain ⟨e3, e4⟩ := List.cons.inj e2
      exact ⟨b :: a :: r, .swap a b r, by rw [List.map_cons, List.map_cons, e1, e3, e4]⟩
  | trans h1 h2 ih1 ih2 =>
    intro qs e
    obtain ⟨q1, p1, e1⟩ := ih2 qs e
    obtain ⟨q2, p2, e2⟩ := ih1 q1 e1
    exact ⟨q2, p2.trans p1, e2⟩
/-- the rows' numbers, kept by row -/
def dk (n : Nat) (ns : List Nat) (s : Nat) : List (List Key × V) := (ns.zipIdx s).map fun q => ((bitsOf n q.1).map Sum.inl, V.int (q.2 : Nat))
theorem inl_inj' : ∀ {r r' : List Int}, (r.map Sum.inl : List L2.Key) = r'.map Sum.inl → r = r' := inl_inj
theorem dk_get {n : Nat} : ∀ (ns : List Nat) (s x : Nat), (∀ m ∈ ns, m < 2 ^ n) → x < 2 ^ n → valV (dk n ns s) ((bitsOf n x).map Sum.inl) = if x ∈ ns then some (V.int ((s + ns.idxOf x : Nat) : Int)) else none
  | [], s, x, _, _ => by simp [dk, valV_nil]
  | m :: ns, s, x, lt, hx => by
    have ih := dk_get ns (s + 1) x (fun y hy => lt y (List.mem_cons_of_mem _ hy)) hx
    unfold dk at ih ⊢
    rw [List.zipIdx_cons, List.map_cons]
    by_cases h : m = x
    · subst h
      rw [valV_pos rfl, if_pos List.mem_cons_self]
      simp
    · rw [valV_neg (fun e => h (bits_inj (lt m List.mem_cons_self) hx (inl_inj e))), ih]
      by_cases hm : x ∈ ns
      · rw [if_pos hm, if_pos (List.mem_cons_of_mem _ hm), List.idxOf_cons]
        have : (m == x) = false := by simpa using h
        rw [this]
        simp
        omega
      · rw [if_neg hm, if_neg]
        simp
        exact ⟨fun e => h e.symm, hm⟩
theorem dk_snoc (n : Nat) (ns : List Nat) {i m : Nat} (h : ns[i]? = some m) : dk n (ns.take (i + 1)) 0 = dk n (ns.take i) 0 ++ [((bitsOf n m).map Sum.inl, V.int (i : Nat))] := by
  unfold dk
  have l := (List.getElem?_eq_some_iff.mp h).1
  rw [List.take_succ, h, Option.toList_some, List.zipIdx_append, List.map_append]
  simp [Nat.min_eq_left (Nat.le_of_lt l)]
end K35

set_option Elab.async false
set_option linter.all false
set_option maxRecDepth 100000
set_option maxHeartbeats 4000000
namespace K35
open PySem L2 Sx Ct
local macro_rules | `(tactic| walk_at "cond") => `(tactic| first
  | assumption
  | decide
  | exact c_mul_r (by first | decide | omega) (by first | decide | omega)
  | exact c_mul_l (by first | decide | omega) (by first | decide | omega)
  | exact c_div (by first | decide | omega) (by first | decide | omega)
  | exact c_pow (by first | decide | omega) (by first | decide | omega) (by first | decide | omega)
  | omega)
local macro_rules | `(tactic| walk_at "ne") => `(tactic| first
  | assumption
  | (refine Ne.symm ?_; assumption)
  | (refine' Flow.ne ?nh ?nn; (case nn => assumption); (case nh => walk_at "fl"))
  | (refine Ne.symm ?_; refine' Flow.ne ?nh ?nn; (case nn => assumption); (case nh => walk_at "fl"))
  | (refine' ne_of_none ?nh ?nn; (case nn => assumption); (case nh => walk_at "at"))
  | (refine Ne.symm ?_; refine' ne_of_none ?nh ?nn; (case nn => assumption); (case nh => walk_at "at")))
local macro_rules | `(tactic| walk_at "at") => `(tactic| first
  | assumption
  | (refine Same.up (by assumption) ?_; walk_at "at")
  | (refine Keep.up (by assumption) (by walk_at "ne") ?_; walk_at "at"))
local macro_rules | `(tactic| walk_at "fl") => `(tactic| first
  | assumption
  | (refine Flow.same (by assumption) ?_; walk_at "fl")
  | (refine Flow.keep (by assumption) (by walk_at "ne") ?_; walk_at "fl"))
local macro_rules | `(tactic| walk_at "fr") => `(tactic| first
  | assumption
  | (refine same_free (by assumption) ?_; walk_at "fr")
  | (refine Keep.free (by assumption) (by walk_at "ne") ?_; walk_at "fr"))
local macro_rules | `(tactic| walk_at "kp") => `(tactic| first
  | assumption
  | exact Keep.refl _ _
  | (refine Keep.trans ?_ (by assumption); walk_at "kp")
  | (refine Keep.trans ?_ (Keep.same (by assumption)); walk_at "kp"))
local macro_rules | `(tactic| walk_at "sm") => `(tactic| first
  | assumption
  | exact L2.Same.refl _
  | (refine L2.Same.trans ?_ (by assumption); walk_at "sm"))
local macro_rules | `(tactic| walk_at "sz") => `(tactic| first | exact Nat.le_of_ble_eq_true rfl | omega)
local macro_rules | `(tactic| walk_at "new") => `(tactic| (intro p np; generalize hE : upd _ p _ = H2; have s2 := new_same np hE; have h2 := new_at hE; clear hE))
local macro_rules | `(tactic| walk_at "newx") => `(tactic| (intro e d na nd hda; generalize hE : upd (upd _ d _) e _ = H2; have s2 := newx_same na nd hE; have h2 := newx_at hE; have h3 := newx_d hda hE; clear hE))
local macro_rules | `(tactic| walk_at "s1") => `(tactic| first
  | with_reducible refine s_seq ?_
  | with_reducible refine s_asg ?_
  | with_reducible refine s_name ?_
  | with_reducible refine s_ret ?_
  | with_reducible refine s_c ?_
  | ((with_reducible refine' s_var ?hv ?_); (case hv => rfl))
  | with_reducible refine s_op ?_
  | with_reducible refine s_un ?_
  | with_reducible refine s_ifS ?_
  | with_reducible refine s_cb ?_
  | with_reducible refine s_cons ?_
  | with_reducible refine s_nil ?_
  | with_reducible refine s_call ?_
  | with_reducible refine s_test ?_
  | with_reducible refine s_tB ?_
  | with_reducible refine s_bl ?_
  | with_reducible refine s_and ?_
  | with_reducible refine s_or ?_
  | with_reducible refine s_not ?_
  | with_reducible refine s_andV ?_
  | with_reducible refine s_orV ?_
  | with_reducible refine s_notV ?_
  | with_reducible refine s_blV ?_
  | with_reducible refine s_if ?_
  | with_reducible refine s_tup ?_
  | with_reducible refine s_lst ?_
  | with_reducible refine s_drop ?_
  | with_reducible refine s_next ?_
  | with_reducible refine s_sub ?_
  | with_reducible refine s_bm ?_
  | with_reducible refine s_callK ?_
  | with_reducible refine s_brk ?_
  | with_reducible refine s_cont ?_
  | with_reducible refine r_I0 ?_
  | with_reducible refine r_U ?_
  | with_reducible refine r_eqI ?_
  | with_reducible refine r_neI ?_
  | with_reducible refine r_isB ?_
  | with_reducible refine r_notB ?_
  | with_reducible refine i_t ?_
  | with_reducible refine i_f ?_
  | with_reducible refine i_nt ?_
  | with_reducible refine i_nf ?_
  | ((with_reducible refine' r_I ?hc ?_); (case hc => walk_at "cond"))
  | (with_reducible refine .inl ⟨_, rfl, ?_⟩)
  | (with_reducible refine ⟨_, rfl, ?_⟩)
  | ((with_reducible refine' r_ixL ?hx ?ha ?_); (case hx => walk_at "at"); (case ha => rfl))
  | ((with_reducible refine' r_ixT ?hx ?ha ?_); (case hx => walk_at "at"); (case ha => rfl))
  | ((with_reducible refine' r_setL ?hx ?ha ?_); (case hx => walk_at "at"); (case ha => rfl); intro H2 k2 h2; (try dsimp only [List.set, Int.toNat] at h2))
  | ((with_reducible refine' r_app ?hx ?hl ?_); (case hx => walk_at "at"); (case hl => first | exact Nat.lt_of_ble_eq_true rfl | omega); intro H2 k2 h2)
  | ((with_reducible refine' ty_list ?hx ?_); (case hx => walk_at "at"))
  | (refine And.intro (by (with_reducible show _ ≤ sizeLine); walk_at "sz") ?_; walk_at "new")
  | with_reducible refine s_exv ?_
  | walk_at "newx")
local macro_rules | `(tactic| walk_at "sx") => `(tactic| repeat (walk_at "s1"))
local macro_rules | `(tactic| walk_at "s2") => `(tactic| first
  | ((with_reducible refine' r_ixG ?hx ?hn ?_); (case hx => walk_at "at"); (case hn => omega))
  | ((with_reducible refine' r_ixGT ?hx ?hn ?_); (case hx => walk_at "at"); (case hn => omega))
  | (with_reducible refine ig_cons (fun hix => ?_) (fun hix => ?_))
  | ((with_reducible refine ig_nil ?_); omega)
  | ((with_reducible refine' i_T ?hc ?_); (case hc => omega))
  | ((with_reducible refine' i_F ?hc ?_); (case hc => omega))
  | (with_reducible refine i_2 (fun hc => ?_) (fun hc => ?_))
  | (with_reducible refine i_n2 (fun hc => ?_) (fun hc => ?_)))
local macro_rules | `(tactic| walk_at "go") => `(tactic| repeat' (first | walk_at "s1" | walk_at "s2"))

local macro_rules | `(tactic| walk_at "s1") => `(tactic| first
  | with_reducible refine s_chain ?_
  | with_reducible refine s_fldS ?_
  | with_reducible refine s_fld ?_
  | with_reducible refine s_dIn ?_
  | with_reducible refine s_dNotIn ?_
  | with_reducible refine s_sl ?_
  | with_reducible refine s_noPart ?_
  | with_reducible refine s_part ?_
  | with_reducible refine s_meth ?_
  | with_reducible refine s_make ?_)

section
variable {P : Program} {w : World} {K : PySem.W.Frag} {mg : Str → Option Value} {base : Heap} {A : Ad}
/-- a list of rules of these numbers -/
def Rn (C : Addr) (H : Hp) (x : Addr) (n : Nat) (ns : List Nat) : Prop := ∃ ks, RuAt C H x n ks ∧ ks.map (·.2) = ns.map (bitsOf n)
theorem Rn.same {C : Addr} {H H' : Hp} {x : Addr} {n : Nat} {ns : List Nat} (e : Same H H') (h : Rn C H x n ns) : Rn C H' x n ns := by
  obtain ⟨ks, h1, h2⟩ := h
  exact ⟨ks, h1.same e, h2⟩
/-- tuples of numbers, each at its place -/
def TupsAt (H : Hp) (qs : List (Addr × List Int)) : Prop := ∀ q ∈ qs, H q.1 = some (.tup (q.2.map V.int))
theorem TupsAt.same {H H' : Hp} {qs : List (Addr × List Int)} (e : Same H H') (h : TupsAt H qs) : TupsAt H' qs := fun q hq => e _ _ (h q hq)
def spTies (C : Addr) : Sp := fun vs H Q _ => ∃ (x : Addr) (n : Nat) (ns : List Nat), vs = [.ref x] ∧ Rn C H x n ns ∧ Nums n ns ∧ ns.length ≤ 24 ∧ n ≤ 8 ∧
  ∀ (t : Addr) (qs : List (Addr × List Int)) H', Same H H' → H' t = some (.tup (qs.map rf)) → TupsAt H' qs → Ties n ns (qs.map (·.2)) → Q (.ref t) H'
theorem s_get {σ : L2.St} {H : Hp} {Q : VK} {td ty : TE} (h : td σ H fun x H1 => ty σ H1 fun y H2 => ∃ a v, x = .ref a ∧ DGet H2 a y (some v) ∧ Q v H2) : tDGet td ty σ H Q := h
theorem raw_le (n : Nat) (ns : List Nat) (N : Nums n ns) (few : ns.length ≤ 24) (sn : n ≤ 8) (i m j : Nat) (hi : i < ns.length) (hj : j < n) : (rawT n ns i).length + (rowT n ns i m j).length < 1000 := by
  have r : (rowT n ns i m j).length ≤ j := by
    unfold rowT
    rw [List.length_map]
    exact Nat.le_trans (List.length_filter_le _ _) (by rw [List.length_range]; exact Nat.le_refl _)
  have z : ∀ k, k ≤ ns.length → (rawT n ns k).length ≤ (rawT n ns ns.length).length := fun k hk => by
    have e : ∀ d, (rawT n ns k).length ≤ (rawT n ns (k + d)).length := fun d => by
      induction d with
      | zero => exact Nat.le_refl _
      | succ d ih =>
        rw [← Nat.add_assoc, rawT_succ, List.length_append]
        omega
    have q := e (ns.length - k)
    rw [show k + (ns.length - k) = ns.length by omega] at q
    exact q
  have a := z i (by omega)
  have b := raw_few N few
  omega
theorem ok_ties (T : Txt P K mg A) : FnOk P w K mg base CX0 2 A.a_ties_of A.d_ties_of ["rules"] (spTies A.c_Rules) := by
  refine T.F_ties_of.ok sc_ties_of (fun vs H Q E h => ?_) (fun cdv A' outer s H vs Q E hr h => ?_)
  · obtain ⟨x, n, ns, rfl, _⟩ := h
    rfl
  · obtain ⟨x, n, ns, rfl, ⟨ks, ru, ek⟩, N, few, sn, k⟩ := h
    have G_with_value := ok_with (w := w) (base := base) T
    refine ⟨_, (pss_cons (ps_setDc (i := 2) (u0 := .dT []) (own := [("number", 7), ("row", 1)]) (g := (gTup K 2 (gCons (gName 7) (gCons (gName 1) gNil)))) (.inr rfl) hr.units0 rfl sc_ties_of.nd rfl rfl (swd_true rfl rfl rfl (by decide +kernel)) (pi_enumT (by rfl) T.n_enumerate (pa_cons (pe_fld (pv 0) rfl) pa_nil)) (blkOk_by (own := [("number", 7), ("row", 1)]) (N := ["rules", "row", "numbers", "ties", "i", "point", "higher", "number"]) (sc := defScope s_ties_of) (by decide +kernel)) ⟨fun _ _ _ _ _ => (pg_tup rfl (pgs_cons (pg_name (i := 7) sc_ties_of.nd rfl (Or.inl rfl)) (pgs_cons (pg_name (i := 1) sc_ties_of.nd rfl (Or.inl rfl)) pgs_nil))), fun _ _ _ _ _ => pts_nil, fun _ _ _ _ _ => (pv 1), fun _ _ _ _ _ => (pv 7)⟩)
  (pss_cons (ps_set (i := 3) sc_ties_of.nd rfl (Or.inl rfl) (pe_lst pa_nil))
  (pss_cons (ps_for PassesOwn.never rfl (pi_enumT (by rfl) T.n_enumerate (pa_cons (pe_fld (pv 0) rfl) pa_nil)) (pg_tup rfl (pgs_cons (pg_name (i := 4) sc_ties_of.nd rfl (Or.inl rfl)) (pgs_cons (pg_name (i := 1) sc_ties_of.nd rfl (Or.inl rfl)) pgs_nil)))
  (pss_one (ps_for PassesOwn.never rfl (pi_range1 rfl T.n_range (pa_cons (pe_fld (pv 0) rfl) pa_nil)) (pg_name (i := 5) sc_ties_of.nd rfl (Or.inl rfl))
  (pss_cons (ps_set (i := 6) sc_ties_of.nd rfl (Or.inl rfl) (pe_call G_with_value (hr.mono (by decide)) rfl T.g_with_value T.F_with_value.kp (B_with_value T) .nil pass0 (pa_cons (pv 1) (pa_cons (pv 5) (pa_cons pe_int pa_nil)))))
  (pss_one (ps_if (PW.pt (pw_and (pt_cmpR op_eq (pe_ix ix_seq (pv 1) (pv 5) (fun _ _ => rfl)) pe_int (nomark _)) (pw_and1 (pt_cmp (pc_din (u1 hr) (pv 6) (pv 2)))))) (pss_one (ps_expr (pe_bm PySem.F.plainAttrs_list PySem.F.slot_list_append PySem.F.type_list_append mt_append (pv 3) (pa_cons (pe_tup (pa_cons (pv 4) (pa_cons (pe_dget (u1 hr) (pv 2) (pv 6) (fun _ _ => rfl)) (pa_cons (pv 5) pa_nil)))) pa_nil)))) pss_nil))))))
  (pss_one (ps_ret (pe_callTy call_tuple_of (by rfl) T.n_tuple (by decide +kernel) (pa_cons (pe_callB (cr_sortT (d := 3) (B := 64) (by decide)) (by rfl) T.n_sorted (by decide +kernel) (pa_cons (pv 3) pa_nil)) pa_nil))))))), ?_⟩
    obtain ⟨dx, t, kn, h1, h2, h3, rows, asc, ne, sz⟩ := id ru
    have nd : ns.Nodup := N.asc.imp fun h => Nat.ne_of_lt h
    have lk : ks.length = ns.length := by simpa using congrArg List.length ek
    have row_i : ∀ {i : Nat} {y : V}, (ks.map rf)[i]? = some y → ∃ (q : Addr × List Int) (m : Nat), y = .ref q.1 ∧ ns[i]? = some m ∧ q.2 = bitsOf n m ∧ H q.1 = some (.tup (q.2.map V.int)) ∧ m < 2 ^ n := by
      intro i y hy
      rw [List.getElem?_map] at hy
      obtain ⟨q, hq, rfl⟩ := Option.map_eq_some_iff.mp hy
      have e := congrArg (fun l => l[i]?) ek
      simp only [List.getElem?_map, hq, Option.map_some] at e
      obtain ⟨m, hm, em⟩ := Option.map_eq_some_iff.mp e.symm
      exact ⟨q, m, rfl, hm, em.symm, (rows q (List.mem_of_getElem? hq)).1, N.lt m (List.mem_of_getElem? hm)⟩
    have h2' : True → H t = some (.tup (ks.map rf)) := fun _ => h2
    clear h2
    walk_at "sx"
    refine ⟨_, rfl, _, _, _, _, _, rfl, h1, T.cl_Rules, T.no_Rules_rows, rfl, t, _, rfl, SqT.of (h2' trivial), fun D hD => dcp_it (walk_enumT (K := K) (a := t) (xs := ks.map rf)) (fun i H' => Same H H' ∧ H' D = some (.dT (dk n (ns.take i) 0))) ⟨Same.new hD, by rw [upd_same]; rfl⟩ (fun i H' _ h => SqT.of (h.1 _ _ (h2' trivial))) ?_ ?_⟩
    · rintro i y H' H'' hi ⟨s', hD'⟩ ⟨T1, u, v, rfl, nT, rfl, eu, ev⟩
      cases eu
      obtain ⟨q, m, rfl, hm, eq, hq, ltm⟩ := row_i ev
      generalize hE : upd H' T1 _ = H2
      have s2 := new_same nT hE
      have g2 := new_at hE
      clear hE
      have hD2 := s2 _ _ hD'
      refine ⟨T1, _, rfl, SqT.of g2, rfl, _, _, rfl, s_name ⟨_, _, rfl, s_name ⟨rfl, rfl, s_yes (i_t ?_)⟩⟩⟩
      refine s_var rfl (s_var rfl ?_)
      have li : i < ns.length := by
        have := (List.getElem?_eq_some_iff.mp hm).1
        exact this
      have nx := dk_snoc n ns hm
      have abs : valV (dk n (ns.take i) 0) ((bitsOf n m).map Sum.inl) = none := by
        rw [dk_get (ns.take i) 0 m (fun y hy => N.lt y (List.mem_of_mem_take hy)) ltm, if_neg]
        intro hmem
        obtain ⟨j, hj, ej⟩ := List.getElem_of_mem hmem
        rw [List.length_take] at hj
        rw [List.getElem_take] at ej
        obtain ⟨_, em⟩ := List.getElem?_eq_some_iff.mp hm
        have z := List.pairwise_iff_getElem.mp N.asc j i (by omega) li (by omega)
        rw [ej, em] at z
        exact Nat.lt_irrefl _ z
      refine ⟨_, DPut.t (k := (bitsOf n m).map Sum.inl) hD2 ?_ ?_, Sx.Same.put (s'.trans s2) hD, ?_⟩
      · rw [← eq, List.map_map]
        exact (s'.trans s2) _ _ hq
      · unfold dk
        rw [List.length_map, List.length_zipIdx, List.length_take]
        exact Nat.lt_of_le_of_lt (Nat.min_le_right _ _) (by show ns.length < 16777216; omega)
      · rw [upd_same, nx, putK_new]
        exact abs
    · rintro H' ⟨s', hD'⟩
      rw [List.length_map, lk, List.take_length] at hD'
      walk_at "sx"
      rename_i pt npt H2 s2 hpt
      have hD2 := s2 _ _ hD'
      have s02 := s'.trans s2
      have pt0 : H pt = none := Same.free s' npt
      have ptD : D ≠ pt := ne_of_none hD' npt
      have hpt' : True → H2 pt = some (.lst []) := fun _ => hpt
      clear hpt
      refine ⟨_, rfl, _, _, _, _, _, rfl, s02 _ _ h1, T.cl_Rules, T.no_Rules_rows, rfl, t, _, rfl, SqT.of (s02 _ _ (h2' trivial)), for_it (walk_enumT (K := K) (a := t) (xs := ks.map rf)) (fun i σ H' => Same H H' ∧ H' D = some (.dT (dk n ns 0)) ∧ ∃ (qs : List (Addr × List Int)) (v1 v4 v5 v6 v7 : Option V), (True → H' pt = some (.lst (qs.map rf))) ∧ TupsAt H' qs ∧ qs.map (·.2) = rawT n ns i ∧ σ = [some (.ref x), v1, some (.ref D), some (.ref pt), v4, v5, v6, v7]) ?_ (fun i σ H' _ h => SqT.of (h.1 _ _ (h2' trivial))) ?_ ?_⟩
      · exact ⟨s02, hD2, [], _, _, _, _, _, fun _ => hpt' trivial, fun q hq => (by cases hq), rfl, rfl⟩
      · rintro i y σ H3 H4 hi ⟨s3, hD3, qs, v1, v4, v5, v6, v7, hq3, tq, eq3, rfl⟩ ⟨T1, u, v, rfl, nT, rfl, eu, ev⟩
        cases eu
        obtain ⟨q, m, rfl, hm, eq, hq, ltm⟩ := row_i ev
        generalize hE : upd H3 T1 _ = H5
        have s5 := new_same nT hE
        have g5 := new_at hE
        clear hE
        refine ⟨T1, _, rfl, SqT.of g5, rfl, _, _, rfl, s_name ⟨_, _, rfl, s_name ⟨rfl, ?_⟩⟩⟩
        have s05 := s3.trans s5
        have gd : ns.getD i 0 = m := by simp [hm]
        refine ⟨_, rfl, _, _, _, _, _, rfl, s05 _ _ h1, T.cl_Rules, T.no_Rules_size, rfl, _, rfl, by omega, by omega, for_range (lo := 0) (n := n) (fun j σ H' => Same H H' ∧ H' D = some (.dT (dk n ns 0)) ∧ ∃ (qs : List (Addr × List Int)) (v5 v6 v7 : Option V), (True → H' pt = some (.lst (qs.map rf))) ∧ TupsAt H' qs ∧ qs.map (·.2) = rawT n ns i ++ rowT n ns i m j ∧ σ = [some (.ref x), some (.ref q.1), some (.ref D), some (.ref pt), some (.int (i : Nat)), v5, v6, v7]) ?_ ?_ ?_⟩
        · exact ⟨s05, s5 _ _ hD3, qs, _, _, _, fun _ => s5 _ _ (hq3 trivial), tq.same s5, by rw [eq3]; simp [rowT], rfl⟩
        · rintro j σ H6 hj ⟨s6, hD6, qs6, v5, v6, v7, hq6, tq6, eq6, rfl⟩
          have bq := bitsOf_bits n m
          have li : i < ns.length := (List.getElem?_eq_some_iff.mp hm).1
          have hq' : True → H q.1 = some (.tup ((bitsOf n m).map V.int)) := fun _ => by rw [← eq]; exact hq
          have gj := get_bits n m j hj
          have gk := up_lt (k := n - 1 - j) (n := n) (by omega) ltm
          walk_at "sx"
          refine ⟨q.1, (bitsOf n m).map V.int, j, .int 1, by rw [Int.zero_add]; rfl, s6 _ _ (hq' trivial), by rw [List.length_map, bq.1]; exact hj, by rw [List.length_map, bq.1]; omega, fun p7 H7 s7 h7 => ?_⟩
          have h7' : True → H7 p7 = some (.tup (((bitsOf n m).map V.int).set j (.int 1))) := fun _ => h7
          clear h7
          have s07 := s6.trans s7
          have hD7 := s7 _ _ hD6
          walk_at "sx"
          refine r_ixT (s07 _ _ (hq' trivial)) (v := .int ((m / 2 ^ (n - 1 - j) % 2 : Nat) : Int)) (by rw [Int.zero_add]; exact atI_nat (by rw [List.getElem?_map, gj]; rfl)) ?_
          walk_at "sx"
          refine i_2 (fun c => ?_) (fun c => ?_)
          · have b0 : m / 2 ^ (n - 1 - j) % 2 = 0 := by omega
            have e7 : ((bitsOf n m).map V.int).set j (.int 1) = (bitsOf n (m + 2 ^ (n - 1 - j))).map V.int := by
              rw [← set_one n m j hj b0, List.map_set]
            rw [e7] at h7'
            have lk7 := dk_get ns 0 (m + 2 ^ (n - 1 - j)) N.lt (gk b0)
            rw [Nat.zero_add] at lk7
            walk_at "sx"
            refine ⟨D, _, rfl, DGet.t (k := (bitsOf n (m + 2 ^ (n - 1 - j))).map Sum.inl) hD7 (by rw [List.map_map]; exact h7' trivial), ?_⟩
            rw [lk7]
            by_cases hin : m + 2 ^ (n - 1 - j) ∈ ns
            · rw [if_pos hin] at lk7 ⊢
              have up : Up n ns m j := ⟨b0, hin⟩
              refine ⟨_, rfl, i_t ?_⟩
              refine s_drop (s_bm (s_var rfl ?_))
              refine ty_list (s7 _ _ (hq6 trivial)) ?_
              have dg : DGet H7 D (.ref p7) (some (.int ((ns.idxOf (m + 2 ^ (n - 1 - j)) : Nat) : Int))) := by
                rw [← lk7]
                exact DGet.t (k := (bitsOf n (m + 2 ^ (n - 1 - j))).map Sum.inl) hD7 (by rw [List.map_map]; exact h7' trivial)
              refine s_cons (s_tup (s_cons (s_var rfl (s_cons (s_get (s_var rfl (s_var rfl ⟨D, _, rfl, dg, s_cons (s_var rfl (s_nil ?_))⟩)))))))
              refine ⟨Nat.le_of_ble_eq_true rfl, fun p8 np8 => ?_⟩
              generalize hE : upd H7 p8 _ = H8
              have s8 := new_same np8 hE
              have g8 := new_at hE
              clear hE
              have hpt8 := s8 _ _ (s7 _ _ (hq6 trivial))
              have l6 : qs6.length < 1000 := by
                have z := congrArg List.length eq6
                rw [List.length_map, List.length_append] at z
                have z2 := raw_le n ns N few sn i m j li hj
                omega
              refine s_nil (r_app hpt8 (by rw [List.length_map, sizeLine_eq]; omega) fun H9 k9 h9 => ?_)
              refine ⟨Keep.toSame (s07.trans s8) pt0 k9, k9 _ _ ptD (s8 _ _ hD7), qs6 ++ [(p8, tri ns n i m j)], _, _, _, fun _ => by rw [h9, List.map_append]; rfl, fun z hz => ?_, ?_, rfl⟩
              · have tu : H8 z.1 = some (.tup (z.2.map V.int)) := by
                  rcases List.mem_append.mp hz with mz | mz
                  · exact s8 _ _ (s7 _ _ (tq6 z mz))
                  · rw [List.mem_singleton.mp mz, g8]
                    simp [tri]
                exact k9 _ _ (ne_of tu hpt8 fun e => nomatch e) tu
              · rw [List.map_append, eq6, rowT_succ, if_pos up, ← List.append_assoc]
                rfl
            · rw [if_neg hin] at lk7 ⊢
              have up : ¬ Up n ns m j := fun z => hin z.2
              refine ⟨_, rfl, i_f ?_⟩
              exact ⟨s07, hD7, qs6, _, _, _, fun _ => s7 _ _ (hq6 trivial), tq6.same s7, by rw [eq6, rowT_succ, if_neg up, List.append_nil], rfl⟩
          · have up : ¬ Up n ns m j := fun z => c (by have := z.1; omega)
            walk_at "sx"
            exact ⟨s07, hD7, qs6, _, _, _, fun _ => s7 _ _ (hq6 trivial), tq6.same s7, by rw [eq6, rowT_succ, if_neg up, List.append_nil], rfl⟩
        · rintro σ H6 ⟨s6, hD6, qs6, v5, v6, v7, hq6, tq6, eq6, rfl⟩
          exact ⟨s6, hD6, qs6, _, _, _, _, _, hq6, tq6, by rw [eq6, rawT_succ, gd], rfl⟩
      · rintro σ H3 ⟨s3, hD3, qs, v1, v4, v5, v6, v7, hq3, tq, eq3, rfl⟩
        rw [List.length_map, lk] at eq3
        walk_at "sx"
        have lens : qs.length < 64 := by
          have z := raw_few N few
          rw [← eq3, List.length_map] at z
          exact z
        have tie3 : ∀ q ∈ qs, Tie n ns q.2 := fun q hq => (raw_mem nd q.2).mp (by rw [← eq3]; exact List.mem_map.mpr ⟨q, hq, rfl⟩)
        refine ⟨pt, _, rfl, SqL.of (hq3 trivial), by rw [List.length_map]; exact lens, fun y hy => ?_, fun ys p pm pw np => ?_⟩
        · obtain ⟨q, hq, rfl⟩ := List.mem_map.mp hy
          obtain ⟨i, j, p, e, b1, b2, b3⟩ := tie_bd (by omega) sn (tie3 q hq)
          refine ⟨q.2, ⟨q.1, rfl, SqT.of (tq q hq)⟩, by rw [e]; rfl, fun z hz => ?_⟩
          rw [e] at hz
          simp at hz
          rcases hz with rfl | rfl | rfl <;> omega
        obtain ⟨qs', pm', rfl⟩ := perm_map pm qs rfl
        generalize hE : upd H3 p _ = H4
        have s4 := new_same np hE
        have g4 := new_at hE
        clear hE
        have sub : ∀ q ∈ qs', q ∈ qs := fun q hq => pm'.mem_iff.mp hq
        refine s_nil ⟨p, _, rfl, .inl ⟨SqL.of g4, fun t' nt => ?_⟩⟩
        generalize hE : upd H4 t' _ = H5
        have s5 := new_same nt hE
        have g5 := new_at hE
        refine k t' qs' H5 (s3.trans (s4.trans s5)) g5 (fun q hq => (s4.trans s5) _ _ (tq q (sub q hq))) ⟨?_, fun z => ?_, ?_⟩
        · refine (pm'.map (·.2)).nodup_iff.mpr ?_
          rw [eq3]
          exact raw_nodup n ns _
        · rw [(pm'.map (·.2)).mem_iff, eq3]
          exact raw_mem nd z
        · refine List.pairwise_map.mpr ?_
          have z := List.pairwise_map.mp pw
          refine List.Pairwise.imp_of_mem (fun {a b} ha hb h => h a.2 b.2 ⟨a.1, rfl, SqT.of ?_⟩ ⟨b.1, rfl, SqT.of ?_⟩) z
          · exact tq a (sub a ha)
          · exact tq b (sub b hb)
end
end K35

set_option Elab.async false
set_option linter.all false
set_option maxRecDepth 100000
set_option maxHeartbeats 4000000
namespace K35
open PySem L2 Sx
local macro_rules | `(tactic| walk_at "cond") => `(tactic| first
  | assumption
  | decide
  | exact c_mul_r (by first | decide | omega) (by first | decide | omega)
  | exact c_mul_l (by first | decide | omega) (by first | decide | omega)
  | exact c_div (by first | decide | omega) (by first | decide | omega)
  | exact c_pow (by first | decide | omega) (by first | decide | omega) (by first | decide | omega)
  | omega)
local macro_rules | `(tactic| walk_at "ne") => `(tactic| first
  | assumption
  | (refine Ne.symm ?_; assumption)
  | (refine' Flow.ne ?nh ?nn; (case nn => assumption); (case nh => walk_at "fl"))
  | (refine Ne.symm ?_; refine' Flow.ne ?nh ?nn; (case nn => assumption); (case nh => walk_at "fl"))
  | (refine' ne_of_none ?nh ?nn; (case nn => assumption); (case nh => walk_at "at"))
  | (refine Ne.symm ?_; refine' ne_of_none ?nh ?nn; (case nn => assumption); (case nh => walk_at "at")))
local macro_rules | `(tactic| walk_at "at") => `(tactic| first
  | assumption
  | (refine Same.up (by assumption) ?_; walk_at "at")
  | (refine Keep.up (by assumption) (by walk_at "ne") ?_; walk_at "at"))
local macro_rules | `(tactic| walk_at "fl") => `(tactic| first
  | assumption
  | (refine Flow.same (by assumption) ?_; walk_at "fl")
  | (refine Flow.keep (by assumption) (by walk_at "ne") ?_; walk_at "fl"))
local macro_rules | `(tactic| walk_at "fr") => `(tactic| first
  | assumption
  | (refine same_free (by assumption) ?_; walk_at "fr")
  | (refine Keep.free (by assumption) (by walk_at "ne") ?_; walk_at "fr"))
local macro_rules | `(tactic| walk_at "kp") => `(tactic| first
  | assumption
  | exact Keep.refl _ _
  | (refine Keep.trans ?_ (by assumption); walk_at "kp")
  | (refine Keep.trans ?_ (Keep.same (by assumption)); walk_at "kp"))
local macro_rules | `(tactic| walk_at "sm") => `(tactic| first
  | assumption
  | exact L2.Same.refl _
  | (refine L2.Same.trans ?_ (by assumption); walk_at "sm"))
local macro_rules | `(tactic| walk_at "sz") => `(tactic| first | exact Nat.le_of_ble_eq_true rfl | omega)
local macro_rules | `(tactic| walk_at "new") => `(tactic| (intro p np; generalize hE : upd _ p _ = H2; have s2 := new_same np hE; have h2 := new_at hE; clear hE))
local macro_rules | `(tactic| walk_at "newx") => `(tactic| (intro e d na nd hda; generalize hE : upd (upd _ d _) e _ = H2; have s2 := newx_same na nd hE; have h2 := newx_at hE; have h3 := newx_d hda hE; clear hE))
local macro_rules | `(tactic| walk_at "s1") => `(tactic| first
  | with_reducible refine s_seq ?_
  | with_reducible refine s_asg ?_
  | with_reducible refine s_name ?_
  | with_reducible refine s_ret ?_
  | with_reducible refine s_c ?_
  | ((with_reducible refine' s_var ?hv ?_); (case hv => rfl))
  | with_reducible refine s_op ?_
  | with_reducible refine s_un ?_
  | with_reducible refine s_ifS ?_
  | with_reducible refine s_cb ?_
  | with_reducible refine s_cons ?_
  | with_reducible refine s_nil ?_
  | with_reducible refine s_call ?_
  | with_reducible refine s_test ?_
  | with_reducible refine s_tB ?_
  | with_reducible refine s_bl ?_
  | with_reducible refine s_and ?_
  | with_reducible refine s_or ?_
  | with_reducible refine s_not ?_
  | with_reducible refine s_andV ?_
  | with_reducible refine s_orV ?_
  | with_reducible refine s_notV ?_
  | with_reducible refine s_blV ?_
  | with_reducible refine s_if ?_
  | with_reducible refine s_tup ?_
  | with_reducible refine s_lst ?_
  | with_reducible refine s_drop ?_
  | with_reducible refine s_next ?_
  | with_reducible refine s_sub ?_
  | with_reducible refine s_bm ?_
  | with_reducible refine s_callK ?_
  | with_reducible refine s_brk ?_
  | with_reducible refine s_cont ?_
  | with_reducible refine r_I0 ?_
  | with_reducible refine r_U ?_
  | with_reducible refine r_eqI ?_
  | with_reducible refine r_neI ?_
  | with_reducible refine r_isB ?_
  | with_reducible refine r_notB ?_
  | with_reducible refine i_t ?_
  | with_reducible refine i_f ?_
  | with_reducible refine i_nt ?_
  | with_reducible refine i_nf ?_
  | ((with_reducible refine' r_I ?hc ?_); (case hc => walk_at "cond"))
  | (with_reducible refine .inl ⟨_, rfl, ?_⟩)
  | (with_reducible refine ⟨_, rfl, ?_⟩)
  | ((with_reducible refine' r_ixL ?hx ?ha ?_); (case hx => walk_at "at"); (case ha => rfl))
  | ((with_reducible refine' r_ixT ?hx ?ha ?_); (case hx => walk_at "at"); (case ha => rfl))
  | ((with_reducible refine' r_setL ?hx ?ha ?_); (case hx => walk_at "at"); (case ha => rfl); intro H2 k2 h2; (try dsimp only [List.set, Int.toNat] at h2))
  | ((with_reducible refine' r_app ?hx ?hl ?_); (case hx => walk_at "at"); (case hl => first | exact Nat.lt_of_ble_eq_true rfl | omega); intro H2 k2 h2)
  | ((with_reducible refine' ty_list ?hx ?_); (case hx => walk_at "at"))
  | (refine And.intro (by (with_reducible show _ ≤ sizeLine); walk_at "sz") ?_; walk_at "new")
  | with_reducible refine s_exv ?_
  | walk_at "newx")
local macro_rules | `(tactic| walk_at "sx") => `(tactic| repeat (walk_at "s1"))
local macro_rules | `(tactic| walk_at "s2") => `(tactic| first
  | ((with_reducible refine' r_ixG ?hx ?hn ?_); (case hx => walk_at "at"); (case hn => omega))
  | ((with_reducible refine' r_ixGT ?hx ?hn ?_); (case hx => walk_at "at"); (case hn => omega))
  | (with_reducible refine ig_cons (fun hix => ?_) (fun hix => ?_))
  | ((with_reducible refine ig_nil ?_); omega)
  | ((with_reducible refine' i_T ?hc ?_); (case hc => omega))
  | ((with_reducible refine' i_F ?hc ?_); (case hc => omega))
  | (with_reducible refine i_2 (fun hc => ?_) (fun hc => ?_))
  | (with_reducible refine i_n2 (fun hc => ?_) (fun hc => ?_)))
local macro_rules | `(tactic| walk_at "go") => `(tactic| repeat' (first | walk_at "s1" | walk_at "s2"))

local macro_rules | `(tactic| walk_at "sms") => `(tactic| first
  | assumption
  | exact Sm.neg (by walk_at "sms")
  | exact Sm.mul (by walk_at "sms") (by walk_at "sms")
  | exact Sm.add (by walk_at "sms") (by walk_at "sms")
  | exact Sm.sub (by walk_at "sms") (by walk_at "sms")
  | exact sm_1
  | exact sm_3)
local macro_rules | `(tactic| walk_at "s1") => `(tactic| first
  | ((with_reducible refine' r_I (C := CMulW) ?hc ?_); (case hc => exact c_mulW (by walk_at "sms") (by walk_at "sms") (by first | decide | omega))))
section
variable {P : Program} {w : World} {K : PySem.W.Frag} {mg : Str → Option Value} {base : Heap} {A : Ad}
abbrev Shr (H : Hp) (p : Addr) (x y : Int) : Prop := H p = some (.tup [.int x, .int y])
/-- a share stands at p: small numbers, the second above nought -/
structure Sh (n : Nat) (H : Hp) (p : Addr) (x y : Int) : Prop where
  at_ : Shr H p x y
  sx : Sm n x
  sy : Sm n y
  po : 0 < y
theorem Sh.up {n : Nat} {H H' : Hp} {p : Addr} {x y : Int} (s : Sh n H p x y) (k : ∀ o, H p = some o → H' p = some o) : Sh n H' p x y := ⟨k _ s.at_, s.sx, s.sy, s.po⟩
theorem Sh.same {n : Nat} {H H' : Hp} {p : Addr} {x y : Int} (e : Same H H') (s : Sh n H p x y) : Sh n H' p x y := s.up fun o h => e _ _ h
/-! the program's own -/
def spShare : Sp := fun vs H Q _ => ∃ (a b : Int), vs = [.int a, .int b] ∧ b ≠ 0 ∧ Sm 360 b ∧ ∀ p H', H p = none → Same H H' → Shr H' p (rdU a b) (rdL a b) → Q (.ref p) H'
theorem ok_share (T : Txt P K mg A) : FnOk P w K mg base CX0 1 A.a_share_of A.d_share_of ["a", "b"] spShare := by
  refine T.F_share_of.ok sc_share_of (fun vs H Q E h => ?_) (fun cdv A' outer s H vs Q E hr h => ?_)
  · obtain ⟨a, b, rfl, _⟩ := h
    rfl
  · obtain ⟨a, b, rfl, h0, hb, k⟩ := h
    refine ⟨_, (pss_cons (ps_if (pt_cmpR op_eq (pv 1) pe_int (nomark _)) (pss_one ps_never) pss_nil)
  (pss_cons (ps_set (i := 2) sc_share_of.nd rfl (Or.inl rfl) (pe_callBfun cr_gcd (by rfl) T.m_gcd (pa_cons (pv 0) (pa_cons (pv 1) pa_nil))))
  (pss_cons (ps_if (pt_cmpR op_lt (pv 1) pe_int (nomark _)) (pss_one (ps_set (i := 2) sc_share_of.nd rfl (Or.inl rfl) (pe_un un_neg (pv 2)))) pss_nil)
  (pss_one (ps_ret (pe_tup (pa_cons (pe_op op_fdivV (pv 0) (pv 2)) (pa_cons (pe_op op_fdivV (pv 1) (pv 2)) pa_nil)))))))), ?_⟩
    walk_at "sx"
    refine i_F h0 ?_
    walk_at "sx"
    refine r_gcd ?_
    walk_at "sx"
    have e1 : ∀ z : Int, z = sgd a b → L2.CDivV a z ∧ L2.CDivV b z := fun z e => by
      rw [e]
      exact ⟨c_divV h0 hb (by decide), c_divV h0 hb (by decide)⟩
    refine i_2 (fun hl => ?_) (fun hl => ?_)
    · have e : -((Nat.gcd a.natAbs b.natAbs : Nat) : Int) = sgd a b := by unfold sgd; rw [if_pos hl]
      walk_at "sx"
      rw [e]
      refine r_I (e1 _ rfl).1 ?_
      walk_at "sx"
      refine r_I (e1 _ rfl).2 ?_
      walk_at "sx"
      exact k _ _ (by walk_at "fr") (by walk_at "sm") (by assumption)
    · have e : ((Nat.gcd a.natAbs b.natAbs : Nat) : Int) = sgd a b := by unfold sgd; rw [if_neg hl]
      walk_at "sx"
      rw [e]
      refine r_I (e1 _ rfl).1 ?_
      walk_at "sx"
      refine r_I (e1 _ rfl).2 ?_
      walk_at "sx"
      exact k _ _ (by walk_at "fr") (by walk_at "sm") (by assumption)
/-- two shares in, a share of f and g of them out -/
def spTwo (f g : Int → Int → Int → Int → Int) : Sp := fun vs H Q _ => ∃ (p q : Addr) (n m : Nat) (a b c d : Int), vs = [.ref p, .ref q] ∧ Sh n H p a b ∧ Sh m H q c d ∧ n + m ≤ 355 ∧ ∀ r H', H r = none → Same H H' → Shr H' r (rdU (f a b c d) (g a b c d)) (rdL (f a b c d) (g a b c d)) → Q (.ref r) H'
abbrev fP (a b c d : Int) : Int := a * d + c * b
abbrev fM (a b c d : Int) : Int := a * d - c * b
abbrev fT (a _ c _ : Int) : Int := a * c
abbrev gD (_ b _ d : Int) : Int := b * d
abbrev fO (a _ _ d : Int) : Int := a * d
abbrev gO (_ b c _ : Int) : Int := b * c
theorem gd_pos {b d : Int} (h : 0 < b) (g : 0 < d) : b * d ≠ 0 := Int.ne_of_gt (Int.mul_pos h g)
local macro_rules | `(tactic| walk_at "s2") => `(tactic| first
  | ((with_reducible show spShare _ _ _ _); refine' ⟨_, _, rfl, ?hb, ?h0, ?_⟩; (case hb => exact gd_pos (by assumption) (by assumption)); (case h0 => exact Sm.mono (Sm.mul (by assumption) (by assumption)) (by omega)); intro p H' np s' h'))
theorem ok_plus (T : Txt P K mg A) : FnOk P w K mg base CX0 2 A.a_plus A.d_plus ["one", "other"] (spTwo fP gD) := by
  refine T.F_plus.ok sc_plus (fun vs H Q E h => ?_) (fun cdv A' outer s H vs Q E hr h => ?_)
  · obtain ⟨p, q, n, m, a, b, c, d, rfl, _⟩ := h
    rfl
  · obtain ⟨p, q, n, m, a, b, c, d, rfl, ⟨hp, sa, sb, pb⟩, ⟨hq, sc, sd, pd⟩, hnm, k⟩ := h
    have G_share_of := ok_share (w := w) (base := base) T
    refine ⟨_, (pss_one (ps_ret (pe_call G_share_of (hr.mono (by decide)) rfl T.g_share_of T.F_share_of.kp (B_share_of T) .nil pass0 (pa_cons (pe_op op_add (pe_op op_mulW (pe_ix (r := rIx K) ix_seq (pv 0) pe_int (fun _ _ => rfl)) (pe_ix ix_seq (pv 1) pe_int (fun _ _ => rfl))) (pe_op op_mulW (pe_ix (r := rIx K) ix_seq (pv 1) pe_int (fun _ _ => rfl)) (pe_ix ix_seq (pv 0) pe_int (fun _ _ => rfl)))) (pa_cons (pe_op op_mulW (pe_ix ix_seq (pv 0) pe_int (fun _ _ => rfl)) (pe_ix ix_seq (pv 1) pe_int (fun _ _ => rfl))) pa_nil))))), ?_⟩
    walk_at "go"
    exact k _ _ (by assumption) (by assumption) (by assumption)
theorem ok_less (T : Txt P K mg A) : FnOk P w K mg base CX0 2 A.a_less A.d_less ["one", "other"] (spTwo fM gD) := by
  refine T.F_less.ok sc_less (fun vs H Q E h => ?_) (fun cdv A' outer s H vs Q E hr h => ?_)
  · obtain ⟨p, q, n, m, a, b, c, d, rfl, _⟩ := h
    rfl
  · obtain ⟨p, q, n, m, a, b, c, d, rfl, ⟨hp, sa, sb, pb⟩, ⟨hq, sc, sd, pd⟩, hnm, k⟩ := h
    have G_share_of := ok_share (w := w) (base := base) T
    refine ⟨_, (pss_one (ps_ret (pe_call G_share_of (hr.mono (by decide)) rfl T.g_share_of T.F_share_of.kp (B_share_of T) .nil pass0 (pa_cons (pe_op op_sub (pe_op op_mulW (pe_ix (r := rIx K) ix_seq (pv 0) pe_int (fun _ _ => rfl)) (pe_ix ix_seq (pv 1) pe_int (fun _ _ => rfl))) (pe_op op_mulW (pe_ix (r := rIx K) ix_seq (pv 1) pe_int (fun _ _ => rfl)) (pe_ix ix_seq (pv 0) pe_int (fun _ _ => rfl)))) (pa_cons (pe_op op_mulW (pe_ix ix_seq (pv 0) pe_int (fun _ _ => rfl)) (pe_ix ix_seq (pv 1) pe_int (fun _ _ => rfl))) pa_nil))))), ?_⟩
    walk_at "go"
    exact k _ _ (by assumption) (by assumption) (by assumption)
theorem ok_times (T : Txt P K mg A) : FnOk P w K mg base CX0 2 A.a_times A.d_times ["one", "other"] (spTwo fT gD) := by
  refine T.F_times.ok sc_times (fun vs H Q E h => ?_) (fun cdv A' outer s H vs Q E hr h => ?_)
  · obtain ⟨p, q, n, m, a, b, c, d, rfl, _⟩ := h
    rfl
  · obtain ⟨p, q, n, m, a, b, c, d, rfl, ⟨hp, sa, sb, pb⟩, ⟨hq, sc, sd, pd⟩, hnm, k⟩ := h
    have G_share_of := ok_share (w := w) (base := base) T
    refine ⟨_, (pss_one (ps_ret (pe_call G_share_of (hr.mono (by decide)) rfl T.g_share_of T.F_share_of.kp (B_share_of T) .nil pass0 (pa_cons (pe_op op_mulW (pe_ix (r := rIx K) ix_seq (pv 0) pe_int (fun _ _ => rfl)) (pe_ix (r := rIx K) ix_seq (pv 1) pe_int (fun _ _ => rfl))) (pa_cons (pe_op op_mulW (pe_ix ix_seq (pv 0) pe_int (fun _ _ => rfl)) (pe_ix ix_seq (pv 1) pe_int (fun _ _ => rfl))) pa_nil))))), ?_⟩
    walk_at "go"
    exact k _ _ (by assumption) (by assumption) (by assumption)
end
end K35

set_option Elab.async false
set_option linter.all false
set_option maxRecDepth 100000
set_option maxHeartbeats 4000000
namespace K35
open PySem L2 Sx
local macro_rules | `(tactic| walk_at "cond") => `(tactic| first
  | assumption
  | decide
  | exact c_mul_r (by first | decide | omega) (by first | decide | omega)
  | exact c_mul_l (by first | decide | omega) (by first | decide | omega)
  | exact c_div (by first | decide | omega) (by first | decide | omega)
  | exact c_pow (by first | decide | omega) (by first | decide | omega) (by first | decide | omega)
  | omega)
local macro_rules | `(tactic| walk_at "ne") => `(tactic| first
  | assumption
  | (refine Ne.symm ?_; assumption)
  | (refine' Flow.ne ?nh ?nn; (case nn => assumption); (case nh => walk_at "fl"))
  | (refine Ne.symm ?_; refine' Flow.ne ?nh ?nn; (case nn => assumption); (case nh => walk_at "fl"))
  | (refine' ne_of_none ?nh ?nn; (case nn => assumption); (case nh => walk_at "at"))
  | (refine Ne.symm ?_; refine' ne_of_none ?nh ?nn; (case nn => assumption); (case nh => walk_at "at")))
local macro_rules | `(tactic| walk_at "at") => `(tactic| first
  | assumption
  | (refine Same.up (by assumption) ?_; walk_at "at")
  | (refine Keep.up (by assumption) (by walk_at "ne") ?_; walk_at "at"))
local macro_rules | `(tactic| walk_at "fl") => `(tactic| first
  | assumption
  | (refine Flow.same (by assumption) ?_; walk_at "fl")
  | (refine Flow.keep (by assumption) (by walk_at "ne") ?_; walk_at "fl"))
local macro_rules | `(tactic| walk_at "fr") => `(tactic| first
  | assumption
  | (refine same_free (by assumption) ?_; walk_at "fr")
  | (refine Keep.free (by assumption) (by walk_at "ne") ?_; walk_at "fr"))
local macro_rules | `(tactic| walk_at "kp") => `(tactic| first
  | assumption
  | exact Keep.refl _ _
  | (refine Keep.trans ?_ (by assumption); walk_at "kp")
  | (refine Keep.trans ?_ (Keep.same (by assumption)); walk_at "kp"))
local macro_rules | `(tactic| walk_at "sm") => `(tactic| first
  | assumption
  | exact L2.Same.refl _
  | (refine L2.Same.trans ?_ (by assumption); walk_at "sm"))
local macro_rules | `(tactic| walk_at "sz") => `(tactic| first | exact Nat.le_of_ble_eq_true rfl | omega)
local macro_rules | `(tactic| walk_at "new") => `(tactic| (intro p np; generalize hE : upd _ p _ = H2; have s2 := new_same np hE; have h2 := new_at hE; clear hE))
local macro_rules | `(tactic| walk_at "newx") => `(tactic| (intro e d na nd hda; generalize hE : upd (upd _ d _) e _ = H2; have s2 := newx_same na nd hE; have h2 := newx_at hE; have h3 := newx_d hda hE; clear hE))
local macro_rules | `(tactic| walk_at "s1") => `(tactic| first
  | with_reducible refine s_seq ?_
  | with_reducible refine s_asg ?_
  | with_reducible refine s_name ?_
  | with_reducible refine s_ret ?_
  | with_reducible refine s_c ?_
  | ((with_reducible refine' s_var ?hv ?_); (case hv => rfl))
  | with_reducible refine s_op ?_
  | with_reducible refine s_un ?_
  | with_reducible refine s_ifS ?_
  | with_reducible refine s_cb ?_
  | with_reducible refine s_cons ?_
  | with_reducible refine s_nil ?_
  | with_reducible refine s_call ?_
  | with_reducible refine s_test ?_
  | with_reducible refine s_tB ?_
  | with_reducible refine s_bl ?_
  | with_reducible refine s_and ?_
  | with_reducible refine s_or ?_
  | with_reducible refine s_not ?_
  | with_reducible refine s_andV ?_
  | with_reducible refine s_orV ?_
  | with_reducible refine s_notV ?_
  | with_reducible refine s_blV ?_
  | with_reducible refine s_if ?_
  | with_reducible refine s_tup ?_
  | with_reducible refine s_lst ?_
  | with_reducible refine s_drop ?_
  | with_reducible refine s_next ?_
  | with_reducible refine s_sub ?_
  | with_reducible refine s_bm ?_
  | with_reducible refine s_callK ?_
  | with_reducible refine s_brk ?_
  | with_reducible refine s_cont ?_
  | with_reducible refine r_I0 ?_
  | with_reducible refine r_U ?_
  | with_reducible refine r_eqI ?_
  | with_reducible refine r_neI ?_
  | with_reducible refine r_isB ?_
  | with_reducible refine r_notB ?_
  | with_reducible refine i_t ?_
  | with_reducible refine i_f ?_
  | with_reducible refine i_nt ?_
  | with_reducible refine i_nf ?_
  | ((with_reducible refine' r_I ?hc ?_); (case hc => walk_at "cond"))
  | (with_reducible refine .inl ⟨_, rfl, ?_⟩)
  | (with_reducible refine ⟨_, rfl, ?_⟩)
  | ((with_reducible refine' r_ixL ?hx ?ha ?_); (case hx => walk_at "at"); (case ha => rfl))
  | ((with_reducible refine' r_ixT ?hx ?ha ?_); (case hx => walk_at "at"); (case ha => rfl))
  | ((with_reducible refine' r_setL ?hx ?ha ?_); (case hx => walk_at "at"); (case ha => rfl); intro H2 k2 h2; (try dsimp only [List.set, Int.toNat] at h2))
  | ((with_reducible refine' r_app ?hx ?hl ?_); (case hx => walk_at "at"); (case hl => first | exact Nat.lt_of_ble_eq_true rfl | omega); intro H2 k2 h2)
  | ((with_reducible refine' ty_list ?hx ?_); (case hx => walk_at "at"))
  | (refine And.intro (by (with_reducible show _ ≤ sizeLine); walk_at "sz") ?_; walk_at "new")
  | with_reducible refine s_exv ?_
  | walk_at "newx")
local macro_rules | `(tactic| walk_at "sx") => `(tactic| repeat (walk_at "s1"))
local macro_rules | `(tactic| walk_at "s2") => `(tactic| first
  | ((with_reducible refine' r_ixG ?hx ?hn ?_); (case hx => walk_at "at"); (case hn => omega))
  | ((with_reducible refine' r_ixGT ?hx ?hn ?_); (case hx => walk_at "at"); (case hn => omega))
  | (with_reducible refine ig_cons (fun hix => ?_) (fun hix => ?_))
  | ((with_reducible refine ig_nil ?_); omega)
  | ((with_reducible refine' i_T ?hc ?_); (case hc => omega))
  | ((with_reducible refine' i_F ?hc ?_); (case hc => omega))
  | (with_reducible refine i_2 (fun hc => ?_) (fun hc => ?_))
  | (with_reducible refine i_n2 (fun hc => ?_) (fun hc => ?_)))
local macro_rules | `(tactic| walk_at "go") => `(tactic| repeat' (first | walk_at "s1" | walk_at "s2"))

local macro_rules | `(tactic| walk_at "s1") => `(tactic| first
  | with_reducible refine s_chain ?_
  | with_reducible refine s_fldS ?_
  | with_reducible refine s_fld ?_
  | with_reducible refine s_dIn ?_
  | with_reducible refine s_dNotIn ?_
  | with_reducible refine s_sl ?_
  | with_reducible refine s_noPart ?_
  | with_reducible refine s_part ?_
  | with_reducible refine s_meth ?_
  | with_reducible refine s_make ?_)

section
variable {P : Program} {w : World} {K : PySem.W.Frag} {mg : Str → Option Value} {base : Heap} {A : Ad}
/-! two values that are alike -/
/-- alike, nested less than d deep -/
inductive Al (H : Hp) : Nat → V → V → Prop where
  | non {d : Nat} : Al H d .non .non
  | bl {d : Nat} (b : Bool) : Al H d (.bl b) (.bl b)
  | int {d : Nat} (i : Int) : Al H d (.int i) (.int i)
  | str {d : Nat} (s : Str) : Al H d (.str s) (.str s)
  | tup {d : Nat} {p q : Addr} {xs ys : List V} (hp : H p = some (.tup xs)) (hq : H q = some (.tup ys)) (l : xs.length = ys.length) (sz : ys.length < 1000) (a : ∀ (i : Nat) (x y : V), xs[i]? = some x → ys[i]? = some y → Al H d x y) : Al H (d + 1) (.ref p) (.ref q)
  | lst {d : Nat} {p q : Addr} {xs ys : List V} (hp : H p = some (.lst xs)) (hq : H q = some (.lst ys)) (l : xs.length = ys.length) (sz : ys.length < 1000) (a : ∀ (i : Nat) (x y : V), xs[i]? = some x → ys[i]? = some y → Al H d x y) : Al H (d + 1) (.ref p) (.ref q)
theorem Al.same {H H' : Hp} (e : Same H H') {d : Nat} {x y : V} (h : Al H d x y) : Al H' d x y := by
  induction h with
  | non => exact .non
  | bl b => exact .bl b
  | int i => exact .int i
  | str s => exact .str s
  | tup hp hq l sz _ ih => exact .tup (e _ _ hp) (e _ _ hq) l sz ih
  | lst hp hq l sz _ ih => exact .lst (e _ _ hp) (e _ _ hq) l sz ih
theorem al_ints {H : Hp} {d : Nat} {p q : Addr} {ns : List Int} (hp : H p = some (.tup (ns.map V.int))) (hq : H q = some (.tup (ns.map V.int))) (sz : ns.length < 1000) : Al H (d + 1) (.ref p) (.ref q) := by
  refine .tup hp hq rfl (by rw [List.length_map]; exact sz) fun i x y hx hy => ?_
  rw [hx] at hy
  cases hy
  obtain ⟨n, _, rfl⟩ := List.mem_map.mp (List.mem_of_getElem? hx)
  exact .int n
def spSame (d : Nat) : Sp := fun vs H Q _ => ∃ x y, vs = [x, y] ∧ Al H d x y ∧ ∀ H', Same H H' → Q (.bl true) H'
abbrev All : Addr → Prop := fun _ => True
theorem eq_str (a : Str) : scal (.str a) (.str a) = true := rfl
local macro_rules | `(tactic| walk_at "knd") => `(tactic| first
  | exact Kn.int _
  | exact Kn.str _
  | exact Kn.tup (by assumption) trivial
  | exact Kn.lst (by assumption) trivial)
local macro_rules | `(tactic| walk_at "no") => `(tactic| first
  | exact in_bK (B := All) (by walk_at "knd")
  | exact in_iK (B := All) (by walk_at "knd")
  | exact in_sK (B := All) (by walk_at "knd"))
local macro_rules | `(tactic| walk_at "is") => `(tactic| (walk_at "sx"; refine isi_in (b := false) (by walk_at "no") ?_; walk_at "sx"))
/-- the case of scalars -/
theorem same_sc {d : Nat} {x y : V} {H H2 : Hp} (al : Al H 0 x y) : Al H2 d x y := by
  cases al with
  | non => exact .non
  | bl b => exact .bl b
  | int i => exact .int i
  | str s => exact .str s
theorem ok_same (T : Txt P K mg A) : ∀ d, FnOk P w K mg base CX0 (d + 1) A.a__law_same A.d__law_same ["actual", "due"] (spSame d) := by
  intro d
  induction d with
  | zero =>
    refine T.F__law_same.ok sc__law_same (fun vs H Q E h => ?_) (fun cdv A' outer s H vs Q E hr h => ?_)
    · obtain ⟨x, y, rfl, _⟩ := h
      rfl
    · obtain ⟨x, y, rfl, al, k⟩ := h
      refine ⟨_, (pss_cons (ps_if (pt_cmpR op_isN (pv 1) pe_non (nomark _)) (pss_one (ps_ret (pe_cmpR op_isN (pv 0) pe_non (nomark _)))) pss_nil)
  (pss_cons (ps_if (pt_val (pe_callB (id := "isinstance") (r := rIsiV K) call_isiV (by rfl) T.n_isinstance (by decide +kernel) (pa_cons (pv 1) (pa_cons (pe_bltn (v := .ty "bool") (u := .type "bool") (by rfl) T.n_bool (by decide +kernel) rfl) pa_nil)))) (pss_one (ps_ret (pe_and (pe_callB (id := "isinstance") (r := rIsiV K) call_isiV (by rfl) T.n_isinstance (by decide +kernel) (pa_cons (pv 0) (pa_cons (pe_bltn (v := .ty "bool") (u := .type "bool") (by rfl) T.n_bool (by decide +kernel) rfl) pa_nil))) (pe_one (pe_cmpR op_eq (pv 0) (pv 1) (nomark _)))))) pss_nil)
  (pss_cons (ps_if (pt_val (pe_callB (id := "isinstance") (r := rIsiV K) call_isiV (by rfl) T.n_isinstance (by decide +kernel) (pa_cons (pv 1) (pa_cons (pe_bltn (v := .ty "int") (u := .type "int") (by rfl) T.n_int (by decide +kernel) rfl) pa_nil)))) (pss_one (ps_ret (pe_and (pe_callB (id := "isinstance") (r := rIsiV K) call_isiV (by rfl) T.n_isinstance (by decide +kernel) (pa_cons (pv 0) (pa_cons (pe_bltn (v := .ty "int") (u := .type "int") (by rfl) T.n_int (by decide +kernel) rfl) pa_nil))) (pe_and (pe_not (pe_callB (id := "isinstance") (r := rIsiV K) call_isiV (by rfl) T.n_isinstance (by decide +kernel) (pa_cons (pv 0) (pa_cons (pe_bltn (v := .ty "bool") (u := .type "bool") (by rfl) T.n_bool (by decide +kernel) rfl) pa_nil)))) (pe_one (pe_cmpR op_eq (pv 0) (pv 1) (nomark _))))))) pss_nil)
  (pss_cons (ps_if (pt_val (pe_callB (id := "isinstance") (r := rIsiV K) call_isiV (by rfl) T.n_isinstance (by decide +kernel) (pa_cons (pv 1) (pa_cons (pe_bltn (v := .ty "str") (u := .type "str") (by rfl) T.n_str (by decide +kernel) rfl) pa_nil)))) (pss_one (ps_ret (pe_and (pe_callB (id := "isinstance") (r := rIsiV K) call_isiV (by rfl) T.n_isinstance (by decide +kernel) (pa_cons (pv 0) (pa_cons (pe_bltn (v := .ty "str") (u := .type "str") (by rfl) T.n_str (by decide +kernel) rfl) pa_nil))) (pe_one (pe_cmpR op_eq (pv 0) (pv 1) (nomark _)))))) pss_nil)
  (pss_cons (ps_if (PW.pt (pw_and (pt_val (pe_callB (id := "isinstance") (r := rIsiV K) call_isiV (by rfl) T.n_isinstance (by decide +kernel) (pa_cons (pv 1) (pa_cons (pe_bltn (v := .ty "tuple") (u := .type "tuple") (by rfl) T.n_tuple (by decide +kernel) rfl) pa_nil)))) (pw_and1 (pt_not (pt_val (pe_callB (id := "isinstance") (r := rIsiV K) call_isiV (by rfl) T.n_isinstance (by decide +kernel) (pa_cons (pv 0) (pa_cons (pe_bltn (v := .ty "tuple") (u := .type "tuple") (by rfl) T.n_tuple (by decide +kernel) rfl) pa_nil)))))))) (pss_one (ps_ret pe_bl)) pss_nil)
  (pss_cons (ps_if (PW.pt (pw_and (pt_val (pe_callB (id := "isinstance") (r := rIsiV K) call_isiV (by rfl) T.n_isinstance (by decide +kernel) (pa_cons (pv 1) (pa_cons (pe_bltn (v := .ty "list") (u := .type "list") (by rfl) T.n_list (by decide +kernel) rfl) pa_nil)))) (pw_and1 (pt_not (pt_val (pe_callB (id := "isinstance") (r := rIsiV K) call_isiV (by rfl) T.n_isinstance (by decide +kernel) (pa_cons (pv 0) (pa_cons (pe_bltn (v := .ty "list") (u := .type "list") (by rfl) T.n_list (by decide +kernel) rfl) pa_nil)))))))) (pss_one (ps_ret pe_bl)) pss_nil)
  (pss_cons (ps_if (pt_cmpR op_ne (pe_callB call_len (by rfl) T.n_len (by decide +kernel) (pa_cons (pv 0) pa_nil)) (pe_callB call_len (by rfl) T.n_len (by decide +kernel) (pa_cons (pv 1) pa_nil)) (nomark _)) (pss_one (ps_ret pe_bl)) pss_nil)
  (pss_cons ps_never
  (pss_one (ps_ret pe_bl)))))))))), ?_⟩
      walk_at "sx"
      refine ⟨rfl, ?_⟩
      walk_at "sx"
      have k' := k H (L2.Same.refl H)
      cases al with
      | non =>
        refine i_T rfl ?_
        walk_at "sx"
        refine ⟨rfl, ?_⟩
        exact k'
      | bl b =>
        refine i_F (fun e => nomatch e) ?_
        walk_at "sx"
        refine isi_in (b := true) (in_bK (B := All) (.bl b)) ?_
        walk_at "sx"
        refine isi_in (b := true) (in_bK (B := All) (.bl b)) ?_
        walk_at "sx"
        refine r_eq rfl ?_
        rw [decide_eq_true rfl]
        exact k'
      | int i =>
        refine i_F (fun e => nomatch e) ?_
        walk_at "is"
        refine isi_in (b := true) (in_iK (B := All) (.int i)) ?_
        walk_at "sx"
        refine isi_in (b := true) (in_iK (B := All) (.int i)) ?_
        walk_at "sx"
        refine isi_in (b := false) (in_bK (B := All) (.int i)) ?_
        walk_at "sx"
        rw [decide_eq_true rfl]
        exact k'
      | str z =>
        refine i_F (fun e => nomatch e) ?_
        walk_at "is"
        walk_at "is"
        refine isi_in (b := true) (in_sK (B := All) (.str z)) ?_
        walk_at "sx"
        refine isi_in (b := true) (in_sK (B := All) (.str z)) ?_
        walk_at "sx"
        refine r_eq rfl ?_
        rw [decide_eq_true rfl]
        exact k'
  | succ d ih =>
    refine T.F__law_same.ok sc__law_same (fun vs H Q E h => ?_) (fun cdv A' outer s H vs Q E hr h => ?_)
    · obtain ⟨x, y, rfl, _⟩ := h
      rfl
    · obtain ⟨x, y, rfl, al, k⟩ := h
      have G__law_same := ih
      refine ⟨_, (pss_cons (ps_if (pt_cmpR op_isN (pv 1) pe_non (nomark _)) (pss_one (ps_ret (pe_cmpR op_isN (pv 0) pe_non (nomark _)))) pss_nil)
  (pss_cons (ps_if (pt_val (pe_callB (id := "isinstance") (r := rIsiV K) call_isiV (by rfl) T.n_isinstance (by decide +kernel) (pa_cons (pv 1) (pa_cons (pe_bltn (v := .ty "bool") (u := .type "bool") (by rfl) T.n_bool (by decide +kernel) rfl) pa_nil)))) (pss_one (ps_ret (pe_and (pe_callB (id := "isinstance") (r := rIsiV K) call_isiV (by rfl) T.n_isinstance (by decide +kernel) (pa_cons (pv 0) (pa_cons (pe_bltn (v := .ty "bool") (u := .type "bool") (by rfl) T.n_bool (by decide +kernel) rfl) pa_nil))) (pe_one (pe_cmpR op_eq (pv 0) (pv 1) (nomark _)))))) pss_nil)
  (pss_cons (ps_if (pt_val (pe_callB (id := "isinstance") (r := rIsiV K) call_isiV (by rfl) T.n_isinstance (by decide +kernel) (pa_cons (pv 1) (pa_cons (pe_bltn (v := .ty "int") (u := .type "int") (by rfl) T.n_int (by decide +kernel) rfl) pa_nil)))) (pss_one (ps_ret (pe_and (pe_callB (id := "isinstance") (r := rIsiV K) call_isiV (by rfl) T.n_isinstance (by decide +kernel) (pa_cons (pv 0) (pa_cons (pe_bltn (v := .ty "int") (u := .type "int") (by rfl) T.n_int (by decide +kernel) rfl) pa_nil))) (pe_and (pe_not (pe_callB (id := "isinstance") (r := rIsiV K) call_isiV (by rfl) T.n_isinstance (by decide +kernel) (pa_cons (pv 0) (pa_cons (pe_bltn (v := .ty "bool") (u := .type "bool") (by rfl) T.n_bool (by decide +kernel) rfl) pa_nil)))) (pe_one (pe_cmpR op_eq (pv 0) (pv 1) (nomark _))))))) pss_nil)
  (pss_cons (ps_if (pt_val (pe_callB (id := "isinstance") (r := rIsiV K) call_isiV (by rfl) T.n_isinstance (by decide +kernel) (pa_cons (pv 1) (pa_cons (pe_bltn (v := .ty "str") (u := .type "str") (by rfl) T.n_str (by decide +kernel) rfl) pa_nil)))) (pss_one (ps_ret (pe_and (pe_callB (id := "isinstance") (r := rIsiV K) call_isiV (by rfl) T.n_isinstance (by decide +kernel) (pa_cons (pv 0) (pa_cons (pe_bltn (v := .ty "str") (u := .type "str") (by rfl) T.n_str (by decide +kernel) rfl) pa_nil))) (pe_one (pe_cmpR op_eq (pv 0) (pv 1) (nomark _)))))) pss_nil)
  (pss_cons (ps_if (PW.pt (pw_and (pt_val (pe_callB (id := "isinstance") (r := rIsiV K) call_isiV (by rfl) T.n_isinstance (by decide +kernel) (pa_cons (pv 1) (pa_cons (pe_bltn (v := .ty "tuple") (u := .type "tuple") (by rfl) T.n_tuple (by decide +kernel) rfl) pa_nil)))) (pw_and1 (pt_not (pt_val (pe_callB (id := "isinstance") (r := rIsiV K) call_isiV (by rfl) T.n_isinstance (by decide +kernel) (pa_cons (pv 0) (pa_cons (pe_bltn (v := .ty "tuple") (u := .type "tuple") (by rfl) T.n_tuple (by decide +kernel) rfl) pa_nil)))))))) (pss_one (ps_ret pe_bl)) pss_nil)
  (pss_cons (ps_if (PW.pt (pw_and (pt_val (pe_callB (id := "isinstance") (r := rIsiV K) call_isiV (by rfl) T.n_isinstance (by decide +kernel) (pa_cons (pv 1) (pa_cons (pe_bltn (v := .ty "list") (u := .type "list") (by rfl) T.n_list (by decide +kernel) rfl) pa_nil)))) (pw_and1 (pt_not (pt_val (pe_callB (id := "isinstance") (r := rIsiV K) call_isiV (by rfl) T.n_isinstance (by decide +kernel) (pa_cons (pv 0) (pa_cons (pe_bltn (v := .ty "list") (u := .type "list") (by rfl) T.n_list (by decide +kernel) rfl) pa_nil)))))))) (pss_one (ps_ret pe_bl)) pss_nil)
  (pss_cons (ps_if (pt_cmpR op_ne (pe_callB call_len (by rfl) T.n_len (by decide +kernel) (pa_cons (pv 0) pa_nil)) (pe_callB call_len (by rfl) T.n_len (by decide +kernel) (pa_cons (pv 1) pa_nil)) (nomark _)) (pss_one (ps_ret pe_bl)) pss_nil)
  (pss_cons (ps_for PassesOwn.never rfl (pi_range1 rfl T.n_range (pa_cons (pe_callB call_len (by rfl) T.n_len (by decide +kernel) (pa_cons (pv 1) pa_nil)) pa_nil)) (pg_name (i := 2) sc__law_same.nd rfl (Or.inl rfl))
  (pss_one (ps_if (pt_not (pt_val (pe_call G__law_same hr rfl T.g__law_same T.F__law_same.kp (B__law_same T) .nil pass0 (pa_cons (pe_ix ix_seq (pv 0) (pv 2) (fun _ _ => rfl)) (pa_cons (pe_ix ix_seq (pv 1) (pv 2) (fun _ _ => rfl)) pa_nil))))) (pss_one (ps_ret pe_bl)) pss_nil)))
  (pss_one (ps_ret pe_bl)))))))))), ?_⟩
      walk_at "sx"
      refine ⟨rfl, ?_⟩
      walk_at "sx"
      have k' := k H (L2.Same.refl H)
      cases al with
      | non =>
        refine i_T rfl ?_
        walk_at "sx"
        refine ⟨rfl, ?_⟩
        exact k'
      | bl b =>
        refine i_F (fun e => nomatch e) ?_
        walk_at "sx"
        refine isi_in (b := true) (in_bK (B := All) (.bl b)) ?_
        walk_at "sx"
        refine isi_in (b := true) (in_bK (B := All) (.bl b)) ?_
        walk_at "sx"
        refine r_eq rfl ?_
        rw [decide_eq_true rfl]
        exact k'
      | int i =>
        refine i_F (fun e => nomatch e) ?_
        walk_at "is"
        refine isi_in (b := true) (in_iK (B := All) (.int i)) ?_
        walk_at "sx"
        refine isi_in (b := true) (in_iK (B := All) (.int i)) ?_
        walk_at "sx"
        refine isi_in (b := false) (in_bK (B := All) (.int i)) ?_
        walk_at "sx"
        rw [decide_eq_true rfl]
        exact k'
      | str z =>
        refine i_F (fun e => nomatch e) ?_
        walk_at "is"
        walk_at "is"
        refine isi_in (b := true) (in_sK (B := All) (.str z)) ?_
        walk_at "sx"
        refine isi_in (b := true) (in_sK (B := All) (.str z)) ?_
        walk_at "sx"
        refine r_eq rfl ?_
        rw [decide_eq_true rfl]
        exact k'
      | tup hp hq l sz a =>
        rename_i p q xs ys
        refine i_F (fun e => nomatch e) ?_
        walk_at "is"
        walk_at "is"
        walk_at "is"
        refine isi_in (b := true) (in_tup hq) ?_
        walk_at "sx"
        refine isi_in (b := true) (in_tup hp) ?_
        walk_at "sx"
        refine isi_in (b := false) (in_tup_l hq) ?_
        walk_at "sx"
        refine ⟨_, _, rfl, .inr ⟨_, SqT.of hp, rfl⟩, ?_⟩
        walk_at "sx"
        refine ⟨_, _, rfl, .inr ⟨_, SqT.of hq, rfl⟩, ?_⟩
        walk_at "sx"
        rw [l, decide_eq_true rfl]
        walk_at "sx"
        refine ⟨_, rfl, _, _, rfl, .inr ⟨_, SqT.of hq, rfl⟩, _, rfl, by omega, by omega, for_range (lo := 0) (n := ys.length) (fun i σ H' => Same H H' ∧ ∃ v, σ = [some (.ref p), some (.ref q), v]) ⟨L2.Same.refl H, none, rfl⟩ ?_ ?_⟩
        · rintro i σ H' hi ⟨s', v, rfl⟩
          have hx := List.getElem?_eq_getElem (show i < xs.length by omega)
          have hy := List.getElem?_eq_getElem hi
          walk_at "sx"
          refine r_ixT (s' _ _ hp) (atI_nat (by rw [Nat.zero_add]; exact hx)) ?_
          walk_at "sx"
          refine r_ixT (s' _ _ hq) (atI_nat (by rw [Nat.zero_add]; exact hy)) ?_
          walk_at "sx"
          refine ⟨_, _, rfl, (a i _ _ hx hy).same s', fun H2 s2 => ?_⟩
          walk_at "sx"
          exact ⟨s'.trans s2, _, rfl⟩
        · rintro σ H' ⟨s', v, rfl⟩
          walk_at "sx"
          exact k H' s'
      | lst hp hq l sz a =>
        rename_i p q xs ys
        refine i_F (fun e => nomatch e) ?_
        walk_at "is"
        walk_at "is"
        walk_at "is"
        refine isi_in (b := false) (in_lst_t hq) ?_
        walk_at "sx"
        refine isi_in (b := true) (in_lst hq) ?_
        walk_at "sx"
        refine isi_in (b := true) (in_lst hp) ?_
        walk_at "sx"
        refine ⟨_, _, rfl, .inl ⟨_, SqL.of hp, rfl⟩, ?_⟩
        walk_at "sx"
        refine ⟨_, _, rfl, .inl ⟨_, SqL.of hq, rfl⟩, ?_⟩
        walk_at "sx"
        rw [l, decide_eq_true rfl]
        walk_at "sx"
        refine ⟨_, rfl, _, _, rfl, .inl ⟨_, SqL.of hq, rfl⟩, _, rfl, by omega, by omega, for_range (lo := 0) (n := ys.length) (fun i σ H' => Same H H' ∧ ∃ v, σ = [some (.ref p), some (.ref q), v]) ⟨L2.Same.refl H, none, rfl⟩ ?_ ?_⟩
        · rintro i σ H' hi ⟨s', v, rfl⟩
          have hx := List.getElem?_eq_getElem (show i < xs.length by omega)
          have hy := List.getElem?_eq_getElem hi
          walk_at "sx"
          refine r_ixL (s' _ _ hp) (atI_nat (by rw [Nat.zero_add]; exact hx)) ?_
          walk_at "sx"
          refine r_ixL (s' _ _ hq) (atI_nat (by rw [Nat.zero_add]; exact hy)) ?_
          walk_at "sx"
          refine ⟨_, _, rfl, (a i _ _ hx hy).same s', fun H2 s2 => ?_⟩
          walk_at "sx"
          exact ⟨s'.trans s2, _, rfl⟩
        · rintro σ H' ⟨s', v, rfl⟩
          walk_at "sx"
          exact k H' s'
end
end K35

set_option Elab.async false
set_option linter.all false
set_option maxRecDepth 100000
set_option maxHeartbeats 4000000
namespace K35
open PySem L2 Sx
local macro_rules | `(tactic| walk_at "cond") => `(tactic| first
  | assumption
  | decide
  | exact c_mul_r (by first | decide | omega) (by first | decide | omega)
  | exact c_mul_l (by first | decide | omega) (by first | decide | omega)
  | exact c_div (by first | decide | omega) (by first | decide | omega)
  | exact c_pow (by first | decide | omega) (by first | decide | omega) (by first | decide | omega)
  | omega)
local macro_rules | `(tactic| walk_at "ne") => `(tactic| first
  | assumption
  | (refine Ne.symm ?_; assumption)
  | (refine' Flow.ne ?nh ?nn; (case nn => assumption); (case nh => walk_at "fl"))
  | (refine Ne.symm ?_; refine' Flow.ne ?nh ?nn; (case nn => assumption); (case nh => walk_at "fl"))
  | (refine' ne_of_none ?nh ?nn; (case nn => assumption); (case nh => walk_at "at"))
  | (refine Ne.symm ?_; refine' ne_of_none ?nh ?nn; (case nn => assumption); (case nh => walk_at "at")))
local macro_rules | `(tactic| walk_at "at") => `(tactic| first
  | assumption
  | (refine Same.up (by assumption) ?_; walk_at "at")
  | (refine Keep.up (by assumption) (by walk_at "ne") ?_; walk_at "at"))
local macro_rules | `(tactic| walk_at "fl") => `(tactic| first
  | assumption
  | (refine Flow.same (by assumption) ?_; walk_at "fl")
  | (refine Flow.keep (by assumption) (by walk_at "ne") ?_; walk_at "fl"))
local macro_rules | `(tactic| walk_at "fr") => `(tactic| first
  | assumption
  | (refine same_free (by assumption) ?_; walk_at "fr")
  | (refine Keep.free (by assumption) (by walk_at "ne") ?_; walk_at "fr"))
local macro_rules | `(tactic| walk_at "kp") => `(tactic| first
  | assumption
  | exact Keep.refl _ _
  | (refine Keep.trans ?_ (by assumption); walk_at "kp")
  | (refine Keep.trans ?_ (Keep.same (by assumption)); walk_at "kp"))
local macro_rules | `(tactic| walk_at "sm") => `(tactic| first
  | assumption
  | exact L2.Same.refl _
  | (refine L2.Same.trans ?_ (by assumption); walk_at "sm"))
local macro_rules | `(tactic| walk_at "sz") => `(tactic| first | exact Nat.le_of_ble_eq_true rfl | omega)
local macro_rules | `(tactic| walk_at "new") => `(tactic| (intro p np; generalize hE : upd _ p _ = H2; have s2 := new_same np hE; have h2 := new_at hE; clear hE))
local macro_rules | `(tactic| walk_at "newx") => `(tactic| (intro e d na nd hda; generalize hE : upd (upd _ d _) e _ = H2; have s2 := newx_same na nd hE; have h2 := newx_at hE; have h3 := newx_d hda hE; clear hE))
local macro_rules | `(tactic| walk_at "s1") => `(tactic| first
  | with_reducible refine s_seq ?_
  | with_reducible refine s_asg ?_
  | with_reducible refine s_name ?_
  | with_reducible refine s_ret ?_
  | with_reducible refine s_c ?_
  | ((with_reducible refine' s_var ?hv ?_); (case hv => rfl))
  | with_reducible refine s_op ?_
  | with_reducible refine s_un ?_
  | with_reducible refine s_ifS ?_
  | with_reducible refine s_cb ?_
  | with_reducible refine s_cons ?_
  | with_reducible refine s_nil ?_
  | with_reducible refine s_call ?_
  | with_reducible refine s_test ?_
  | with_reducible refine s_tB ?_
  | with_reducible refine s_bl ?_
  | with_reducible refine s_and ?_
  | with_reducible refine s_or ?_
  | with_reducible refine s_not ?_
  | with_reducible refine s_andV ?_
  | with_reducible refine s_orV ?_
  | with_reducible refine s_notV ?_
  | with_reducible refine s_blV ?_
  | with_reducible refine s_if ?_
  | with_reducible refine s_tup ?_
  | with_reducible refine s_lst ?_
  | with_reducible refine s_drop ?_
  | with_reducible refine s_next ?_
  | with_reducible refine s_sub ?_
  | with_reducible refine s_bm ?_
  | with_reducible refine s_callK ?_
  | with_reducible refine s_brk ?_
  | with_reducible refine s_cont ?_
  | with_reducible refine r_I0 ?_
  | with_reducible refine r_U ?_
  | with_reducible refine r_eqI ?_
  | with_reducible refine r_neI ?_
  | with_reducible refine r_isB ?_
  | with_reducible refine r_notB ?_
  | with_reducible refine i_t ?_
  | with_reducible refine i_f ?_
  | with_reducible refine i_nt ?_
  | with_reducible refine i_nf ?_
  | ((with_reducible refine' r_I ?hc ?_); (case hc => walk_at "cond"))
  | (with_reducible refine .inl ⟨_, rfl, ?_⟩)
  | (with_reducible refine ⟨_, rfl, ?_⟩)
  | ((with_reducible refine' r_ixL ?hx ?ha ?_); (case hx => walk_at "at"); (case ha => rfl))
  | ((with_reducible refine' r_ixT ?hx ?ha ?_); (case hx => walk_at "at"); (case ha => rfl))
  | ((with_reducible refine' r_setL ?hx ?ha ?_); (case hx => walk_at "at"); (case ha => rfl); intro H2 k2 h2; (try dsimp only [List.set, Int.toNat] at h2))
  | ((with_reducible refine' r_app ?hx ?hl ?_); (case hx => walk_at "at"); (case hl => first | exact Nat.lt_of_ble_eq_true rfl | omega); intro H2 k2 h2)
  | ((with_reducible refine' ty_list ?hx ?_); (case hx => walk_at "at"))
  | (refine And.intro (by (with_reducible show _ ≤ sizeLine); walk_at "sz") ?_; walk_at "new")
  | with_reducible refine s_exv ?_
  | walk_at "newx")
local macro_rules | `(tactic| walk_at "sx") => `(tactic| repeat (walk_at "s1"))
local macro_rules | `(tactic| walk_at "s2") => `(tactic| first
  | ((with_reducible refine' r_ixG ?hx ?hn ?_); (case hx => walk_at "at"); (case hn => omega))
  | ((with_reducible refine' r_ixGT ?hx ?hn ?_); (case hx => walk_at "at"); (case hn => omega))
  | (with_reducible refine ig_cons (fun hix => ?_) (fun hix => ?_))
  | ((with_reducible refine ig_nil ?_); omega)
  | ((with_reducible refine' i_T ?hc ?_); (case hc => omega))
  | ((with_reducible refine' i_F ?hc ?_); (case hc => omega))
  | (with_reducible refine i_2 (fun hc => ?_) (fun hc => ?_))
  | (with_reducible refine i_n2 (fun hc => ?_) (fun hc => ?_)))
local macro_rules | `(tactic| walk_at "go") => `(tactic| repeat' (first | walk_at "s1" | walk_at "s2"))

local macro_rules | `(tactic| walk_at "s1") => `(tactic| first
  | with_reducible refine s_chain ?_
  | with_reducible refine s_fldS ?_
  | with_reducible refine s_fld ?_
  | with_reducible refine s_dIn ?_
  | with_reducible refine s_dNotIn ?_
  | with_reducible refine s_sl ?_
  | with_reducible refine s_noPart ?_
  | with_reducible refine s_part ?_
  | with_reducible refine s_meth ?_
  | with_reducible refine s_make ?_)

theorem s_callS {σ : L2.St} {H : Hp} {Q : VK} {sp : Sp} {E : L2.St → XK} {t : TA} (h : t σ H fun vs H1 => sp vs H1 Q (E σ)) : tCallS sp E t σ H Q := h
local macro_rules | `(tactic| walk_at "s1") => `(tactic| first
  | with_reducible refine s_callS ?_)
theorem hotX {CX : CXT} {P : Program} {w : World} {K : PySem.W.Frag} {mg : Str → Option Value} {base : Heap} {N : List Str} {qual : Str} {scope : Scope} {f : Addr} {cd : Value} {A : Around} {outer : List Env} {s : Shared} {H : Hp} {E : XK} {p : Addr × Obj} (h : L2H.Hot1 A p) : L2H.HotC (L2H.cxH CX P w K mg base N qual scope f cd A outer s H E p) := ⟨p, ⟨h.1, h.2⟩, List.mem_cons_self⟩
theorem _root_.L2.Fun.okHH {CX : CXT} {P : Program} {w : World} {K : PySem.W.Frag} {mg : Str → Option Value} {base : Heap} {x qual : Str} {st : Stmt} {f : Addr} {fd : FuncData} {N ps : List Str} {k : Nat} {sp : Sp} (F : Fun K x qual st f fd) (S : FnScope N ps (defScope st)) (len : ∀ vs H Q E, sp vs H Q E → vs.length = ps.length)
    (hbody : ∀ (cdv : Value) (A : Around) (outer : List Env) (s : Shared) (H : Hp) (vs : List V) (Q : VK) (E : XK) (p : Addr × Obj), L2H.Hot1 A p → L2H.RoomH k (A.deeper (PyProof.Rows.envOfC qual (defScope st) s.heap.objs.size f cdv)) → sp vs H Q E →
      ∃ t, PSs (L2H.cxH CX P w K mg base N qual (defScope st) f cdv A outer s H E p) (defBody st) t ∧ t { nx := fun _ H' => Q .non H', rt := Q } (start N vs) H) : L2H.FnH P w K mg base CX (k + 1) f fd ps sp := by
  obtain ⟨oc, od, kV, doc, pm, an, cdv, ct, osl, rfl, lk, hcd⟩ := F.ex
  exact L2H.fn_ofH lk hcd S len fun A outer s H vs Q E p hot hr hsp => hbody cdv A outer s H vs Q E p hot hr hsp
section
variable {P : Program} {w : World} {K : PySem.W.Frag} {mg : Str → Option Value} {base : Heap} {A : Ad}
local macro_rules | `(tactic| walk_at "knd") => `(tactic| first
  | exact Kn.int _
  | exact Kn.str _
  | exact Kn.tup (by assumption) trivial
  | exact Kn.lst (by assumption) trivial)
local macro_rules | `(tactic| walk_at "no") => `(tactic| first
  | exact in_bK (B := All) (by walk_at "knd")
  | exact in_iK (B := All) (by walk_at "knd")
  | exact in_sK (B := All) (by walk_at "knd"))
local macro_rules | `(tactic| walk_at "is") => `(tactic| (walk_at "sx"; refine isi_in (b := false) (by walk_at "no") ?_; walk_at "sx"))
theorem ok_sameH (T : Txt P K mg A) : ∀ d, L2H.FnH P w K mg base CX0 (d + 1) A.a__law_same A.d__law_same ["actual", "due"] (spSame d) := by
  intro d
  induction d with
  | zero =>
    refine T.F__law_same.okHH sc__law_same (fun vs H Q E h => ?_) (fun cdv A' outer s H vs Q E p0 hot hr h => ?_)
    · obtain ⟨x, y, rfl, _⟩ := h
      rfl
    · obtain ⟨x, y, rfl, al, k⟩ := h
      refine ⟨_, (pss_cons (ps_if (pt_cmpR op_isN (pv 1) pe_non (nomark _)) (pss_one (ps_ret (pe_cmpR op_isN (pv 0) pe_non (nomark _)))) pss_nil)
  (pss_cons (ps_if (pt_val (pe_callB (id := "isinstance") (r := rIsiV K) call_isiV (by rfl) T.n_isinstance (by decide +kernel) (pa_cons (pv 1) (pa_cons (pe_bltn (v := .ty "bool") (u := .type "bool") (by rfl) T.n_bool (by decide +kernel) rfl) pa_nil)))) (pss_one (ps_ret (pe_and (pe_callB (id := "isinstance") (r := rIsiV K) call_isiV (by rfl) T.n_isinstance (by decide +kernel) (pa_cons (pv 0) (pa_cons (pe_bltn (v := .ty "bool") (u := .type "bool") (by rfl) T.n_bool (by decide +kernel) rfl) pa_nil))) (pe_one (pe_cmpR op_eq (pv 0) (pv 1) (nomark _)))))) pss_nil)
  (pss_cons (ps_if (pt_val (pe_callB (id := "isinstance") (r := rIsiV K) call_isiV (by rfl) T.n_isinstance (by decide +kernel) (pa_cons (pv 1) (pa_cons (pe_bltn (v := .ty "int") (u := .type "int") (by rfl) T.n_int (by decide +kernel) rfl) pa_nil)))) (pss_one (ps_ret (pe_and (pe_callB (id := "isinstance") (r := rIsiV K) call_isiV (by rfl) T.n_isinstance (by decide +kernel) (pa_cons (pv 0) (pa_cons (pe_bltn (v := .ty "int") (u := .type "int") (by rfl) T.n_int (by decide +kernel) rfl) pa_nil))) (pe_and (pe_not (pe_callB (id := "isinstance") (r := rIsiV K) call_isiV (by rfl) T.n_isinstance (by decide +kernel) (pa_cons (pv 0) (pa_cons (pe_bltn (v := .ty "bool") (u := .type "bool") (by rfl) T.n_bool (by decide +kernel) rfl) pa_nil)))) (pe_one (pe_cmpR op_eq (pv 0) (pv 1) (nomark _))))))) pss_nil)
  (pss_cons (ps_if (pt_val (pe_callB (id := "isinstance") (r := rIsiV K) call_isiV (by rfl) T.n_isinstance (by decide +kernel) (pa_cons (pv 1) (pa_cons (pe_bltn (v := .ty "str") (u := .type "str") (by rfl) T.n_str (by decide +kernel) rfl) pa_nil)))) (pss_one (ps_ret (pe_and (pe_callB (id := "isinstance") (r := rIsiV K) call_isiV (by rfl) T.n_isinstance (by decide +kernel) (pa_cons (pv 0) (pa_cons (pe_bltn (v := .ty "str") (u := .type "str") (by rfl) T.n_str (by decide +kernel) rfl) pa_nil))) (pe_one (pe_cmpR op_eq (pv 0) (pv 1) (nomark _)))))) pss_nil)
  (pss_cons (ps_if (PW.pt (pw_and (pt_val (pe_callB (id := "isinstance") (r := rIsiV K) call_isiV (by rfl) T.n_isinstance (by decide +kernel) (pa_cons (pv 1) (pa_cons (pe_bltn (v := .ty "tuple") (u := .type "tuple") (by rfl) T.n_tuple (by decide +kernel) rfl) pa_nil)))) (pw_and1 (pt_not (pt_val (pe_callB (id := "isinstance") (r := rIsiV K) call_isiV (by rfl) T.n_isinstance (by decide +kernel) (pa_cons (pv 0) (pa_cons (pe_bltn (v := .ty "tuple") (u := .type "tuple") (by rfl) T.n_tuple (by decide +kernel) rfl) pa_nil)))))))) (pss_one (ps_ret pe_bl)) pss_nil)
  (pss_cons (ps_if (PW.pt (pw_and (pt_val (pe_callB (id := "isinstance") (r := rIsiV K) call_isiV (by rfl) T.n_isinstance (by decide +kernel) (pa_cons (pv 1) (pa_cons (pe_bltn (v := .ty "list") (u := .type "list") (by rfl) T.n_list (by decide +kernel) rfl) pa_nil)))) (pw_and1 (pt_not (pt_val (pe_callB (id := "isinstance") (r := rIsiV K) call_isiV (by rfl) T.n_isinstance (by decide +kernel) (pa_cons (pv 0) (pa_cons (pe_bltn (v := .ty "list") (u := .type "list") (by rfl) T.n_list (by decide +kernel) rfl) pa_nil)))))))) (pss_one (ps_ret pe_bl)) pss_nil)
  (pss_cons (ps_if (pt_cmpR op_ne (pe_callB call_len (by rfl) T.n_len (by decide +kernel) (pa_cons (pv 0) pa_nil)) (pe_callB call_len (by rfl) T.n_len (by decide +kernel) (pa_cons (pv 1) pa_nil)) (nomark _)) (pss_one (ps_ret pe_bl)) pss_nil)
  (pss_cons ps_never
  (pss_one (ps_ret pe_bl)))))))))), ?_⟩
      walk_at "sx"
      refine ⟨rfl, ?_⟩
      walk_at "sx"
      have k' := k H (L2.Same.refl H)
      cases al with
      | non =>
        refine i_T rfl ?_
        walk_at "sx"
        refine ⟨rfl, ?_⟩
        exact k'
      | bl b =>
        refine i_F (fun e => nomatch e) ?_
        walk_at "sx"
        refine isi_in (b := true) (in_bK (B := All) (.bl b)) ?_
        walk_at "sx"
        refine isi_in (b := true) (in_bK (B := All) (.bl b)) ?_
        walk_at "sx"
        refine r_eq rfl ?_
        rw [decide_eq_true rfl]
        exact k'
      | int i =>
        refine i_F (fun e => nomatch e) ?_
        walk_at "is"
        refine isi_in (b := true) (in_iK (B := All) (.int i)) ?_
        walk_at "sx"
        refine isi_in (b := true) (in_iK (B := All) (.int i)) ?_
        walk_at "sx"
        refine isi_in (b := false) (in_bK (B := All) (.int i)) ?_
        walk_at "sx"
        rw [decide_eq_true rfl]
        exact k'
      | str z =>
        refine i_F (fun e => nomatch e) ?_
        walk_at "is"
        walk_at "is"
        refine isi_in (b := true) (in_sK (B := All) (.str z)) ?_
        walk_at "sx"
        refine isi_in (b := true) (in_sK (B := All) (.str z)) ?_
        walk_at "sx"
        refine r_eq rfl ?_
        rw [decide_eq_true rfl]
        exact k'
  | succ d ih =>
    refine T.F__law_same.okHH sc__law_same (fun vs H Q E h => ?_) (fun cdv A' outer s H vs Q E p0 hot hr h => ?_)
    · obtain ⟨x, y, rfl, _⟩ := h
      rfl
    · obtain ⟨x, y, rfl, al, k⟩ := h
      have GH__law_same := ih
      have hc := hotX (CX := CX0) (P := P) (w := w) (K := K) (mg := mg) (base := base) (N := ["actual", "due", "k"]) (qual := "_law_same") (scope := defScope s__law_same) (f := A.a__law_same) (cd := cdv) (outer := outer) (s := s) (H := H) (E := E) hot
      refine ⟨_, (pss_cons (ps_if (pt_cmpR op_isN (pv 1) pe_non (nomark _)) (pss_one (ps_ret (pe_cmpR op_isN (pv 0) pe_non (nomark _)))) pss_nil)
  (pss_cons (ps_if (pt_val (pe_callB (id := "isinstance") (r := rIsiV K) call_isiV (by rfl) T.n_isinstance (by decide +kernel) (pa_cons (pv 1) (pa_cons (pe_bltn (v := .ty "bool") (u := .type "bool") (by rfl) T.n_bool (by decide +kernel) rfl) pa_nil)))) (pss_one (ps_ret (pe_and (pe_callB (id := "isinstance") (r := rIsiV K) call_isiV (by rfl) T.n_isinstance (by decide +kernel) (pa_cons (pv 0) (pa_cons (pe_bltn (v := .ty "bool") (u := .type "bool") (by rfl) T.n_bool (by decide +kernel) rfl) pa_nil))) (pe_one (pe_cmpR op_eq (pv 0) (pv 1) (nomark _)))))) pss_nil)
  (pss_cons (ps_if (pt_val (pe_callB (id := "isinstance") (r := rIsiV K) call_isiV (by rfl) T.n_isinstance (by decide +kernel) (pa_cons (pv 1) (pa_cons (pe_bltn (v := .ty "int") (u := .type "int") (by rfl) T.n_int (by decide +kernel) rfl) pa_nil)))) (pss_one (ps_ret (pe_and (pe_callB (id := "isinstance") (r := rIsiV K) call_isiV (by rfl) T.n_isinstance (by decide +kernel) (pa_cons (pv 0) (pa_cons (pe_bltn (v := .ty "int") (u := .type "int") (by rfl) T.n_int (by decide +kernel) rfl) pa_nil))) (pe_and (pe_not (pe_callB (id := "isinstance") (r := rIsiV K) call_isiV (by rfl) T.n_isinstance (by decide +kernel) (pa_cons (pv 0) (pa_cons (pe_bltn (v := .ty "bool") (u := .type "bool") (by rfl) T.n_bool (by decide +kernel) rfl) pa_nil)))) (pe_one (pe_cmpR op_eq (pv 0) (pv 1) (nomark _))))))) pss_nil)
  (pss_cons (ps_if (pt_val (pe_callB (id := "isinstance") (r := rIsiV K) call_isiV (by rfl) T.n_isinstance (by decide +kernel) (pa_cons (pv 1) (pa_cons (pe_bltn (v := .ty "str") (u := .type "str") (by rfl) T.n_str (by decide +kernel) rfl) pa_nil)))) (pss_one (ps_ret (pe_and (pe_callB (id := "isinstance") (r := rIsiV K) call_isiV (by rfl) T.n_isinstance (by decide +kernel) (pa_cons (pv 0) (pa_cons (pe_bltn (v := .ty "str") (u := .type "str") (by rfl) T.n_str (by decide +kernel) rfl) pa_nil))) (pe_one (pe_cmpR op_eq (pv 0) (pv 1) (nomark _)))))) pss_nil)
  (pss_cons (ps_if (PW.pt (pw_and (pt_val (pe_callB (id := "isinstance") (r := rIsiV K) call_isiV (by rfl) T.n_isinstance (by decide +kernel) (pa_cons (pv 1) (pa_cons (pe_bltn (v := .ty "tuple") (u := .type "tuple") (by rfl) T.n_tuple (by decide +kernel) rfl) pa_nil)))) (pw_and1 (pt_not (pt_val (pe_callB (id := "isinstance") (r := rIsiV K) call_isiV (by rfl) T.n_isinstance (by decide +kernel) (pa_cons (pv 0) (pa_cons (pe_bltn (v := .ty "tuple") (u := .type "tuple") (by rfl) T.n_tuple (by decide +kernel) rfl) pa_nil)))))))) (pss_one (ps_ret pe_bl)) pss_nil)
  (pss_cons (ps_if (PW.pt (pw_and (pt_val (pe_callB (id := "isinstance") (r := rIsiV K) call_isiV (by rfl) T.n_isinstance (by decide +kernel) (pa_cons (pv 1) (pa_cons (pe_bltn (v := .ty "list") (u := .type "list") (by rfl) T.n_list (by decide +kernel) rfl) pa_nil)))) (pw_and1 (pt_not (pt_val (pe_callB (id := "isinstance") (r := rIsiV K) call_isiV (by rfl) T.n_isinstance (by decide +kernel) (pa_cons (pv 0) (pa_cons (pe_bltn (v := .ty "list") (u := .type "list") (by rfl) T.n_list (by decide +kernel) rfl) pa_nil)))))))) (pss_one (ps_ret pe_bl)) pss_nil)
  (pss_cons (ps_if (pt_cmpR op_ne (pe_callB call_len (by rfl) T.n_len (by decide +kernel) (pa_cons (pv 0) pa_nil)) (pe_callB call_len (by rfl) T.n_len (by decide +kernel) (pa_cons (pv 1) pa_nil)) (nomark _)) (pss_one (ps_ret pe_bl)) pss_nil)
  (pss_cons (L2H.ps_forH (passes_of rfl) hc (L2H.pi_range1H rfl T.n_range (pa_cons (pe_callB call_len (by rfl) T.n_len (by decide +kernel) (pa_cons (pv 1) pa_nil)) pa_nil)) (pg_name (i := 2) sc__law_same.nd rfl (Or.inl rfl))
  (pss_one (ps_if (pt_not (pt_val (L2H.pe_callH GH__law_same hr hc rfl T.g__law_same T.F__law_same.kp (B__law_same T) (fun _ => passH (E := E0)) (pa_cons (pe_ix ix_seq (pv 0) (pv 2) (fun _ _ => rfl)) (pa_cons (pe_ix ix_seq (pv 1) (pv 2) (fun _ _ => rfl)) pa_nil))))) (pss_one (ps_ret pe_bl)) pss_nil)))
  (pss_one (ps_ret pe_bl)))))))))), ?_⟩
      walk_at "sx"
      refine ⟨rfl, ?_⟩
      walk_at "sx"
      have k' := k H (L2.Same.refl H)
      cases al with
      | non =>
        refine i_T rfl ?_
        walk_at "sx"
        refine ⟨rfl, ?_⟩
        exact k'
      | bl b =>
        refine i_F (fun e => nomatch e) ?_
        walk_at "sx"
        refine isi_in (b := true) (in_bK (B := All) (.bl b)) ?_
        walk_at "sx"
        refine isi_in (b := true) (in_bK (B := All) (.bl b)) ?_
        walk_at "sx"
        refine r_eq rfl ?_
        rw [decide_eq_true rfl]
        exact k'
      | int i =>
        refine i_F (fun e => nomatch e) ?_
        walk_at "is"
        refine isi_in (b := true) (in_iK (B := All) (.int i)) ?_
        walk_at "sx"
        refine isi_in (b := true) (in_iK (B := All) (.int i)) ?_
        walk_at "sx"
        refine isi_in (b := false) (in_bK (B := All) (.int i)) ?_
        walk_at "sx"
        rw [decide_eq_true rfl]
        exact k'
      | str z =>
        refine i_F (fun e => nomatch e) ?_
        walk_at "is"
        walk_at "is"
        refine isi_in (b := true) (in_sK (B := All) (.str z)) ?_
        walk_at "sx"
        refine isi_in (b := true) (in_sK (B := All) (.str z)) ?_
        walk_at "sx"
        refine r_eq rfl ?_
        rw [decide_eq_true rfl]
        exact k'
      | tup hp hq l sz a =>
        rename_i p q xs ys
        refine i_F (fun e => nomatch e) ?_
        walk_at "is"
        walk_at "is"
        walk_at "is"
        refine isi_in (b := true) (in_tup hq) ?_
        walk_at "sx"
        refine isi_in (b := true) (in_tup hp) ?_
        walk_at "sx"
        refine isi_in (b := false) (in_tup_l hq) ?_
        walk_at "sx"
        refine ⟨_, _, rfl, .inr ⟨_, SqT.of hp, rfl⟩, ?_⟩
        walk_at "sx"
        refine ⟨_, _, rfl, .inr ⟨_, SqT.of hq, rfl⟩, ?_⟩
        walk_at "sx"
        rw [l, decide_eq_true rfl]
        walk_at "sx"
        refine ⟨_, rfl, _, _, rfl, .inr ⟨_, SqT.of hq, rfl⟩, _, rfl, by omega, by omega, for_range (lo := 0) (n := ys.length) (fun i σ H' => Same H H' ∧ ∃ v, σ = [some (.ref p), some (.ref q), v]) ⟨L2.Same.refl H, none, rfl⟩ ?_ ?_⟩
        · rintro i σ H' hi ⟨s', v, rfl⟩
          have hx := List.getElem?_eq_getElem (show i < xs.length by omega)
          have hy := List.getElem?_eq_getElem hi
          walk_at "sx"
          refine r_ixT (s' _ _ hp) (atI_nat (by rw [Nat.zero_add]; exact hx)) ?_
          walk_at "sx"
          refine r_ixT (s' _ _ hq) (atI_nat (by rw [Nat.zero_add]; exact hy)) ?_
          walk_at "sx"
          refine ⟨_, _, rfl, (a i _ _ hx hy).same s', fun H2 s2 => ?_⟩
          walk_at "sx"
          exact ⟨s'.trans s2, _, rfl⟩
        · rintro σ H' ⟨s', v, rfl⟩
          walk_at "sx"
          exact k H' s'
      | lst hp hq l sz a =>
        rename_i p q xs ys
        refine i_F (fun e => nomatch e) ?_
        walk_at "is"
        walk_at "is"
        walk_at "is"
        refine isi_in (b := false) (in_lst_t hq) ?_
        walk_at "sx"
        refine isi_in (b := true) (in_lst hq) ?_
        walk_at "sx"
        refine isi_in (b := true) (in_lst hp) ?_
        walk_at "sx"
        refine ⟨_, _, rfl, .inl ⟨_, SqL.of hp, rfl⟩, ?_⟩
        walk_at "sx"
        refine ⟨_, _, rfl, .inl ⟨_, SqL.of hq, rfl⟩, ?_⟩
        walk_at "sx"
        rw [l, decide_eq_true rfl]
        walk_at "sx"
        refine ⟨_, rfl, _, _, rfl, .inl ⟨_, SqL.of hq, rfl⟩, _, rfl, by omega, by omega, for_range (lo := 0) (n := ys.length) (fun i σ H' => Same H H' ∧ ∃ v, σ = [some (.ref p), some (.ref q), v]) ⟨L2.Same.refl H, none, rfl⟩ ?_ ?_⟩
        · rintro i σ H' hi ⟨s', v, rfl⟩
          have hx := List.getElem?_eq_getElem (show i < xs.length by omega)
          have hy := List.getElem?_eq_getElem hi
          walk_at "sx"
          refine r_ixL (s' _ _ hp) (atI_nat (by rw [Nat.zero_add]; exact hx)) ?_
          walk_at "sx"
          refine r_ixL (s' _ _ hq) (atI_nat (by rw [Nat.zero_add]; exact hy)) ?_
          walk_at "sx"
          refine ⟨_, _, rfl, (a i _ _ hx hy).same s', fun H2 s2 => ?_⟩
          walk_at "sx"
          exact ⟨s'.trans s2, _, rfl⟩
        · rintro σ H' ⟨s', v, rfl⟩
          walk_at "sx"
          exact k H' s'
end
end K35

set_option Elab.async false
set_option linter.all false
set_option maxRecDepth 100000
set_option maxHeartbeats 2000000
/-! a == b by an own __eq__, where an error is handled -/
namespace L2
open PySem PySem.Spec PyProof.Rows
section
variable {X : Cx} {CX : CXT} {k : Nat} {f C : Addr} {fd : FuncData} {ps : List Str} {sp : Sp} {E : XK}
def rEqOwn (C : Addr) (sp : Sp) (E : XK) : R2 := fun x y H Q => ∃ a b dx dy fs gs, x = .ref a ∧ y = .ref b ∧ H a = some (.ins C dx fs) ∧ H b = some (.ins C dy gs) ∧ sp [.ref a, .ref b] H (fun v H' => v = .bl true ∧ Q v H') E
theorem op_eqOwnH (F : L2H.FnH X.prog X.w X.K X.mg X.base CX k f fd ps sp) (hr : L2H.RoomH k X.A) (hc : L2H.HotC X) (hs : PySem.W.findIn X.K (.ref C) "__eq__" = some (some (.ref f))) (hf : PySem.W.isFn X.K (.ref f) = true) (hb : Binds X.K fd ps [])
    (hx : ∀ σ, PassesAt CX X σ E) : OpR X (compareOp .Eq) (rEqOwn C sp E) := by
  rintro pins s σ H x y v u Q I rx ry ⟨a, b, dx, dy, fs, gs, rfl, rfl, ha, hb', q⟩
  cases rx
  cases ry
  obtain ⟨mA, J, _⟩ := ins_get I.hok ha
  obtain ⟨mB, J', _⟩ := ins_get I.hok hb'
  obtain ⟨od, J, _⟩ := J.look
  obtain ⟨od', J', _⟩ := J'.look
  obtain ⟨m, hF⟩ := I.fr
  have hu : X.A.units < cLine := by have := hr.un; omega
  show wpAny (model X.prog X.w) X.A (richCompare .Eq (.ref a) (.ref b)) (EP X pins σ Q) X.xe s
  refine PySem.W.cmp_K (op := .Eq) (tb := .ref C) hu hF I.ok.mod.kin J J'.type (by simp [PySem.W.notFirst]) hs hf ?_
  refine wpAny_mono (L2H.run_fnH (E := fun _ => E) F hr hc hb (hx σ) I (.cons (a := V.ref a) rfl (.cons (a := V.ref b) rfl .nil)) q) (fun r s' z => ?_) fun _ _ z => z
  obtain ⟨v, H', I', rv, ev, q'⟩ := z
  subst ev
  cases rv
  exact ⟨.bl true, H', I', rfl, q'⟩
end
end L2

set_option Elab.async false
set_option linter.all false
set_option maxRecDepth 100000
set_option maxHeartbeats 4000000
namespace K35
open PySem L2 Sx
local macro_rules | `(tactic| walk_at "cond") => `(tactic| first
  | assumption
  | decide
  | exact c_mul_r (by first | decide | omega) (by first | decide | omega)
  | exact c_mul_l (by first | decide | omega) (by first | decide | omega)
  | exact c_div (by first | decide | omega) (by first | decide | omega)
  | exact c_pow (by first | decide | omega) (by first | decide | omega) (by first | decide | omega)
  | omega)
local macro_rules | `(tactic| walk_at "ne") => `(tactic| first
  | assumption
  | (refine Ne.symm ?_; assumption)
  | (refine' Flow.ne ?nh ?nn; (case nn => assumption); (case nh => walk_at "fl"))
  | (refine Ne.symm ?_; refine' Flow.ne ?nh ?nn; (case nn => assumption); (case nh => walk_at "fl"))
  | (refine' ne_of_none ?nh ?nn; (case nn => assumption); (case nh => walk_at "at"))
  | (refine Ne.symm ?_; refine' ne_of_none ?nh ?nn; (case nn => assumption); (case nh => walk_at "at")))
local macro_rules | `(tactic| walk_at "at") => `(tactic| first
  | assumption
  | (refine Same.up (by assumption) ?_; walk_at "at")
  | (refine Keep.up (by assumption) (by walk_at "ne") ?_; walk_at "at"))
local macro_rules | `(tactic| walk_at "fl") => `(tactic| first
  | assumption
  | (refine Flow.same (by assumption) ?_; walk_at "fl")
  | (refine Flow.keep (by assumption) (by walk_at "ne") ?_; walk_at "fl"))
local macro_rules | `(tactic| walk_at "fr") => `(tactic| first
  | assumption
  | (refine same_free (by assumption) ?_; walk_at "fr")
  | (refine Keep.free (by assumption) (by walk_at "ne") ?_; walk_at "fr"))
local macro_rules | `(tactic| walk_at "kp") => `(tactic| first
  | assumption
  | exact Keep.refl _ _
  | (refine Keep.trans ?_ (by assumption); walk_at "kp")
  | (refine Keep.trans ?_ (Keep.same (by assumption)); walk_at "kp"))
local macro_rules | `(tactic| walk_at "sm") => `(tactic| first
  | assumption
  | exact L2.Same.refl _
  | (refine L2.Same.trans ?_ (by assumption); walk_at "sm"))
local macro_rules | `(tactic| walk_at "sz") => `(tactic| first | exact Nat.le_of_ble_eq_true rfl | omega)
local macro_rules | `(tactic| walk_at "new") => `(tactic| (intro p np; generalize hE : upd _ p _ = H2; have s2 := new_same np hE; have h2 := new_at hE; clear hE))
local macro_rules | `(tactic| walk_at "newx") => `(tactic| (intro e d na nd hda; generalize hE : upd (upd _ d _) e _ = H2; have s2 := newx_same na nd hE; have h2 := newx_at hE; have h3 := newx_d hda hE; clear hE))
local macro_rules | `(tactic| walk_at "s1") => `(tactic| first
  | with_reducible refine s_seq ?_
  | with_reducible refine s_asg ?_
  | with_reducible refine s_name ?_
  | with_reducible refine s_ret ?_
  | with_reducible refine s_c ?_
  | ((with_reducible refine' s_var ?hv ?_); (case hv => rfl))
  | with_reducible refine s_op ?_
  | with_reducible refine s_un ?_
  | with_reducible refine s_ifS ?_
  | with_reducible refine s_cb ?_
  | with_reducible refine s_cons ?_
  | with_reducible refine s_nil ?_
  | with_reducible refine s_call ?_
  | with_reducible refine s_test ?_
  | with_reducible refine s_tB ?_
  | with_reducible refine s_bl ?_
  | with_reducible refine s_and ?_
  | with_reducible refine s_or ?_
  | with_reducible refine s_not ?_
  | with_reducible refine s_andV ?_
  | with_reducible refine s_orV ?_
  | with_reducible refine s_notV ?_
  | with_reducible refine s_blV ?_
  | with_reducible refine s_if ?_
  | with_reducible refine s_tup ?_
  | with_reducible refine s_lst ?_
  | with_reducible refine s_drop ?_
  | with_reducible refine s_next ?_
  | with_reducible refine s_sub ?_
  | with_reducible refine s_bm ?_
  | with_reducible refine s_callK ?_
  | with_reducible refine s_brk ?_
  | with_reducible refine s_cont ?_
  | with_reducible refine r_I0 ?_
  | with_reducible refine r_U ?_
  | with_reducible refine r_eqI ?_
  | with_reducible refine r_neI ?_
  | with_reducible refine r_isB ?_
  | with_reducible refine r_notB ?_
  | with_reducible refine i_t ?_
  | with_reducible refine i_f ?_
  | with_reducible refine i_nt ?_
  | with_reducible refine i_nf ?_
  | ((with_reducible refine' r_I ?hc ?_); (case hc => walk_at "cond"))
  | (with_reducible refine .inl ⟨_, rfl, ?_⟩)
  | (with_reducible refine ⟨_, rfl, ?_⟩)
  | ((with_reducible refine' r_ixL ?hx ?ha ?_); (case hx => walk_at "at"); (case ha => rfl))
  | ((with_reducible refine' r_ixT ?hx ?ha ?_); (case hx => walk_at "at"); (case ha => rfl))
  | ((with_reducible refine' r_setL ?hx ?ha ?_); (case hx => walk_at "at"); (case ha => rfl); intro H2 k2 h2; (try dsimp only [List.set, Int.toNat] at h2))
  | ((with_reducible refine' r_app ?hx ?hl ?_); (case hx => walk_at "at"); (case hl => first | exact Nat.lt_of_ble_eq_true rfl | omega); intro H2 k2 h2)
  | ((with_reducible refine' ty_list ?hx ?_); (case hx => walk_at "at"))
  | (refine And.intro (by (with_reducible show _ ≤ sizeLine); walk_at "sz") ?_; walk_at "new")
  | with_reducible refine s_exv ?_
  | walk_at "newx")
local macro_rules | `(tactic| walk_at "sx") => `(tactic| repeat (walk_at "s1"))
local macro_rules | `(tactic| walk_at "s2") => `(tactic| first
  | ((with_reducible refine' r_ixG ?hx ?hn ?_); (case hx => walk_at "at"); (case hn => omega))
  | ((with_reducible refine' r_ixGT ?hx ?hn ?_); (case hx => walk_at "at"); (case hn => omega))
  | (with_reducible refine ig_cons (fun hix => ?_) (fun hix => ?_))
  | ((with_reducible refine ig_nil ?_); omega)
  | ((with_reducible refine' i_T ?hc ?_); (case hc => omega))
  | ((with_reducible refine' i_F ?hc ?_); (case hc => omega))
  | (with_reducible refine i_2 (fun hc => ?_) (fun hc => ?_))
  | (with_reducible refine i_n2 (fun hc => ?_) (fun hc => ?_)))
local macro_rules | `(tactic| walk_at "go") => `(tactic| repeat' (first | walk_at "s1" | walk_at "s2"))

local macro_rules | `(tactic| walk_at "s1") => `(tactic| first
  | with_reducible refine s_chain ?_
  | with_reducible refine s_fldS ?_
  | with_reducible refine s_fld ?_
  | with_reducible refine s_dIn ?_
  | with_reducible refine s_dNotIn ?_
  | with_reducible refine s_sl ?_
  | with_reducible refine s_noPart ?_
  | with_reducible refine s_part ?_
  | with_reducible refine s_meth ?_
  | with_reducible refine s_make ?_)

section
variable {P : Program} {w : World} {K : PySem.W.Frag} {mg : Str → Option Value} {base : Heap} {A : Ad}
theorem uH {k : Nat} {A : Around} (r : L2H.RoomH k A) : A.units + 64 < cLine := by
  have := r.un
  omega
/-- rows as data -/
def dRow (r : List Int) : PyData := .tuple (r.map PyData.int)
def dRows (ks : List (Addr × List Int)) : PyData := .tuple (ks.map fun p => dRow p.2)
theorem dp_ints {H : Hp} : ∀ r : List Int, DpAll K H (r.map V.int) (r.map PyData.int)
  | [] => .nil
  | i :: r => .cons (.int i) (dp_ints r)
theorem dp_all {H : Hp} {n : Nat} : ∀ ks : List (Addr × List Int), RowsAt H n ks → DpAll K H (ks.map rf) (ks.map fun p => dRow p.2)
  | [], _ => .nil
  | p :: ks, h => .cons (.tup (SqT.of (h p List.mem_cons_self).1) (dp_ints p.2)) (dp_all ks fun q hq => h q (List.mem_cons_of_mem _ hq))
theorem dp_rows {H : Hp} {n : Nat} {t : Addr} {ks : List (Addr × List Int)} (ht : H t = some (.tup (ks.map rf))) (h : RowsAt H n ks) : Dp K H (.ref t) (dRows ks) := .tup (SqT.of ht) (dp_all ks h)
theorem can_ints : ∀ r : List Int, PyData.canLayAll0 (r.map PyData.int) = true
  | [] => by rw [List.map_nil, PyData.canLayAll0]
  | i :: r => by rw [List.map_cons, PyData.canLayAll0, PyData.canLay0, can_ints r] <;> rfl
theorem can_rows : ∀ ks : List (Addr × List Int), PyData.canLayAll0 (ks.map fun p => dRow p.2) = true
  | [] => by rw [List.map_nil, PyData.canLayAll0]
  | p :: ks => by
    rw [List.map_cons, PyData.canLayAll0, can_rows ks, dRow, PyData.canLay0, can_ints p.2]
    rfl
theorem dep_ints : ∀ r : List Int, PyData.depthAll (r.map PyData.int) = 0
  | [] => by rw [List.map_nil, PyData.depthAll]
  | i :: r => by
    rw [List.map_cons, PyData.depthAll, PyData.depth, dep_ints r]
    rfl
theorem dep_rows : ∀ ks : List (Addr × List Int), PyData.depthAll (ks.map fun p => dRow p.2) ≤ 1
  | [] => by
    rw [List.map_nil, PyData.depthAll]
    omega
  | p :: ks => by
    rw [List.map_cons, PyData.depthAll, dRow, PyData.depth, dep_ints p.2]
    have := dep_rows ks
    omega
theorem sh_rows (ks : List (Addr × List Int)) : PySem.SeqAt.shaped (dRows ks) = true := by
  unfold PySem.SeqAt.shaped dRows
  rw [PyData.canLay0, can_rows ks, PyData.depth]
  have := dep_rows ks
  rw [decide_eq_true (by omega)]
  rfl
/-- a list of rules compared with itself, where an error is handled -/
def spEq1 (C : Addr) : Sp := fun vs H Q _ => ∃ (x : Addr) (n : Nat) (ks : List (Addr × List Int)), vs = [.ref x, .ref x] ∧ RuAt C H x n ks ∧ ∀ H', Same H H' → Q (.bl true) H'
theorem ok_eqH (T : Txt P K mg A) : L2H.FnH P w K mg base CX0 1 A.a_Rules____eq__ A.d_Rules____eq__ ["self", "other"] (spEq1 A.c_Rules) := by
  refine T.F_Rules____eq__.okH sc_Rules____eq__ (fun vs H Q E h => ?_) (fun cdv A' outer s H vs Q E p hr h => ?_)
  · obtain ⟨x, n, ks, rfl, _⟩ := h
    rfl
  · obtain ⟨x, n, ks, rfl, ⟨dx, t, kn, h1, h2, h3, rows, asc, ne, sz⟩, k⟩ := h
    refine ⟨_, (pss_one (ps_ret (pe_and (pe_callB (id := "isinstance") (r := rIsiV K) call_isiV (by rfl) T.n_isinstance (by decide +kernel) (pa_cons (pv 1) (pa_cons (pe_glob (v := .ref A.c_Rules) rfl T.g_Rules rfl) pa_nil))) (pe_and (pe_cmpR op_eq (pe_fld (pv 0) rfl) (pe_fld (pv 1) rfl) (nomark _)) (pe_one (pe_cmpR (op_eqD (uH hr)) (pe_fld (pv 0) rfl) (pe_fld (pv 1) rfl) (nomark _))))))), ?_⟩
    walk_at "sx"
    refine T.o_Rules.own h1 ?_
    walk_at "sx"
    refine r_get rfl h1 T.cl_Rules T.no_Rules_size rfl ?_
    walk_at "sx"
    refine r_get rfl h1 T.cl_Rules T.no_Rules_size rfl ?_
    walk_at "sx"
    rw [decide_eq_true rfl]
    walk_at "sx"
    refine r_get rfl h1 T.cl_Rules T.no_Rules_rows rfl ?_
    walk_at "sx"
    refine r_get rfl h1 T.cl_Rules T.no_Rules_rows rfl ?_
    refine ⟨dRows ks, dRows ks, dp_rows h2 rows, dp_rows h2 rows, sh_rows ks, sh_rows ks, ?_⟩
    rw [PySem.SeqAt.eqv_refl _ (PySem.SeqAt.canLay_of_shaped (sh_rows ks))]
    exact k H (L2.Same.refl H)
end
end K35

set_option Elab.async false
set_option linter.all false
set_option maxRecDepth 100000
set_option maxHeartbeats 4000000
namespace K35
open PySem L2 Sx
local macro_rules | `(tactic| walk_at "cond") => `(tactic| first
  | assumption
  | decide
  | exact c_mul_r (by first | decide | omega) (by first | decide | omega)
  | exact c_mul_l (by first | decide | omega) (by first | decide | omega)
  | exact c_div (by first | decide | omega) (by first | decide | omega)
  | exact c_pow (by first | decide | omega) (by first | decide | omega) (by first | decide | omega)
  | omega)
local macro_rules | `(tactic| walk_at "ne") => `(tactic| first
  | assumption
  | (refine Ne.symm ?_; assumption)
  | (refine' Flow.ne ?nh ?nn; (case nn => assumption); (case nh => walk_at "fl"))
  | (refine Ne.symm ?_; refine' Flow.ne ?nh ?nn; (case nn => assumption); (case nh => walk_at "fl"))
  | (refine' ne_of_none ?nh ?nn; (case nn => assumption); (case nh => walk_at "at"))
  | (refine Ne.symm ?_; refine' ne_of_none ?nh ?nn; (case nn => assumption); (case nh => walk_at "at")))
local macro_rules | `(tactic| walk_at "at") => `(tactic| first
  | assumption
  | (refine Same.up (by assumption) ?_; walk_at "at")
  | (refine Keep.up (by assumption) (by walk_at "ne") ?_; walk_at "at"))
local macro_rules | `(tactic| walk_at "fl") => `(tactic| first
  | assumption
  | (refine Flow.same (by assumption) ?_; walk_at "fl")
  | (refine Flow.keep (by assumption) (by walk_at "ne") ?_; walk_at "fl"))
local macro_rules | `(tactic| walk_at "fr") => `(tactic| first
  | assumption
  | (refine same_free (by assumption) ?_; walk_at "fr")
  | (refine Keep.free (by assumption) (by walk_at "ne") ?_; walk_at "fr"))
local macro_rules | `(tactic| walk_at "kp") => `(tactic| first
  | assumption
  | exact Keep.refl _ _
  | (refine Keep.trans ?_ (by assumption); walk_at "kp")
  | (refine Keep.trans ?_ (Keep.same (by assumption)); walk_at "kp"))
local macro_rules | `(tactic| walk_at "sm") => `(tactic| first
  | assumption
  | exact L2.Same.refl _
  | (refine L2.Same.trans ?_ (by assumption); walk_at "sm"))
local macro_rules | `(tactic| walk_at "sz") => `(tactic| first | exact Nat.le_of_ble_eq_true rfl | omega)
local macro_rules | `(tactic| walk_at "new") => `(tactic| (intro p np; generalize hE : upd _ p _ = H2; have s2 := new_same np hE; have h2 := new_at hE; clear hE))
local macro_rules | `(tactic| walk_at "newx") => `(tactic| (intro e d na nd hda; generalize hE : upd (upd _ d _) e _ = H2; have s2 := newx_same na nd hE; have h2 := newx_at hE; have h3 := newx_d hda hE; clear hE))
local macro_rules | `(tactic| walk_at "s1") => `(tactic| first
  | with_reducible refine s_seq ?_
  | with_reducible refine s_asg ?_
  | with_reducible refine s_name ?_
  | with_reducible refine s_ret ?_
  | with_reducible refine s_c ?_
  | ((with_reducible refine' s_var ?hv ?_); (case hv => rfl))
  | with_reducible refine s_op ?_
  | with_reducible refine s_un ?_
  | with_reducible refine s_ifS ?_
  | with_reducible refine s_cb ?_
  | with_reducible refine s_cons ?_
  | with_reducible refine s_nil ?_
  | with_reducible refine s_call ?_
  | with_reducible refine s_test ?_
  | with_reducible refine s_tB ?_
  | with_reducible refine s_bl ?_
  | with_reducible refine s_and ?_
  | with_reducible refine s_or ?_
  | with_reducible refine s_not ?_
  | with_reducible refine s_andV ?_
  | with_reducible refine s_orV ?_
  | with_reducible refine s_notV ?_
  | with_reducible refine s_blV ?_
  | with_reducible refine s_if ?_
  | with_reducible refine s_tup ?_
  | with_reducible refine s_lst ?_
  | with_reducible refine s_drop ?_
  | with_reducible refine s_next ?_
  | with_reducible refine s_sub ?_
  | with_reducible refine s_bm ?_
  | with_reducible refine s_callK ?_
  | with_reducible refine s_brk ?_
  | with_reducible refine s_cont ?_
  | with_reducible refine r_I0 ?_
  | with_reducible refine r_U ?_
  | with_reducible refine r_eqI ?_
  | with_reducible refine r_neI ?_
  | with_reducible refine r_isB ?_
  | with_reducible refine r_notB ?_
  | with_reducible refine i_t ?_
  | with_reducible refine i_f ?_
  | with_reducible refine i_nt ?_
  | with_reducible refine i_nf ?_
  | ((with_reducible refine' r_I ?hc ?_); (case hc => walk_at "cond"))
  | (with_reducible refine .inl ⟨_, rfl, ?_⟩)
  | (with_reducible refine ⟨_, rfl, ?_⟩)
  | ((with_reducible refine' r_ixL ?hx ?ha ?_); (case hx => walk_at "at"); (case ha => rfl))
  | ((with_reducible refine' r_ixT ?hx ?ha ?_); (case hx => walk_at "at"); (case ha => rfl))
  | ((with_reducible refine' r_setL ?hx ?ha ?_); (case hx => walk_at "at"); (case ha => rfl); intro H2 k2 h2; (try dsimp only [List.set, Int.toNat] at h2))
  | ((with_reducible refine' r_app ?hx ?hl ?_); (case hx => walk_at "at"); (case hl => first | exact Nat.lt_of_ble_eq_true rfl | omega); intro H2 k2 h2)
  | ((with_reducible refine' ty_list ?hx ?_); (case hx => walk_at "at"))
  | (refine And.intro (by (with_reducible show _ ≤ sizeLine); walk_at "sz") ?_; walk_at "new")
  | with_reducible refine s_exv ?_
  | walk_at "newx")
local macro_rules | `(tactic| walk_at "sx") => `(tactic| repeat (walk_at "s1"))
local macro_rules | `(tactic| walk_at "s2") => `(tactic| first
  | ((with_reducible refine' r_ixG ?hx ?hn ?_); (case hx => walk_at "at"); (case hn => omega))
  | ((with_reducible refine' r_ixGT ?hx ?hn ?_); (case hx => walk_at "at"); (case hn => omega))
  | (with_reducible refine ig_cons (fun hix => ?_) (fun hix => ?_))
  | ((with_reducible refine ig_nil ?_); omega)
  | ((with_reducible refine' i_T ?hc ?_); (case hc => omega))
  | ((with_reducible refine' i_F ?hc ?_); (case hc => omega))
  | (with_reducible refine i_2 (fun hc => ?_) (fun hc => ?_))
  | (with_reducible refine i_n2 (fun hc => ?_) (fun hc => ?_)))
local macro_rules | `(tactic| walk_at "go") => `(tactic| repeat' (first | walk_at "s1" | walk_at "s2"))

local macro_rules | `(tactic| walk_at "s1") => `(tactic| first
  | with_reducible refine s_chain ?_
  | with_reducible refine s_fldS ?_
  | with_reducible refine s_fld ?_
  | with_reducible refine s_dIn ?_
  | with_reducible refine s_dNotIn ?_
  | with_reducible refine s_sl ?_
  | with_reducible refine s_noPart ?_
  | with_reducible refine s_part ?_
  | with_reducible refine s_meth ?_
  | with_reducible refine s_make ?_)

section
variable {P : Program} {w : World} {K : PySem.W.Frag} {mg : Str → Option Value} {base : Heap} {A : Ad}
/-! what is a chance, what is a guess -/
def sh2 : V → V → Bool
  | .int a, .int b => decide (0 < b) && decide (((Nat.gcd a.natAbs b.natAbs : Nat) : Int) = 1)
  | _, _ => false
def bt2 : V → V → Bool
  | .int a, .int b => decide (0 ≤ a) && decide (a ≤ b)
  | _, _ => false
def shL : List V → Bool
  | [x, y] => sh2 x y
  | _ => false
def chL : List V → Bool
  | [x, y] => sh2 x y && bt2 x y
  | _ => false
theorem shL_int {xs : List V} (h : shL xs = true) : ∃ a b, xs = [.int a, .int b] := by
  match xs, h with
  | [], h => cases h
  | [_], h => cases h
  | _ :: _ :: _ :: _, h => cases h
  | [x, y], h => cases x <;> cases y <;> first | exact ⟨_, _, rfl⟩ | cases h
theorem chL_int {xs : List V} (h : chL xs = true) : ∃ a b, xs = [.int a, .int b] := by
  refine shL_int ?_
  match xs, h with
  | [], h => cases h
  | [_], h => cases h
  | _ :: _ :: _ :: _, h => cases h
  | [x, y], h =>
    have h' : (sh2 x y && bt2 x y) = true := h
    rw [Bool.and_eq_true] at h'
    exact h'.1
def chO : Option HO → Bool
  | some (.tup xs) => chL xs
  | _ => false
def chB (H : Hp) : V → Bool
  | .ref p => chO (H p)
  | _ => false
theorem chB_at {H : Hp} {p : Addr} {xs : List V} (h : H p = some (.tup xs)) : chB H (.ref p) = chL xs := by
  show chO (H p) = _
  rw [h]
  rfl
/-- no tuple stands here -/
def NT (H : Hp) (x : V) : Prop := ∀ p, x = .ref p → ∃ o, H p = some o ∧ tO (some o) = false
theorem NT.same {H H' : Hp} {x : V} (e : Same H H') (h : NT H x) : NT H' x := fun p ep => by
  obtain ⟨o, h1, h2⟩ := h p ep
  exact ⟨o, e _ _ h1, h2⟩
theorem chB_no {H : Hp} {x : V} (h : NT H x) : chB H x = false := by
  cases x with
  | ref p =>
    obtain ⟨o, h1, h2⟩ := h p rfl
    show chO (H p) = false
    rw [h1]
    cases o with
    | tup xs => cases h2
    | _ => rfl
  | _ => rfl
/-- what one may ask whether it is a chance -/
def CV (K : PySem.W.Frag) (H : Hp) (x : V) : Prop := (IsIn K H x "tuple" false ∧ NT H x) ∨ ∃ p xs, x = .ref p ∧ H p = some (.tup xs) ∧ (∀ y ∈ xs, NI K H y ∧ ∀ i, y = .int i → Sm 50 i) ∧ xs.length < 1000
theorem CV.same {H H' : Hp} {x : V} (e : Same H H') (h : CV K H x) : CV K H' x := by
  rcases h with ⟨a, b⟩ | ⟨p, xs, rfl, hp, m, sz⟩
  · exact .inl ⟨isIn_same e a, b.same e⟩
  · exact .inr ⟨p, xs, rfl, e _ _ hp, fun y hy => ⟨ni_same e (m y hy).1, (m y hy).2⟩, sz⟩
theorem chB_same {H H' : Hp} {x : V} (e : Same H H') (h : CV K H x) : chB H' x = chB H x := by
  rcases h with ⟨a, b⟩ | ⟨p, xs, rfl, hp, m, sz⟩
  · rw [chB_no b, chB_no (b.same e)]
  · rw [chB_at hp, chB_at (e _ _ hp)]
def GV (K : PySem.W.Frag) (H : Hp) (v : V) : Prop := (IsIn K H v "tuple" false ∧ NT H v) ∨ ∃ p xs, v = .ref p ∧ H p = some (.tup xs) ∧ (∀ x ∈ xs, CV K H x) ∧ xs.length < 1000
theorem GV.same {H H' : Hp} {x : V} (e : Same H H') (h : GV K H x) : GV K H' x := by
  rcases h with ⟨a, b⟩ | ⟨p, xs, rfl, hp, m, sz⟩
  · exact .inl ⟨isIn_same e a, b.same e⟩
  · exact .inr ⟨p, xs, rfl, e _ _ hp, fun y hy => (m y hy).same e, sz⟩
def guO (H : Hp) (k : Nat) : Option HO → Bool
  | some (.tup xs) => decide ((xs.length : Int) = (k : Int)) && xs.all (chB H)
  | _ => false
def gb (H : Hp) (k : Nat) : V → Bool
  | .ref p => guO H k (H p)
  | _ => false
theorem gb_tup {H : Hp} {k : Nat} {p : Addr} {xs : List V} (h : H p = some (.tup xs)) : gb H k (.ref p) = (decide ((xs.length : Int) = (k : Int)) && xs.all (chB H)) := by
  show guO H k (H p) = _
  rw [h]
  rfl
theorem gb_no {H : Hp} {k : Nat} {x : V} (h : NT H x) : gb H k x = false := by
  cases x with
  | ref p =>
    obtain ⟨o, h1, h2⟩ := h p rfl
    show guO H k (H p) = false
    rw [h1]
    cases o with
    | tup xs => cases h2
    | _ => rfl
  | _ => rfl
theorem all_same {H H' : Hp} (e : Same H H') : ∀ {xs : List V}, (∀ x ∈ xs, CV K H x) → xs.all (chB H') = xs.all (chB H)
  | [], _ => rfl
  | x :: xs, h => by
    rw [List.all_cons, List.all_cons, chB_same e (h x List.mem_cons_self), all_same e fun y hy => h y (List.mem_cons_of_mem _ hy)]
theorem gb_same {H H' : Hp} {k : Nat} {v : V} (e : Same H H') (g : GV K H v) : gb H' k v = gb H k v := by
  rcases g with ⟨a, b⟩ | ⟨p, xs, rfl, hp, m, sz⟩
  · rw [gb_no b, gb_no (b.same e)]
  · rw [gb_tup hp, gb_tup (e _ _ hp), all_same e m]
/-- a chance stands at p -/
structure Ch (H : Hp) (p : Addr) (q : Int × Int) : Prop where
  at_ : H p = some (.tup [.int q.1, .int q.2])
  po : 0 < q.2
  g1 : Nat.gcd q.1.natAbs q.2.natAbs = 1
  lo : 0 ≤ q.1
  hi : q.1 ≤ q.2
  sm : Sm 50 q.1 ∧ Sm 50 q.2
theorem ch_of {H : Hp} {x : V} (h : chB H x = true) (c : CV K H x) : ∃ p q, x = .ref p ∧ Ch H p q := by
  rcases c with ⟨a, b⟩ | ⟨p, xs, rfl, hp, m, sz⟩
  · rw [chB_no b] at h
    cases h
  · rw [chB_at hp] at h
    obtain ⟨a, b, rfl⟩ := chL_int h
    · have h' : ((decide (0 < b) && decide (((Nat.gcd a.natAbs b.natAbs : Nat) : Int) = 1)) && (decide (0 ≤ a) && decide (a ≤ b))) = true := h
      simp only [Bool.and_eq_true, decide_eq_true_eq] at h'
      exact ⟨p, (a, b), rfl, hp, h'.1.1, by have := h'.1.2; exact_mod_cast this, h'.2.1, h'.2.2, (m _ (by simp)).2 _ rfl, (m _ (by simp)).2 _ rfl⟩
abbrev cf (z : Addr × (Int × Int)) : V := .ref z.1
def ChsAt (H : Hp) (cs : List (Addr × (Int × Int))) : Prop := ∀ z ∈ cs, Ch H z.1 z.2
theorem Ch.same {H H' : Hp} {p : Addr} {q : Int × Int} (e : Same H H') (h : Ch H p q) : Ch H' p q := ⟨e _ _ h.at_, h.po, h.g1, h.lo, h.hi, h.sm⟩
theorem ChsAt.same {H H' : Hp} {cs : List (Addr × (Int × Int))} (e : Same H H') (h : ChsAt H cs) : ChsAt H' cs := fun z hz => (h z hz).same e
theorem chs_of {H : Hp} : ∀ {xs : List V}, xs.all (chB H) = true → (∀ x ∈ xs, CV K H x) → ∃ cs, xs = cs.map cf ∧ ChsAt H cs
  | [], _, _ => ⟨[], rfl, fun _ h => nomatch h⟩
  | x :: xs, h, c => by
    rw [List.all_cons, Bool.and_eq_true] at h
    obtain ⟨p, q, rfl, hq⟩ := ch_of h.1 (c x List.mem_cons_self)
    obtain ⟨cs, rfl, hc⟩ := chs_of h.2 fun y hy => c y (List.mem_cons_of_mem _ hy)
    exact ⟨(p, q) :: cs, rfl, fun z hz => by
      rcases List.mem_cons.mp hz with rfl | hz
      · exact hq
      · exact hc z hz⟩
theorem gb_is {H : Hp} {k : Nat} {v : V} (h : gb H k v = true) (g : GV K H v) : ∃ p cs, v = .ref p ∧ H p = some (.tup (cs.map cf)) ∧ ChsAt H cs ∧ cs.length = k := by
  rcases g with ⟨a, b⟩ | ⟨p, xs, rfl, hp, m, sz⟩
  · rw [gb_no b] at h
    cases h
  · rw [gb_tup hp, Bool.and_eq_true, decide_eq_true_eq] at h
    obtain ⟨cs, rfl, hc⟩ := chs_of h.2 m
    have h1 := h.1
    rw [List.length_map] at h1
    exact ⟨p, cs, rfl, hp, hc, by omega⟩
/-! the program's own tests -/
def spPair (K : PySem.W.Frag) : Sp := fun vs H Q _ => ∃ v, vs = [v] ∧ ((IsIn K H v "tuple" false ∧ Q (.bl false) H) ∨ ∃ p xs, v = .ref p ∧ H p = some (.tup xs) ∧ Q (.bl (decide ((xs.length : Int) = 2))) H)
theorem ok_pair (T : Txt P K mg A) : FnOk P w K mg base CX0 1 A.a_is_pair A.d_is_pair ["value"] (spPair K) := by
  refine T.F_is_pair.ok sc_is_pair (fun vs H Q E h => ?_) (fun cdv A' outer s H vs Q E hr h => ?_)
  · obtain ⟨v, rfl, _⟩ := h
    rfl
  · obtain ⟨v, rfl, h⟩ := h
    refine ⟨_, (pss_one (ps_ret (pe_and (pe_callB (id := "isinstance") (r := rIsiV K) call_isiV (by rfl) T.n_isinstance (by decide +kernel) (pa_cons (pv 0) (pa_cons (pe_bltn (v := .ty "tuple") (u := .type "tuple") (by rfl) T.n_tuple (by decide +kernel) rfl) pa_nil))) (pe_one (pe_cmpR op_eq (pe_callB call_len (by rfl) T.n_len (by decide +kernel) (pa_cons (pv 0) pa_nil)) pe_int (nomark _)))))), ?_⟩
    walk_at "sx"
    rcases h with ⟨no, k⟩ | ⟨p, xs, rfl, hp, k⟩
    · refine isi_in no ?_
      walk_at "sx"
      exact k
    · refine isi_in (in_tup hp) ?_
      walk_at "sx"
      refine ⟨_, _, rfl, .inr ⟨_, SqT.of hp, rfl⟩, ?_⟩
      walk_at "sx"
      exact k
theorem shL_len {xs : List V} (h : ¬ (xs.length : Int) = 2) : shL xs = false := by
  match xs, h with
  | [], _ => rfl
  | [_], _ => rfl
  | [_, _], h => exact absurd rfl h
  | _ :: _ :: _ :: _, _ => rfl
theorem two_int {xs : List V} (h : (xs.length : Int) = 2) (a : (xs.map isI).all id = true) : ∃ x y, xs = [.int x, .int y] := by
  match xs, h, a with
  | [], h, _ => exact absurd h (by simp only [List.length_nil]; omega)
  | [_], h, _ => exact absurd h (by simp only [List.length_cons, List.length_nil]; omega)
  | [u, v], _, a =>
    cases u <;> cases v <;> first | exact ⟨_, _, rfl⟩ | (exact absurd a (by simp [isI]))
  | _ :: _ :: _ :: l, h, _ => exact absurd h (by simp only [List.length_cons]; omega)
theorem not_int {xs : List V} (a : (xs.map isI).all id = false) : shL xs = false := by
  match xs, a with
  | [], _ => rfl
  | [_], _ => rfl
  | [u, v], a => cases u <;> cases v <;> first | rfl | (exact absurd a (by simp [isI]))
  | _ :: _ :: _ :: l, _ => rfl
theorem chL_sh {xs : List V} (h : shL xs = false) : chL xs = false := by
  match xs, h with
  | [], _ => rfl
  | [_], _ => rfl
  | _ :: _ :: _ :: _, _ => rfl
  | [x, y], h =>
    show (sh2 x y && bt2 x y) = false
    rw [show sh2 x y = false from h, Bool.false_and]
def spShQ (K : PySem.W.Frag) : Sp := fun vs H Q _ => ∃ v, vs = [v] ∧ ((IsIn K H v "tuple" false ∧ ∀ H', Same H H' → Q (.bl false) H') ∨ ∃ p xs, v = .ref p ∧ H p = some (.tup xs) ∧ (∀ y ∈ xs, NI K H y) ∧ xs.length < 1000 ∧ ∀ H', Same H H' → Q (.bl (shL xs)) H')
theorem ok_isSh (T : Txt P K mg A) : FnOk P w K mg base CX0 2 A.a_is_share A.d_is_share ["value"] (spShQ K) := by
  refine T.F_is_share.ok sc_is_share (fun vs H Q E h => ?_) (fun cdv A' outer s H vs Q E hr h => ?_)
  · obtain ⟨v, rfl, _⟩ := h
    rfl
  · obtain ⟨v, rfl, h⟩ := h
    have G_is_pair := ok_pair (w := w) (base := base) T
    have G_is_an_integer := ok_isi (w := w) (base := base) T
    refine ⟨_, (pss_cons (ps_if (PW.pt (pw_or (pt_not (pt_val (pe_call G_is_pair (hr.mono (by decide)) rfl T.g_is_pair T.F_is_pair.kp (B_is_pair T) .nil pass0 (pa_cons (pv 0) pa_nil)))) (pw_or1 (pt_not (pt_val (pe_callB (cr_all rfl) (by rfl) T.n_all (by decide +kernel) (pa_cons (pe_lc (own := [("member", 1)]) (g := (gName 1)) (by rfl) sc_is_share.nd (pi_tup (pv 0)) (blkOk_by (own := [("member", 1)]) (N := ["value", "member"]) (sc := defScope s_is_share) (by decide +kernel)) (fun _ _ _ _ _ => (pg_name (i := 1) sc_is_share.nd rfl (Or.inl rfl))) (fun _ _ _ _ _ => pts_nil) (fun _ _ _ _ _ => (pe_call G_is_an_integer (hr.mono (by decide)) rfl T.g_is_an_integer T.F_is_an_integer.kp (B_is_an_integer T) .nil pass0 (pa_cons (pv 1) pa_nil)))) pa_nil))))))) (pss_one (ps_ret pe_bl)) pss_nil)
  (pss_one (ps_ret (pe_and (pe_cmpR op_gt (pe_ix ix_seq (pv 0) pe_int (fun _ _ => rfl)) pe_int (nomark _)) (pe_one (pe_cmpR op_eq (pe_callBfun cr_gcd (by rfl) T.m_gcd (pa_cons (pe_ix ix_seq (pv 0) pe_int (fun _ _ => rfl)) (pa_cons (pe_ix ix_seq (pv 0) pe_int (fun _ _ => rfl)) pa_nil))) pe_int (nomark _))))))), ?_⟩
    walk_at "sx"
    rcases h with ⟨no, k⟩ | ⟨p, xs, rfl, hp, mem, sz, k⟩
    · refine ⟨v, rfl, .inl ⟨no, ?_⟩⟩
      walk_at "sx"
      exact k _ (L2.Same.refl _)
    · refine ⟨_, rfl, .inr ⟨p, xs, rfl, hp, ?_⟩⟩
      walk_at "sx"
      refine i_n2 (fun hl => ?_) (fun hl => ?_)
      · rw [shL_len hl] at k
        walk_at "sx"
        exact k _ (L2.Same.refl _)
      · walk_at "sx"
        refine ⟨_, rfl, p, rfl, ⟨_, SqT.of hp⟩, fun D hD => lc_tup (K := K) (a := p) (xs := xs) (fun i H' => Same H H' ∧ H' D = some (.lst ((xs.take i).map fun x => V.bl (isI x)))) ⟨Same.new hD, upd_same⟩ (fun i H' _ ⟨s, _⟩ => SqT.of (s _ _ hp)) ?_ ?_⟩
        · rintro i x H' hx ⟨s', hd⟩
          refine s_name ⟨rfl, ?_⟩
          refine s_yes (i_t ?_)
          walk_at "sx"
          refine c_t1 (ni_same s' (mem x (List.mem_of_getElem? hx))) ?_
          refine ⟨_, hd, ?_, Sx.Same.put s' hD, ?_⟩
          · rw [List.length_map, List.length_take]
            exact Nat.lt_of_le_of_lt (Nat.min_le_right _ _) (by show xs.length < 16777216; omega)
          · rw [upd_same, List.take_succ, hx]
            simp
        · rintro H' ⟨s', hd⟩
          rw [List.take_length] at hd
          have hd' : H' D = some (.lst ((xs.map isI).map V.bl)) := by
            rw [hd, List.map_map]
            rfl
          walk_at "sx"
          refine r_all hd' ?_
          walk_at "sx"
          refine i_nb2 (fun ha => ?_) (fun ha => ?_)
          · walk_at "sx"
            rw [not_int ha] at k
            exact k _ s'
          · obtain ⟨x, y, rfl⟩ := two_int hl ha
            have hp' := s' _ _ hp
            walk_at "sx"
            refine i_2 (fun hy => ?_) (fun hy => ?_)
            · walk_at "sx"
              refine r_gcd ?_
              walk_at "sx"
              have e : shL [.int x, .int y] = decide (((Nat.gcd x.natAbs y.natAbs : Nat) : Int) = 1) := by
                show (decide (0 < y) && _) = _
                rw [decide_eq_true hy]
                rfl
              rw [e] at k
              exact k _ s'
            · walk_at "sx"
              have e : shL [.int x, .int y] = false := by
                show (decide (0 < y) && _) = _
                rw [decide_eq_false hy]
                rfl
              rw [e] at k
              exact k _ s'
def spChQ (K : PySem.W.Frag) : Sp := fun vs H Q _ => ∃ v, vs = [v] ∧ CV K H v ∧ ∀ H', Same H H' → Q (.bl (chB H v)) H'
theorem ok_isCh (T : Txt P K mg A) : FnOk P w K mg base CX0 3 A.a_is_chance A.d_is_chance ["value"] (spChQ K) := by
  refine T.F_is_chance.ok sc_is_chance (fun vs H Q E h => ?_) (fun cdv A' outer s H vs Q E hr h => ?_)
  · obtain ⟨v, rfl, _⟩ := h
    rfl
  · obtain ⟨v, rfl, c, k⟩ := h
    have G_is_share := ok_isSh (w := w) (base := base) T
    refine ⟨_, (pss_one (ps_ret (pe_and (pe_call G_is_share (hr.mono (by decide)) rfl T.g_is_share T.F_is_share.kp (B_is_share T) .nil pass0 (pa_cons (pv 0) pa_nil)) (pe_one (pe_chain op_le op_le pe_int (pe_ix ix_seq (pv 0) pe_int (fun _ _ => rfl)) (pe_ix ix_seq (pv 0) pe_int (fun _ _ => rfl))))))), ?_⟩
    walk_at "sx"
    rcases c with ⟨no, nt⟩ | ⟨p, xs, rfl, hp, mem, sz⟩
    · rw [chB_no nt] at k
      refine ⟨v, rfl, .inl ⟨no, fun H1 s1 => ?_⟩⟩
      walk_at "sx"
      exact k H1 s1
    · rw [chB_at hp] at k
      refine ⟨_, rfl, .inr ⟨p, xs, rfl, hp, fun y hy => (mem y hy).1, sz, fun H1 s1 => ?_⟩⟩
      walk_at "sx"
      refine i_b2 (fun hs => ?_) (fun hs => ?_)
      · obtain ⟨a, b, rfl⟩ := shL_int hs
        · have hp1 := s1 _ _ hp
          have e : chL [.int a, .int b] = (decide (0 ≤ a) && decide (a ≤ b)) := by
            show (shL [.int a, .int b] && (decide (0 ≤ a) && decide (a ≤ b))) = _
            rw [hs, Bool.true_and]
          rw [e] at k
          walk_at "sx"
          refine i_2 (fun h0 => ?_) (fun h0 => ?_)
          · rw [decide_eq_true h0, Bool.true_and] at k
            walk_at "sx"
            exact k H1 s1
          · rw [decide_eq_false h0, Bool.false_and] at k
            exact k H1 s1
      · rw [chL_sh hs] at k
        exact k H1 s1
def spChs (K : PySem.W.Frag) : Sp := fun vs H Q _ => ∃ (v : V) (m : Nat), vs = [v, .int m] ∧ GV K H v ∧ ∀ H', Same H H' → Q (.bl (gb H m v)) H'
theorem ok_chs (T : Txt P K mg A) : FnOk P w K mg base CX0 4 A.a_are_chances A.d_are_chances ["value", "many"] (spChs K) := by
  refine T.F_are_chances.ok sc_are_chances (fun vs H Q E h => ?_) (fun cdv A' outer s H vs Q E hr h => ?_)
  · obtain ⟨v, m, rfl, _⟩ := h
    rfl
  · obtain ⟨v, m, rfl, g, k⟩ := h
    have G_is_chance := ok_isCh (w := w) (base := base) T
    refine ⟨_, (pss_one (ps_ret (pe_and (pe_callB (id := "isinstance") (r := rIsiV K) call_isiV (by rfl) T.n_isinstance (by decide +kernel) (pa_cons (pv 0) (pa_cons (pe_bltn (v := .ty "tuple") (u := .type "tuple") (by rfl) T.n_tuple (by decide +kernel) rfl) pa_nil))) (pe_and (pe_cmpR op_eq (pe_callB call_len (by rfl) T.n_len (by decide +kernel) (pa_cons (pv 0) pa_nil)) (pv 1) (nomark _)) (pe_one (pe_callB (cr_all rfl) (by rfl) T.n_all (by decide +kernel) (pa_cons (pe_lc (own := [("member", 2)]) (g := (gName 2)) (by rfl) sc_are_chances.nd (pi_tup (pv 0)) (blkOk_by (own := [("member", 2)]) (N := ["value", "many", "member"]) (sc := defScope s_are_chances) (by decide +kernel)) (fun _ _ _ _ _ => (pg_name (i := 2) sc_are_chances.nd rfl (Or.inl rfl))) (fun _ _ _ _ _ => pts_nil) (fun _ _ _ _ _ => (pe_call G_is_chance (hr.mono (by decide)) rfl T.g_is_chance T.F_is_chance.kp (B_is_chance T) .nil pass0 (pa_cons (pv 2) pa_nil)))) pa_nil))))))), ?_⟩
    walk_at "sx"
    rcases g with ⟨no, nt⟩ | ⟨p, xs, rfl, hp, mem, sz⟩
    · rw [gb_no nt] at k
      refine isi_in no ?_
      walk_at "sx"
      exact k _ (L2.Same.refl _)
    · rw [gb_tup hp] at k
      refine isi_in (in_tup hp) ?_
      walk_at "sx"
      refine ⟨_, _, rfl, .inr ⟨_, SqT.of hp, rfl⟩, ?_⟩
      walk_at "sx"
      refine i_2 (fun hc => ?_) (fun hc => ?_)
      · rw [decide_eq_true hc] at k
        walk_at "sx"
        refine ⟨_, rfl, p, rfl, ⟨_, SqT.of hp⟩, fun D hD => lc_tup (K := K) (a := p) (xs := xs) (fun i H' => Same H H' ∧ H' D = some (.lst ((xs.take i).map fun x => V.bl (chB H x)))) ⟨Same.new hD, upd_same⟩ (fun i H' _ ⟨s, _⟩ => SqT.of (s _ _ hp)) ?_ ?_⟩
        · rintro i x H' hx ⟨s', hD'⟩
          refine s_name ⟨rfl, ?_⟩
          refine s_yes (i_t ?_)
          have cx := mem x (List.mem_of_getElem? hx)
          walk_at "sx"
          refine ⟨x, rfl, cx.same s', fun H2 s2 => ?_⟩
          rw [chB_same s' cx]
          refine ⟨_, s2 _ _ hD', ?_, Sx.Same.put (s'.trans s2) hD, ?_⟩
          · rw [List.length_map, List.length_take]
            exact Nat.lt_of_le_of_lt (Nat.min_le_right _ _) (by show xs.length < 16777216; omega)
          · rw [upd_same, List.take_succ, hx]
            simp
        · rintro H' ⟨s', hD'⟩
          rw [List.take_length] at hD'
          have e : (xs.map fun x => V.bl (chB H x)) = (xs.map (chB H)).map V.bl := by
            rw [List.map_map]
            rfl
          rw [e] at hD'
          have k' := k H' s'
          rw [Bool.true_and, show xs.all (chB H) = (xs.map (chB H)).all id by rw [List.all_map]; rfl] at k'
          walk_at "sx"
          exact r_all hD' k'
      · rw [decide_eq_false hc] at k
        exact k H (L2.Same.refl _)
end
end K35

set_option Elab.async false
set_option linter.all false
set_option maxRecDepth 100000
set_option maxHeartbeats 4000000
namespace K35
open PySem L2 Sx Ct
/-! sums of shares, reduced as one goes or at the end -/
theorem rd_mul {g u l : Int} (hg : 0 < g) (hl : 0 < l) : rdU (g * u) (g * l) = rdU u l ∧ rdL (g * u) (g * l) = rdL u l := by
  have e : sgd (g * u) (g * l) = g * sgd u l := by
    unfold sgd
    rw [if_neg (by have := Int.mul_pos hg hl; omega), if_neg (by omega), Int.natAbs_mul, Int.natAbs_mul, Nat.gcd_mul_left]
    rw [Int.natCast_mul, Int.natAbs_of_nonneg (by omega)]
  unfold rdU rdL
  rw [e]
  exact ⟨Int.mul_fdiv_mul_of_pos _ _ hg, Int.mul_fdiv_mul_of_pos _ _ hg⟩
theorem rd_is {a b : Int} (hb : 0 < b) : ∃ s, 0 < s ∧ a = s * rdU a b ∧ b = s * rdL a b := by
  have hs := sgd_pos (u := a) hb
  obtain ⟨c, ec⟩ := sgd_dvd_u a b
  obtain ⟨d, ed⟩ := sgd_dvd_l a b
  refine ⟨sgd a b, hs, ?_, ?_⟩
  · have e : rdU a b = c := by
      unfold rdU
      rw [show a.fdiv (sgd a b) = (sgd a b * c).fdiv (sgd a b) by rw [← ec], Int.mul_fdiv_cancel_left _ (by omega)]
    rw [e]
    exact ec
  · have e : rdL a b = d := by
      unfold rdL
      rw [show b.fdiv (sgd a b) = (sgd a b * d).fdiv (sgd a b) by rw [← ed], Int.mul_fdiv_cancel_left _ (by omega)]
    rw [e]
    exact ed
abbrev Q2 := Int × Int
def addq (s q : Q2) : Q2 := (s.1 * q.2 + q.1 * s.2, s.2 * q.2)
def flq (q : Q2) : Q2 := (q.2 - q.1, q.2)
theorem rd_add {s q : Q2} (hs : 0 < s.2) (hq : 0 < q.2) : rdU (rdU s.1 s.2 * q.2 + q.1 * rdL s.1 s.2) (rdL s.1 s.2 * q.2) = rdU (addq s q).1 (addq s q).2 ∧ rdL (rdU s.1 s.2 * q.2 + q.1 * rdL s.1 s.2) (rdL s.1 s.2 * q.2) = rdL (addq s q).1 (addq s q).2 := by
  obtain ⟨g, hg, e1, e2⟩ := rd_is (a := s.1) hs
  have hl := rdL_pos (u := s.1) hs
  have z := rd_mul (g := g) (u := rdU s.1 s.2 * q.2 + q.1 * rdL s.1 s.2) (l := rdL s.1 s.2 * q.2) hg (Int.mul_pos hl hq)
  have f1 : (addq s q).1 = g * (rdU s.1 s.2 * q.2 + q.1 * rdL s.1 s.2) := by
    show s.1 * q.2 + q.1 * s.2 = _
    rw [Int.mul_add, ← Int.mul_assoc, ← e1, Int.mul_left_comm g, ← e2]
  have f2 : (addq s q).2 = g * (rdL s.1 s.2 * q.2) := by
    show s.2 * q.2 = _
    rw [← Int.mul_assoc, ← e2]
  rw [f1, f2]
  exact ⟨z.1.symm, z.2.symm⟩
theorem rd_one {u l : Int} (hl : 0 < l) (h : Nat.gcd u.natAbs l.natAbs = 1) : rdU u l = u ∧ rdL u l = l := by
  have e : sgd u l = 1 := by
    unfold sgd
    rw [if_neg (by omega), h]
    rfl
  unfold rdU rdL
  rw [e]
  exact ⟨Int.fdiv_one _, Int.fdiv_one _⟩
theorem gcd_flq {u l : Int} (h0 : 0 ≤ u) (h1 : u ≤ l) (g : Nat.gcd u.natAbs l.natAbs = 1) : Nat.gcd (l - u).natAbs l.natAbs = 1 := by
  obtain ⟨a, rfl⟩ := Int.eq_ofNat_of_zero_le h0
  obtain ⟨b, rfl⟩ := Int.eq_ofNat_of_zero_le (Int.le_trans h0 h1)
  have e : ((b : Int) - (a : Int)).natAbs = b - a := by omega
  rw [e]
  have hab : a ≤ b := by omega
  have g' : Nat.gcd a b = 1 := g
  exact (Nat.gcd_self_sub_left hab).trans g'
def put (U : List Q2) (r : Nat) (q : Q2) : List Q2 := U.set r (addq (U.getD r (0, 1)) q)
def ti (t : List Int) : Nat := (t.getD 0 0).toNat
def tj (t : List Int) : Nat := (t.getD 1 0).toNat
def stepU (U : List Q2) (z : List Int × Q2) : List Q2 := put (put U (ti z.1) z.2) (tj z.1) (flq z.2)
/-- the sums, not reduced, behind the first k ties -/
def UU (m : Nat) (L : List (List Int)) (qs : List Q2) (k : Nat) : List Q2 := ((L.zip qs).take k).foldl stepU (List.replicate m (0, 1))
theorem put_len (U : List Q2) (r : Nat) (q : Q2) : (put U r q).length = U.length := List.length_set
theorem UU_len (m : Nat) (L : List (List Int)) (qs : List Q2) (k : Nat) : (UU m L qs k).length = m := by
  unfold UU
  generalize (L.zip qs).take k = z
  have e : ∀ (z : List (List Int × Q2)) (l : List Q2), (z.foldl stepU l).length = l.length := fun z => by
    induction z with
    | nil => intro l; rfl
    | cons a z ih =>
      intro l
      rw [List.foldl_cons, ih]
      unfold stepU
      rw [put_len, put_len]
  rw [e, List.length_replicate]
theorem UU_succ {m : Nat} {L : List (List Int)} {qs : List Q2} {i : Nat} {t : List Int} {q : Q2} (h1 : L[i]? = some t) (h2 : qs[i]? = some q) : UU m L qs (i + 1) = stepU (UU m L qs i) (t, q) := by
  unfold UU
  have z : (L.zip qs)[i]? = some (t, q) := by
    rw [List.getElem?_zip_eq_some]
    exact ⟨h1, h2⟩
  rw [List.take_succ, z, List.foldl_append]
  rfl
/-- at how many ties r stands -/
def deg (r : Nat) (L : List (List Int)) : Nat := L.countP fun t => decide (ti t = r ∨ tj t = r)
theorem deg_snoc (r : Nat) (L : List (List Int)) (t : List Int) : deg r (L ++ [t]) = deg r L + (if ti t = r ∨ tj t = r then 1 else 0) := by
  unfold deg
  rw [List.countP_append, List.countP_singleton]
  simp
structure Good (U : List Q2) (d : Nat → Nat) : Prop where
  s1 : ∀ r, r < U.length → Sm (51 * d r + 1) (U.getD r (0, 1)).1
  s2 : ∀ r, r < U.length → Sm (51 * d r + 1) (U.getD r (0, 1)).2
  po : ∀ r, r < U.length → 0 < (U.getD r (0, 1)).2
theorem getD_set {U : List Q2} {r x : Nat} {v : Q2} (h : r < U.length) : (U.set r v).getD x (0, 1) = if x = r then v else U.getD x (0, 1) := by
  rw [List.getD_eq_getElem?_getD, List.getElem?_set, List.getD_eq_getElem?_getD]
  by_cases e : r = x
  · subst e
    simp [h]
  · rw [if_neg e, if_neg (fun z => e z.symm)]
theorem Good.put {U : List Q2} {d : Nat → Nat} (G : Good U d) {r : Nat} (h : r < U.length) {q : Q2} (q1 : Sm 50 q.1) (q2 : Sm 50 q.2) (qp : 0 < q.2) : Good (put U r q) (fun x => if x = r then d x + 1 else d x) := by
  have a1 := G.s1 r h
  have a2 := G.s2 r h
  have a3 := G.po r h
  have b1 : Sm (51 * (d r + 1) + 1) (addq (U.getD r (0, 1)) q).1 := ((a1.mul q2).add (q1.mul a2)).mono (by omega)
  have b2 : Sm (51 * (d r + 1) + 1) (addq (U.getD r (0, 1)) q).2 := (a2.mul q2).mono (by omega)
  have b3 : 0 < (addq (U.getD r (0, 1)) q).2 := Int.mul_pos a3 qp
  refine ⟨fun x hx => ?_, fun x hx => ?_, fun x hx => ?_⟩
  all_goals
    rw [put_len] at hx
    unfold K35.put
    rw [getD_set h]
    by_cases e : x = r
    · subst e
      simp only [if_true]
      assumption
    · simp only [if_neg e]
      first
        | exact G.s1 x hx
        | exact G.s2 x hx
        | exact G.po x hx
theorem Good.eq {U : List Q2} {d e : Nat → Nat} (G : Good U d) (h : ∀ r, r < U.length → d r = e r) : Good U e := ⟨fun r hr => h r hr ▸ G.s1 r hr, fun r hr => h r hr ▸ G.s2 r hr, G.po⟩
theorem good_rep (m : Nat) : Good (List.replicate m (0, 1)) (fun _ => 0) := by
  have g : ∀ r, r < (List.replicate m ((0, 1) : Q2)).length → (List.replicate m ((0, 1) : Q2)).getD r (0, 1) = (0, 1) := fun r hr => by
    rw [List.length_replicate] at hr
    simp [List.getD_eq_getElem?_getD, List.getElem?_replicate, hr]
  refine ⟨fun r hr => ?_, fun r hr => ?_, fun r hr => ?_⟩
  all_goals rw [g r hr]
  · exact sm_0
  · exact sm_1
  · exact (by decide : (0 : Int) < 1)
/-- chances that may be taken -/
def Qok (q : Q2) : Prop := 0 < q.2 ∧ Nat.gcd q.1.natAbs q.2.natAbs = 1 ∧ 0 ≤ q.1 ∧ q.1 ≤ q.2 ∧ Sm 50 q.1 ∧ Sm 50 q.2
theorem Qok.fl {q : Q2} (h : Qok q) : Qok (flq q) := by
  obtain ⟨a, b, c, d, e, f⟩ := h
  refine ⟨a, gcd_flq c d b, Int.sub_nonneg_of_le d, ?_, ?_, f⟩
  · show q.2 - q.1 ≤ q.2
    omega
  · refine f.le ?_
    show (q.2 - q.1).natAbs ≤ q.2.natAbs
    omega
theorem good_step {U : List Q2} {d : Nat → Nat} {t : List Int} {q : Q2} (G : Good U d) (hi : ti t < U.length) (hj : tj t < U.length) (ne : ti t ≠ tj t) (hq : Qok q) : Good (stepU U (t, q)) (fun r => d r + (if ti t = r ∨ tj t = r then 1 else 0)) := by
  have f := hq.fl
  have G1 := G.put hi hq.2.2.2.2.1 hq.2.2.2.2.2 hq.1
  have G2 := G1.put (r := tj t) (by rw [put_len]; exact hj) f.2.2.2.2.1 f.2.2.2.2.2 f.1
  refine G2.eq fun r hr => ?_
  by_cases e1 : r = ti t
  · have e2 : r ≠ tj t := fun e => ne (e1.symm.trans e)
    rw [if_neg e2, if_pos e1, if_pos (.inl e1.symm)]
  · by_cases e2 : r = tj t
    · rw [if_pos e2, if_neg e1, if_pos (.inr e2.symm)]
    · rw [if_neg e2, if_neg e1, if_neg (fun z => z.elim (fun h => e1 h.symm) (fun h => e2 h.symm)), Nat.add_zero]
/-- where a tie stands -/
theorem tie_at {n : Nat} {ns : List Nat} {t : List Int} (nd : ns.Nodup) (h : Tie n ns t) : ∃ i j p a : Nat, t = [(i : Int), (j : Int), (p : Int)] ∧ ti t = i ∧ tj t = j ∧ i < ns.length ∧ j < ns.length ∧ i ≠ j ∧ p < n ∧ ns[i]? = some a ∧ a / 2 ^ (n - 1 - p) % 2 = 0 ∧ ns[j]? = some (a + 2 ^ (n - 1 - p)) := by
  obtain ⟨i, j, p, a, rfl, b1, b2, b3, b4⟩ := h
  refine ⟨i, j, p, a, rfl, by simp [ti], by simp [tj], (List.getElem?_eq_some_iff.mp b2).1, (List.getElem?_eq_some_iff.mp b4).1, fun e => ?_, b1, b2, b3, b4⟩
  subst e
  rw [b2] at b4
  have : 0 < 2 ^ (n - 1 - p) := Nat.pow_pos (by decide)
  injection b4 with b4
  omega
theorem good_UU {n : Nat} {ns : List Nat} {L : List (List Int)} {qs : List Q2} (nd : ns.Nodup) (tL : ∀ t ∈ L, Tie n ns t) (hq : ∀ q ∈ qs, Qok q) (len : qs.length = L.length) : ∀ k, k ≤ L.length → Good (UU ns.length L qs k) (fun r => deg r (L.take k))
  | 0, _ => by
    have e : UU ns.length L qs 0 = List.replicate ns.length (0, 1) := by
      unfold UU
      rw [List.take_zero, List.foldl_nil]
    rw [e]
    exact good_rep _
  | k + 1, h => by
    have G := good_UU nd tL hq len k (by omega)
    obtain ⟨t, ht⟩ : ∃ t, L[k]? = some t := ⟨_, List.getElem?_eq_getElem (by omega)⟩
    obtain ⟨q, hq'⟩ : ∃ q, qs[k]? = some q := ⟨_, List.getElem?_eq_getElem (by omega)⟩
    obtain ⟨i, j, p, a, e, e1, e2, l1, l2, ne, _⟩ := tie_at nd (tL t (List.mem_of_getElem? ht))
    rw [UU_succ ht hq']
    refine (good_step G (by rw [UU_len, e1]; exact l1) (by rw [UU_len, e2]; exact l2) (by rw [e1, e2]; exact ne) (hq q (List.mem_of_getElem? hq'))).eq fun r _ => ?_
    rw [List.take_succ, ht]
    exact (deg_snoc r (L.take k) t).symm
/-- at most one tie for each point -/
theorem deg_le {n : Nat} {ns : List Nat} {L : List (List Int)} (nd : ns.Nodup) (ndL : L.Nodup) (tL : ∀ t ∈ L, Tie n ns t) (r k : Nat) : deg r (L.take k) ≤ n := by
  have z : ∀ M : List (List Int), M.Nodup → (∀ t ∈ M, Tie n ns t) → (∀ t ∈ M, ti t = r ∨ tj t = r) → M.length ≤ n := by
    intro M nM tM cM
    have h1 : (M.map fun t => (t.getD 2 0).toNat).Nodup := by
      refine List.pairwise_map.mpr (List.Pairwise.imp_of_mem ?_ nM)
      intro s t hs ht ne e
      apply ne
      obtain ⟨i, j, p, a, rfl, a1, a2, a3, a4, a5, a6, a7, a8, a9⟩ := tie_at nd (tM s hs)
      obtain ⟨i', j', p', a', rfl, b1, b2, b3, b4, b5, b6, b7, b8, b9⟩ := tie_at nd (tM t ht)
      have ep : p = p' := by simpa using e
      subst ep
      have cs := cM _ hs
      have ct := cM _ ht
      rw [a1, a2] at cs
      rw [b1, b2] at ct
      have p0 : 0 < 2 ^ (n - 1 - p) := Nat.pow_pos (by decide)
      have idx : ∀ {x y c : Nat}, ns[x]? = some c → ns[y]? = some c → x = y := fun {x y c} hx hy => by
        obtain ⟨lx, ex⟩ := List.getElem?_eq_some_iff.mp hx
        obtain ⟨ly, ey⟩ := List.getElem?_eq_some_iff.mp hy
        rcases Nat.lt_trichotomy x y with l | l | l
        · exact absurd (ex.trans ey.symm) (List.pairwise_iff_getElem.mp nd x y lx ly l)
        · exact l
        · exact absurd (ey.trans ex.symm) (List.pairwise_iff_getElem.mp nd y x ly lx l)
      have odd : ∀ {a : Nat}, a / 2 ^ (n - 1 - p) % 2 = 0 → (a + 2 ^ (n - 1 - p)) / 2 ^ (n - 1 - p) % 2 = 1 := fun {a} h => by
        rw [Nat.add_div_right _ p0]
        omega
      rcases cs with rfl | rfl <;> rcases ct with rfl | rfl
      · rw [a7] at b7
        have ea : a = a' := Option.some.inj b7
        subst ea
        rw [idx a9 b9]
      · exfalso
        rw [a7] at b9
        have ea := Option.some.inj b9
        have := odd b8
        rw [← ea, a8] at this
        cases this
      · exfalso
        rw [b7] at a9
        have ea := Option.some.inj a9
        have := odd a8
        rw [← ea, b8] at this
        cases this
      · rw [a9] at b9
        have ea : a = a' := by
          have := Option.some.inj b9
          omega
        subst ea
        rw [idx a7 b7]
    have h2 := L2.nat_nodup_len _ (List.range n) h1 fun x hx => by
      obtain ⟨t, ht, rfl⟩ := List.mem_map.mp hx
      obtain ⟨i, j, p, a, rfl, _, _, _, _, _, hp, _⟩ := tie_at nd (tM t ht)
      refine List.mem_range.mpr ?_
      show (Int.toNat (p : Int)) < n
      rw [Int.toNat_natCast]
      exact hp
    rw [List.length_map, List.length_range] at h2
    exact h2
  unfold deg
  rw [List.countP_eq_length_filter]
  refine z _ ?_ (fun t ht => ?_) fun t ht => ?_
  · exact ((List.take_sublist k L).nodup ndL).filter _
  · exact tL t (List.mem_of_mem_take (List.mem_filter.mp ht).1)
  · exact of_decide_eq_true (List.mem_filter.mp ht).2
end K35

set_option Elab.async false
set_option linter.all false
set_option maxRecDepth 100000
set_option maxHeartbeats 4000000
namespace K35
open PySem L2 Sx Ct RZ
local macro_rules | `(tactic| walk_at "cond") => `(tactic| first
  | assumption
  | decide
  | exact c_mul_r (by first | decide | omega) (by first | decide | omega)
  | exact c_mul_l (by first | decide | omega) (by first | decide | omega)
  | exact c_div (by first | decide | omega) (by first | decide | omega)
  | exact c_pow (by first | decide | omega) (by first | decide | omega) (by first | decide | omega)
  | omega)
local macro_rules | `(tactic| walk_at "ne") => `(tactic| first
  | assumption
  | (refine Ne.symm ?_; assumption)
  | (refine' Flow.ne ?nh ?nn; (case nn => assumption); (case nh => walk_at "fl"))
  | (refine Ne.symm ?_; refine' Flow.ne ?nh ?nn; (case nn => assumption); (case nh => walk_at "fl"))
  | (refine' ne_of_none ?nh ?nn; (case nn => assumption); (case nh => walk_at "at"))
  | (refine Ne.symm ?_; refine' ne_of_none ?nh ?nn; (case nn => assumption); (case nh => walk_at "at")))
local macro_rules | `(tactic| walk_at "at") => `(tactic| first
  | assumption
  | (refine Same.up (by assumption) ?_; walk_at "at")
  | (refine Keep.up (by assumption) (by walk_at "ne") ?_; walk_at "at"))
local macro_rules | `(tactic| walk_at "fl") => `(tactic| first
  | assumption
  | (refine Flow.same (by assumption) ?_; walk_at "fl")
  | (refine Flow.keep (by assumption) (by walk_at "ne") ?_; walk_at "fl"))
local macro_rules | `(tactic| walk_at "fr") => `(tactic| first
  | assumption
  | (refine same_free (by assumption) ?_; walk_at "fr")
  | (refine Keep.free (by assumption) (by walk_at "ne") ?_; walk_at "fr"))
local macro_rules | `(tactic| walk_at "kp") => `(tactic| first
  | assumption
  | exact Keep.refl _ _
  | (refine Keep.trans ?_ (by assumption); walk_at "kp")
  | (refine Keep.trans ?_ (Keep.same (by assumption)); walk_at "kp"))
local macro_rules | `(tactic| walk_at "sm") => `(tactic| first
  | assumption
  | exact L2.Same.refl _
  | (refine L2.Same.trans ?_ (by assumption); walk_at "sm"))
local macro_rules | `(tactic| walk_at "sz") => `(tactic| first | exact Nat.le_of_ble_eq_true rfl | omega)
local macro_rules | `(tactic| walk_at "new") => `(tactic| (intro p np; generalize hE : upd _ p _ = H2; have s2 := new_same np hE; have h2 := new_at hE; clear hE))
local macro_rules | `(tactic| walk_at "newx") => `(tactic| (intro e d na nd hda; generalize hE : upd (upd _ d _) e _ = H2; have s2 := newx_same na nd hE; have h2 := newx_at hE; have h3 := newx_d hda hE; clear hE))
local macro_rules | `(tactic| walk_at "s1") => `(tactic| first
  | with_reducible refine s_seq ?_
  | with_reducible refine s_asg ?_
  | with_reducible refine s_name ?_
  | with_reducible refine s_ret ?_
  | with_reducible refine s_c ?_
  | ((with_reducible refine' s_var ?hv ?_); (case hv => rfl))
  | with_reducible refine s_op ?_
  | with_reducible refine s_un ?_
  | with_reducible refine s_ifS ?_
  | with_reducible refine s_cb ?_
  | with_reducible refine s_cons ?_
  | with_reducible refine s_nil ?_
  | with_reducible refine s_call ?_
  | with_reducible refine s_test ?_
  | with_reducible refine s_tB ?_
  | with_reducible refine s_bl ?_
  | with_reducible refine s_and ?_
  | with_reducible refine s_or ?_
  | with_reducible refine s_not ?_
  | with_reducible refine s_andV ?_
  | with_reducible refine s_orV ?_
  | with_reducible refine s_notV ?_
  | with_reducible refine s_blV ?_
  | with_reducible refine s_if ?_
  | with_reducible refine s_tup ?_
  | with_reducible refine s_lst ?_
  | with_reducible refine s_drop ?_
  | with_reducible refine s_next ?_
  | with_reducible refine s_sub ?_
  | with_reducible refine s_bm ?_
  | with_reducible refine s_callK ?_
  | with_reducible refine s_brk ?_
  | with_reducible refine s_cont ?_
  | with_reducible refine r_I0 ?_
  | with_reducible refine r_U ?_
  | with_reducible refine r_eqI ?_
  | with_reducible refine r_neI ?_
  | with_reducible refine r_isB ?_
  | with_reducible refine r_notB ?_
  | with_reducible refine i_t ?_
  | with_reducible refine i_f ?_
  | with_reducible refine i_nt ?_
  | with_reducible refine i_nf ?_
  | ((with_reducible refine' r_I ?hc ?_); (case hc => walk_at "cond"))
  | (with_reducible refine .inl ⟨_, rfl, ?_⟩)
  | (with_reducible refine ⟨_, rfl, ?_⟩)
  | ((with_reducible refine' r_ixL ?hx ?ha ?_); (case hx => walk_at "at"); (case ha => rfl))
  | ((with_reducible refine' r_ixT ?hx ?ha ?_); (case hx => walk_at "at"); (case ha => rfl))
  | ((with_reducible refine' r_setL ?hx ?ha ?_); (case hx => walk_at "at"); (case ha => rfl); intro H2 k2 h2; (try dsimp only [List.set, Int.toNat] at h2))
  | ((with_reducible refine' r_app ?hx ?hl ?_); (case hx => walk_at "at"); (case hl => first | exact Nat.lt_of_ble_eq_true rfl | omega); intro H2 k2 h2)
  | ((with_reducible refine' ty_list ?hx ?_); (case hx => walk_at "at"))
  | (refine And.intro (by (with_reducible show _ ≤ sizeLine); walk_at "sz") ?_; walk_at "new")
  | with_reducible refine s_exv ?_
  | walk_at "newx")
local macro_rules | `(tactic| walk_at "sx") => `(tactic| repeat (walk_at "s1"))
local macro_rules | `(tactic| walk_at "s2") => `(tactic| first
  | ((with_reducible refine' r_ixG ?hx ?hn ?_); (case hx => walk_at "at"); (case hn => omega))
  | ((with_reducible refine' r_ixGT ?hx ?hn ?_); (case hx => walk_at "at"); (case hn => omega))
  | (with_reducible refine ig_cons (fun hix => ?_) (fun hix => ?_))
  | ((with_reducible refine ig_nil ?_); omega)
  | ((with_reducible refine' i_T ?hc ?_); (case hc => omega))
  | ((with_reducible refine' i_F ?hc ?_); (case hc => omega))
  | (with_reducible refine i_2 (fun hc => ?_) (fun hc => ?_))
  | (with_reducible refine i_n2 (fun hc => ?_) (fun hc => ?_)))
local macro_rules | `(tactic| walk_at "go") => `(tactic| repeat' (first | walk_at "s1" | walk_at "s2"))

local macro_rules | `(tactic| walk_at "s1") => `(tactic| first
  | with_reducible refine s_chain ?_
  | with_reducible refine s_fldS ?_
  | with_reducible refine s_fld ?_
  | with_reducible refine s_dIn ?_
  | with_reducible refine s_dNotIn ?_
  | with_reducible refine s_sl ?_
  | with_reducible refine s_noPart ?_
  | with_reducible refine s_part ?_
  | with_reducible refine s_meth ?_
  | with_reducible refine s_make ?_)

section
variable {P : Program} {w : World} {K : PySem.W.Frag} {mg : Str → Option Value} {base : Heap} {A : Ad}
/-- what one asks of -/
structure Of1 (C : Addr) (H : Hp) (x : Addr) (n : Nat) (ns : List Nat) (L : List (List Int)) : Prop where
  R : Rn C H x n ns
  N : Nums n ns
  few : ns.length ≤ 24
  sn : n ≤ 6
  t : Ties n ns L
theorem Of1.same {C : Addr} {H H' : Hp} {x : Addr} {n : Nat} {ns : List Nat} {L : List (List Int)} (e : Same H H') (h : Of1 C H x n ns L) : Of1 C H' x n ns L := ⟨h.R.same e, h.N, h.few, h.sn, h.t⟩
def spDr (K : PySem.W.Frag) (C : Addr) : Sp := fun vs H Q _ => ∃ (x : Addr) (v : V) (n : Nat) (ns : List Nat) (L : List (List Int)), vs = [.ref x, v] ∧ Of1 C H x n ns L ∧ GV K H v ∧ ∀ H', Same H H' → Q (.bl (gb H L.length v)) H'
theorem ok_isDr (T : Txt P K mg A) : FnOk P w K mg base CX0 5 A.a_is_drawn A.d_is_drawn ["rules", "value"] (spDr K A.c_Rules) := by
  refine T.F_is_drawn.ok sc_is_drawn (fun vs H Q E h => ?_) (fun cdv A' outer s H vs Q E hr h => ?_)
  · obtain ⟨x, v, n, ns, L, rfl, _⟩ := h
    rfl
  · obtain ⟨x, v, n, ns, L, rfl, o, g, k⟩ := h
    have G_ties_of := ok_ties (w := w) (base := base) T
    have G_are_chances := ok_chs (w := w) (base := base) T
    have sn := o.sn
    have few := o.few
    refine ⟨_, (pss_one (ps_ret (pe_call G_are_chances (hr.mono (by decide)) rfl T.g_are_chances T.F_are_chances.kp (B_are_chances T) .nil pass0 (pa_cons (pv 1) (pa_cons (pe_callB call_len (by rfl) T.n_len (by decide +kernel) (pa_cons (pe_call G_ties_of (hr.mono (by decide)) rfl T.g_ties_of T.F_ties_of.kp (B_ties_of T) .nil pass0 (pa_cons (pv 0) pa_nil)) pa_nil)) pa_nil))))), ?_⟩
    walk_at "sx"
    refine ⟨x, n, ns, rfl, o.R, o.N, o.few, by omega, fun t qs H1 s1 ht tq tt => ?_⟩
    have eL : qs.map (·.2) = L := Ties.eq (by omega) (by omega) tt o.t
    have lL : qs.length = L.length := by rw [← eL, List.length_map]
    walk_at "sx"
    refine ⟨_, _, rfl, .inr ⟨_, SqT.of ht, rfl⟩, ?_⟩
    walk_at "sx"
    rw [List.length_map, lL]
    refine ⟨v, _, rfl, g.same s1, fun H2 s2 => ?_⟩
    rw [gb_same s1 g]
    exact k H2 (s1.trans s2)
def spDem (K : PySem.W.Frag) (C CI : Addr) : Sp := fun vs H Q E => ∃ (x : Addr) (v : V) (n : Nat) (ns : List Nat) (L : List (List Int)), vs = [.ref x, v] ∧ Of1 C H x n ns L ∧ GV K H v ∧
  (gb H L.length v = false → ∀ e H', Same H H' → H' e = none → E (.ref CI) (some e) (upd H' e (.xd [("value", v)]))) ∧ (gb H L.length v = true → ∀ H', Same H H' → Q .non H')
theorem ok_dem (T : Txt P K mg A) : FnOk P w K mg base (L2N.CX P w) 6 A.a_demand_drawn A.d_demand_drawn ["rules", "drawn"] (spDem K A.c_Rules A.c_InvalidGuess) := by
  refine T.F_demand_drawn.okN sc_demand_drawn (fun vs H Q E h => ?_) (fun cdv A' outer s H vs Q E hr h => ?_)
  · obtain ⟨x, v, n, ns, L, rfl, _⟩ := h
    rfl
  · obtain ⟨x, v, n, ns, L, rfl, o, g, k1, k2⟩ := h
    have G_is_drawn := ok_isDr (w := w) (base := base) T
    refine ⟨_, (pss_one (ps_if (pt_not (pt_val (pe_call G_is_drawn (hr.mono (by decide)) rfl T.g_is_drawn T.F_is_drawn.kp (B_is_drawn T) .nil pass0 (pa_cons (pv 0) (pa_cons (pv 1) pa_nil))))) (pss_one (Sup_value.ps_raiseSupN rfl T.X_InvalidGuess hr (L2N.takes_of rfl rfl rfl rfl) (pa_cons (pv 1) pa_nil))) pss_nil)), ?_⟩
    walk_at "sx"
    refine ⟨x, v, n, ns, L, rfl, o, g, fun H1 s1 => ?_⟩
    walk_at "sx"
    refine i_nb2 (fun hc => ?_) (fun hc => ?_)
    · exact ⟨_, rfl, _, rfl, fun e he => k1 hc e H1 s1 he⟩
    · walk_at "sx"
      exact k2 hc H1 s1
/-- the sums as the program keeps them -/
structure Ss (H : Hp) (ss : List Addr) (U : List Q2) (d : Nat → Nat) : Prop where
  len : ss.length = U.length
  at_ : ∀ r s, ss[r]? = some s → Sh (51 * d r + 1) H s (rdU (U.getD r (0, 1)).1 (U.getD r (0, 1)).2) (rdL (U.getD r (0, 1)).1 (U.getD r (0, 1)).2)
theorem Ss.same {H H' : Hp} {ss : List Addr} {U : List Q2} {d : Nat → Nat} (e : Same H H') (h : Ss H ss U d) : Ss H' ss U d := ⟨h.len, fun r s hs => (h.at_ r s hs).same e⟩
theorem Sh.keepL {n : Nat} {H H' : Hp} {p a : Addr} {x y : Int} {xs : List V} (e : Keep a H H') (hl : H a = some (.lst xs)) (s : Sh n H p x y) : Sh n H' p x y := s.up fun o h => e _ _ (ne_of s.at_ hl fun z => nomatch z) h
theorem Ss.keep {H H' : Hp} {ss : List Addr} {U : List Q2} {d : Nat → Nat} {a : Addr} {xs : List V} (e : Keep a H H') (hl : H a = some (.lst xs)) (h : Ss H ss U d) : Ss H' ss U d := ⟨h.len, fun r s hs => (h.at_ r s hs).keepL e hl⟩
theorem Ss.put {H : Hp} {ss : List Addr} {U : List Q2} {d : Nat → Nat} (h : Ss H ss U d) {r : Nat} {p : Addr} {q : Q2} (hr : r < U.length) (sh : Sh (51 * (d r + 1) + 1) H p (rdU (addq (U.getD r (0, 1)) q).1 (addq (U.getD r (0, 1)) q).2) (rdL (addq (U.getD r (0, 1)) q).1 (addq (U.getD r (0, 1)) q).2)) :
    Ss H (ss.set r p) (K35.put U r q) (fun x => if x = r then d x + 1 else d x) := by
  refine ⟨by rw [List.length_set, put_len, h.len], fun x s hs => ?_⟩
  unfold K35.put
  rw [getD_set hr]
  rw [List.getElem?_set] at hs
  by_cases e : x = r
  · subst e
    rw [if_pos rfl, if_pos (by rw [h.len]; exact hr)] at hs
    cases hs
    simp only [if_true]
    exact sh
  · rw [if_neg (fun z => e z.symm)] at hs
    simp only [if_neg e]
    exact h.at_ x s hs
theorem Ss.eq {H : Hp} {ss : List Addr} {U : List Q2} {d e : Nat → Nat} (h : Ss H ss U d) (f : ∀ r, d r = e r) : Ss H ss U e := ⟨h.len, fun r s hs => by
  rw [← f r]
  exact h.at_ r s hs⟩
theorem put_get {U : List Q2} {r : Nat} {q : Q2} (h : r < U.length) : (K35.put U r q).getD r (0, 1) = addq (U.getD r (0, 1)) q := by
  unfold K35.put
  rw [getD_set h, if_pos rfl]
theorem ix_in {n j : Nat} (h : j < n) : ixN n (j : Int) = some j := by
  unfold ixN
  rw [if_pos (Int.natCast_nonneg j), if_pos (by omega), Int.toNat_natCast]
theorem sh_11 {H : Hp} {p : Addr} (h : H p = some (.tup [.int 1, .int 1])) : Sh 1 H p 1 1 := ⟨h, sm_1, sm_1, by decide⟩
def Chq (cs : List (Addr × Q2)) : List Q2 := cs.map (·.2)
theorem qok_of {H : Hp} {cs : List (Addr × Q2)} (h : ChsAt H cs) : ∀ q ∈ Chq cs, Qok q := fun q hq => by
  obtain ⟨z, hz, rfl⟩ := List.mem_map.mp hq
  have c := h z hz
  exact ⟨c.po, c.g1, c.lo, c.hi, c.sm.1, c.sm.2⟩
def spSums (C : Addr) : Sp := fun vs H Q _ => ∃ (x wl d one : Addr) (n : Nat) (ns : List Nat) (L : List (List Int)) (cs : List (Addr × Q2)), vs = [.ref x, .ref wl, .ref d] ∧ Of1 C H x n ns L ∧ H wl = some (.lst (List.replicate n (.ref one))) ∧ H one = some (.tup [.int 1, .int 1]) ∧
  H d = some (.tup (cs.map cf)) ∧ ChsAt H cs ∧ cs.length = L.length ∧ ∀ (t : Addr) (ss : List Addr) H', Same H H' → H' t = some (.tup (ss.map V.ref)) → Ss H' ss (UU ns.length L (Chq cs) L.length) (fun r => deg r L) → Q (.ref t) H'
theorem ok_sums (T : Txt P K mg A) : FnOk P w K mg base CX0 6 A.a_sums_of A.d_sums_of ["rules", "weights", "drawn"] (spSums A.c_Rules) := by
  refine T.F_sums_of.ok sc_sums_of (fun vs H Q E h => ?_) (fun cdv A' outer s H vs Q E hr h => ?_)
  · obtain ⟨x, wl, d, one, n, ns, L, cs, rfl, _⟩ := h
    rfl
  · obtain ⟨x, wl, d, one, n, ns, L, cs, rfl, o, hw, h1, hd, hc, lc, k⟩ := h
    have G_ties_of := ok_ties (w := w) (base := base) T
    have G_Rules____len__ := ok_len (w := w) (base := base) T
    have G_plus := ok_plus (w := w) (base := base) T
    have G_less := ok_less (w := w) (base := base) T
    have G_times := ok_times (w := w) (base := base) T
    have R := o.R
    have sn := o.sn
    have few := o.few
    have tL := o.t
    have nd : ns.Nodup := o.N.asc.imp fun h => Nat.ne_of_lt h
    have qk := qok_of hc
    have lq : (Chq cs).length = L.length := by
      unfold Chq
      rw [List.length_map, lc]
    have dl := fun r k => deg_le nd tL.nd (fun t ht => (tL.mem t).mp ht) r k
    refine ⟨_, (pss_cons (ps_set (i := 3) sc_sums_of.nd rfl (Or.inl rfl) (pe_op op_rep (pe_lst (pa_cons (pe_tup (pa_cons pe_int (pa_cons pe_int pa_nil))) pa_nil)) (pe_callB (call_lenO G_Rules____len__ (hr.mono (by decide)) T.sp_Rules___len__.1 T.sp_Rules___len__.2 (B_Rules____len__ T) pass0) (by rfl) T.n_len (by decide +kernel) (pa_cons (pv 0) pa_nil))))
  (pss_cons (ps_for PassesOwn.never rfl (pi_zipA (by rfl) T.n_zip (pa_cons (pe_call G_ties_of (hr.mono (by decide)) rfl T.g_ties_of T.F_ties_of.kp (B_ties_of T) .nil pass0 (pa_cons (pv 0) pa_nil)) (pa_cons (pv 2) pa_nil))) (pg_tup rfl (pgs_cons (pg_tup rfl (pgs_cons (pg_name (i := 4) sc_sums_of.nd rfl (Or.inl rfl)) (pgs_cons (pg_name (i := 5) sc_sums_of.nd rfl (Or.inl rfl)) (pgs_cons (pg_name (i := 6) sc_sums_of.nd rfl (Or.inl rfl)) pgs_nil)))) (pgs_cons (pg_name (i := 7) sc_sums_of.nd rfl (Or.inl rfl)) pgs_nil)))
  (pss_cons (ps_asg (pe_call G_plus (hr.mono (by decide)) rfl T.g_plus T.F_plus.kp (B_plus T) .nil pass0 (pa_cons (pe_ix ix_seq (pv 3) (pv 4) (fun _ _ => rfl)) (pa_cons (pe_call G_times (hr.mono (by decide)) rfl T.g_times T.F_times.kp (B_times T) .nil pass0 (pa_cons (pe_ix ix_seq (pv 1) (pv 6) (fun _ _ => rfl)) (pa_cons (pv 7) pa_nil))) pa_nil))) (pg_sub (pv 3) (pv 4) set_list))
  (pss_one (ps_asg (pe_call G_plus (hr.mono (by decide)) rfl T.g_plus T.F_plus.kp (B_plus T) .nil pass0 (pa_cons (pe_ix ix_seq (pv 3) (pv 5) (fun _ _ => rfl)) (pa_cons (pe_call G_times (hr.mono (by decide)) rfl T.g_times T.F_times.kp (B_times T) .nil pass0 (pa_cons (pe_ix ix_seq (pv 1) (pv 6) (fun _ _ => rfl)) (pa_cons (pe_call G_less (hr.mono (by decide)) rfl T.g_less T.F_less.kp (B_less T) .nil pass0 (pa_cons (pe_tup (pa_cons pe_int (pa_cons pe_int pa_nil))) (pa_cons (pv 7) pa_nil))) pa_nil))) pa_nil))) (pg_sub (pv 3) (pv 5) set_list)))))
  (pss_one (ps_ret (pe_callTy call_tuple_of (by rfl) T.n_tuple (by decide +kernel) (pa_cons (pv 3) pa_nil)))))), ?_⟩
    obtain ⟨ks, ru, ek⟩ := id R
    obtain ⟨dx, t0, kn, hx1, _⟩ := id ru
    have lk : ks.length = ns.length := by simpa using congrArg List.length ek
    walk_at "sx"
    rename_i p0 np0 H1 s1 g1 p1 np1 H2 s2 h2
    refine ⟨x, dx, _, rfl, (s1.trans s2) _ _ hx1, x, n, ks, rfl, ru.same (s1.trans s2), ks.length, rfl, by omega, ?_⟩
    refine ⟨p1, _, _, rfl, rfl, h2, by omega, by omega, by simp; rw [sizeLine_eq]; omega, fun pm npm => ?_⟩
    generalize hE : upd H2 pm _ = H3
    have s3 := new_same npm hE
    have g3 : H3 pm = some (.lst ((List.replicate ns.length p0).map V.ref)) := by
      rw [new_at hE, lk, Int.toNat_natCast, List.map_replicate]
      congr 2
      have z : ∀ m : Nat, (List.replicate m [V.ref p0]).flatten = List.replicate m (V.ref p0) := fun m => by
        induction m with
        | zero => rfl
        | succ m ih => rw [List.replicate_succ, List.flatten_cons, ih, List.replicate_succ]; rfl
      exact z _
    clear hE
    have s03 := s1.trans (s2.trans s3)
    have npm0 : H pm = none := Same.free (s1.trans s2) npm
    have S3 : Ss H3 (List.replicate ns.length p0) (UU ns.length L (Chq cs) 0) (fun r => deg r (L.take 0)) := by
      refine ⟨by rw [List.length_replicate, UU_len], fun r s hs => ?_⟩
      rw [List.getElem?_replicate] at hs
      split at hs
      · rename_i lr
        cases hs
        have e : (UU ns.length L (Chq cs) 0).getD r (0, 1) = (0, 1) := by
          unfold UU
          rw [List.take_zero, List.foldl_nil]
          simp [List.getD_eq_getElem?_getD, List.getElem?_replicate, lr]
        rw [e]
        have e1 : rdU 0 1 = 0 := rfl
        have e2 : rdL 0 1 = 1 := rfl
        show Sh _ _ _ (rdU 0 1) (rdL 0 1)
        rw [e1, e2, List.take_zero]
        exact ⟨(s2.trans s3) _ _ g1, sm_0, sm_1, by decide⟩
      · cases hs
    walk_at "sx"
    refine ⟨_, rfl, x, n, ns, rfl, R.same s03, o.N, few, by omega, fun t qs H4 s4 ht tq tt => ?_⟩
    have eL : qs.map (·.2) = L := Ties.eq (by omega) (by omega) tt tL
    have lL : qs.length = L.length := by rw [← eL, List.length_map]
    have s04 := s03.trans s4
    have hd4 := s04 _ _ hd
    have hw4 := s04 _ _ hw
    have h14 := s04 _ _ h1
    have hc4 := hc.same s04
    have hm4 : True → H4 pm = some (.lst ((List.replicate ns.length p0).map V.ref)) := fun _ => s4 _ _ g3
    have hpt : t ≠ pm := ne_of ht (hm4 trivial) fun e => nomatch e
    have hpd : d ≠ pm := ne_of hd4 (hm4 trivial) fun e => nomatch e
    have hpw : wl ≠ pm := ne_of_none hw npm0
    have hp1 : one ≠ pm := ne_of_none h1 npm0
    refine ⟨_, rfl, t, d, qs.map rf, cs.map cf, rfl, .inr ⟨SqT.of ht, SqT.of hd4, for_zipT (K := K) (a := t) (b := d) (xs := qs.map rf) (ys := cs.map cf) (by simp only [List.length_map]; omega) (fun i σ H' => Keep pm H4 H' ∧ (∃ ss, (True → H' pm = some (.lst (ss.map V.ref))) ∧ Ss H' ss (UU ns.length L (Chq cs) i) (fun r => deg r (L.take i))) ∧ ∃ v4 v5 v6 v7, σ = [some (.ref x), some (.ref wl), some (.ref d), some (.ref pm), v4, v5, v6, v7]) ?_ ?_ ?_ ?_⟩⟩
    · exact ⟨Keep.refl _ _, ⟨_, hm4, S3.same s4⟩, _, _, _, _, rfl⟩
    · rintro i σ H' ⟨kp, _⟩
      exact ⟨SqT.of (kp _ _ hpt ht), SqT.of (kp _ _ hpd hd4)⟩
    · rintro i y z T1 σ H' hy hz ⟨kp, ⟨ss, hm, S⟩, v4, v5, v6, v7, rfl⟩ nT
      obtain ⟨q, hq, rfl⟩ : ∃ q, qs[i]? = some q ∧ rf q = y := by
        rw [List.getElem?_map] at hy
        exact Option.map_eq_some_iff.mp hy
      obtain ⟨c, hcz, rfl⟩ : ∃ c, cs[i]? = some c ∧ cf c = z := by
        rw [List.getElem?_map] at hz
        exact Option.map_eq_some_iff.mp hz
      have hL : L[i]? = some q.2 := by rw [← eL, List.getElem?_map, hq]; rfl
      have hQ : (Chq cs)[i]? = some c.2 := by unfold Chq; rw [List.getElem?_map, hcz]; rfl
      obtain ⟨a1, a2, a3, a, e2, ei, ej, l1, l2, ne12, l3, _⟩ := tie_at nd ((tL.mem q.2).mp (List.mem_of_getElem? hL))
      have hq4 := tq q (List.mem_of_getElem? hq)
      have hqm : q.1 ≠ pm := ne_of hq4 (hm4 trivial) fun e => nomatch e
      have hq' := kp _ _ hqm hq4
      have ch := hc4 c (List.mem_of_getElem? hcz)
      have hcm : c.1 ≠ pm := ne_of ch.at_ (hm4 trivial) fun e => nomatch e
      have hch' := kp _ _ hcm ch.at_
      rw [e2] at hq'
      have U1 := UU_len ns.length L (Chq cs) i
      have qc := qk _ (List.mem_of_getElem? hQ)
      have fc := qc.fl
      have d1 : deg a1 (L.take i) + 1 ≤ n := by
        have z := dl a1 (i + 1)
        rw [List.take_succ, hL] at z
        rw [show deg a1 (L.take i ++ (some q.2).toList) = deg a1 (L.take i ++ [q.2]) from rfl, deg_snoc, if_pos (.inl ei)] at z
        exact z
      have d2 : deg a2 (L.take i) + 1 ≤ n := by
        have z := dl a2 (i + 1)
        rw [List.take_succ, hL] at z
        rw [show deg a2 (L.take i ++ (some q.2).toList) = deg a2 (L.take i ++ [q.2]) from rfl, deg_snoc, if_pos (.inr ej)] at z
        exact z
      generalize hE : upd H' T1 _ = H5
      have s5 := new_same nT hE
      have g5 := new_at hE
      clear hE
      have hm5 := s5 _ _ (hm trivial)
      have S5 := S.same s5
      have hw5 := s5 _ _ (kp _ _ hpw hw4)
      have h15 := s5 _ _ (kp _ _ hp1 h14)
      have shc : Sh 50 H5 c.1 c.2.1 c.2.2 := ⟨s5 _ _ hch', ch.sm.1, ch.sm.2, ch.po⟩
      have ls : ss.length = ns.length := by rw [S.len, U1]
      obtain ⟨x1, hx1'⟩ : ∃ x1, ss[a1]? = some x1 := ⟨_, List.getElem?_eq_getElem (by omega)⟩
      have at1 : atI (ss.map V.ref) (a1 : Int) = some (.ref x1) := atI_nat (by rw [List.getElem?_map, hx1']; rfl)
      have atw : atI (List.replicate n (V.ref one)) (a3 : Int) = some (.ref one) := atI_nat (by rw [List.getElem?_replicate, if_pos l3])
      have one1 : ∀ {u l : Int}, 0 < l → Nat.gcd u.natAbs l.natAbs = 1 → rdU (fT 1 1 u l) (gD 1 1 u l) = u ∧ rdL (fT 1 1 u l) (gD 1 1 u l) = l := fun {u l} h g => by
        have e1 : fT 1 1 u l = u := Int.one_mul u
        have e2 : gD 1 1 u l = l := Int.one_mul l
        rw [e1, e2]
        exact rd_one h g
      have po := (good_UU nd (fun t ht => (tL.mem t).mp ht) qk lq i (by have := (List.getElem?_eq_some_iff.mp hL).1; omega)).po
      refine ⟨T1, _, rfl, SqT.of g5, rfl, _, _, rfl, ?_⟩
      refine ⟨q.1, _, rfl, SqT.of (s5 _ _ hq'), rfl, _, _, rfl, s_name ⟨_, _, rfl, s_name ⟨_, _, rfl, s_name ⟨rfl, ?_⟩⟩⟩⟩
      refine ⟨_, _, rfl, s_name ⟨rfl, ?_⟩⟩
      walk_at "sx"
      refine r_ixL hm5 at1 ?_
      walk_at "sx"
      refine r_ixL hw5 atw ?_
      walk_at "sx"
      have X1 := S5.at_ a1 x1 hx1'
      refine ⟨one, c.1, 1, 50, 1, 1, c.2.1, c.2.2, rfl, sh_11 h15, shc, by omega, fun r6 H6 nr6 s6 h6 => ?_⟩
      rw [(one1 qc.1 qc.2.1).1, (one1 qc.1 qc.2.1).2] at h6
      refine ⟨x1, r6, _, 50, _, _, c.2.1, c.2.2, rfl, X1.same s6, ⟨h6, ch.sm.1, ch.sm.2, ch.po⟩, by omega, fun r7 H7 nr7 s7 h7 => ?_⟩
      have ra := rd_add (s := (UU ns.length L (Chq cs) i).getD a1 (0, 1)) (q := c.2) (po a1 (by omega)) qc.1
      have h7' : Shr H7 r7 (rdU (addq ((UU ns.length L (Chq cs) i).getD a1 (0, 1)) c.2).1 (addq ((UU ns.length L (Chq cs) i).getD a1 (0, 1)) c.2).2) (rdL (addq ((UU ns.length L (Chq cs) i).getD a1 (0, 1)) c.2).1 (addq ((UU ns.length L (Chq cs) i).getD a1 (0, 1)) c.2).2) := by
        rw [← ra.1, ← ra.2]
        exact h7
      clear h7
      have GU := good_UU nd (fun t ht => (tL.mem t).mp ht) qk lq i (by have := (List.getElem?_eq_some_iff.mp hL).1; omega)
      have G1 := GU.put (r := a1) (by omega) qc.2.2.2.2.1 qc.2.2.2.2.2 qc.1
      have lp : (K35.put (UU ns.length L (Chq cs) i) a1 c.2).length = ns.length := by rw [put_len, U1]
      have X7 : Sh (51 * (deg a1 (L.take i) + 1) + 1) H7 r7 (rdU (addq ((UU ns.length L (Chq cs) i).getD a1 (0, 1)) c.2).1 (addq ((UU ns.length L (Chq cs) i).getD a1 (0, 1)) c.2).2) (rdL (addq ((UU ns.length L (Chq cs) i).getD a1 (0, 1)) c.2).1 (addq ((UU ns.length L (Chq cs) i).getD a1 (0, 1)) c.2).2) := by
        have q1 := G1.s1 a1 (by rw [lp]; exact l1)
        have q2 := G1.s2 a1 (by rw [lp]; exact l1)
        have q3 := G1.po a1 (by rw [lp]; exact l1)
        have eg : (K35.put (UU ns.length L (Chq cs) i) a1 c.2).getD a1 (0, 1) = addq ((UU ns.length L (Chq cs) i).getD a1 (0, 1)) c.2 := put_get (by omega)
        rw [eg] at q1 q2 q3
        simp only [if_true] at q1 q2
        exact ⟨h7', rdU_sm (by omega) q1, rdL_sm (by omega) q2, rdL_pos q3⟩
      have hm7 := (s6.trans s7) _ _ hm5
      have S7 := (S5.same (s6.trans s7)).put (r := a1) (p := r7) (q := c.2) (by omega) X7
      walk_at "sx"
      refine r_setL hm7 (ix_in (by rw [List.length_map]; omega)) fun H8 k8 h8 => ?_
      rw [show (ss.map V.ref).set a1 (V.ref r7) = (ss.set a1 r7).map V.ref by rw [List.map_set]] at h8
      have S8 := S7.keep k8 hm7
      have hc7 : Shr H7 c.1 c.2.1 c.2.2 := (s6.trans s7) _ _ shc.at_
      have shc8 : Sh 50 H8 c.1 c.2.1 c.2.2 := ⟨k8 _ _ hcm hc7, ch.sm.1, ch.sm.2, ch.po⟩
      have hw8 := k8 _ _ hpw ((s6.trans s7) _ _ hw5)
      have h18 := k8 _ _ hp1 ((s6.trans s7) _ _ h15)
      have h8' : True → H8 pm = some (.lst ((ss.set a1 r7).map V.ref)) := fun _ => h8
      obtain ⟨x2, hx2'⟩ : ∃ x2, (ss.set a1 r7)[a2]? = some x2 := ⟨_, List.getElem?_eq_getElem (by rw [List.length_set]; omega)⟩
      have at2 : atI ((ss.set a1 r7).map V.ref) (a2 : Int) = some (.ref x2) := atI_nat (by rw [List.getElem?_map, hx2']; rfl)
      have X2 := S8.at_ a2 x2 hx2'
      clear h8 hc7 h15 hw5
      walk_at "sx"
      refine r_ixL (h8' trivial) at2 ?_
      walk_at "sx"
      refine r_ixL hw8 atw ?_
      walk_at "sx"
      rename_i po9 npo9 H9 s9 g9
      have el : fM 1 1 c.2.1 c.2.2 = (flq c.2).1 := by
        show 1 * c.2.2 - c.2.1 * 1 = c.2.2 - c.2.1
        rw [Int.one_mul, Int.mul_one]
      have em : gD 1 1 c.2.1 c.2.2 = (flq c.2).2 := Int.one_mul _
      refine ⟨po9, c.1, 1, 50, 1, 1, c.2.1, c.2.2, rfl, sh_11 g9, shc8.same s9, by omega, fun r10 H10 nr10 s10 h10 => ?_⟩
      rw [el, em, (rd_one fc.1 fc.2.1).1, (rd_one fc.1 fc.2.1).2] at h10
      refine ⟨one, r10, 1, 50, 1, 1, (flq c.2).1, (flq c.2).2, rfl, sh_11 ((s9.trans s10) _ _ h18), ⟨h10, fc.2.2.2.2.1, fc.2.2.2.2.2, fc.1⟩, by omega, fun r11 H11 nr11 s11 h11 => ?_⟩
      rw [(one1 fc.1 fc.2.1).1, (one1 fc.1 fc.2.1).2] at h11
      have d2' : (if a2 = a1 then deg a2 (L.take i) + 1 else deg a2 (L.take i)) = deg a2 (L.take i) := if_neg (fun e => ne12 e.symm)
      refine ⟨x2, r11, _, 50, _, _, (flq c.2).1, (flq c.2).2, rfl, X2.same (s9.trans (s10.trans s11)), ⟨h11, fc.2.2.2.2.1, fc.2.2.2.2.2, fc.1⟩, by show 51 * (if a2 = a1 then deg a2 (L.take i) + 1 else deg a2 (L.take i)) + 1 + 50 ≤ 355; rw [d2']; omega, fun r12 H12 nr12 s12 h12 => ?_⟩
      have rb := rd_add (s := (K35.put (UU ns.length L (Chq cs) i) a1 c.2).getD a2 (0, 1)) (q := flq c.2) (G1.po a2 (by rw [lp]; exact l2)) fc.1
      have h12' : Shr H12 r12 (rdU (addq ((K35.put (UU ns.length L (Chq cs) i) a1 c.2).getD a2 (0, 1)) (flq c.2)).1 (addq ((K35.put (UU ns.length L (Chq cs) i) a1 c.2).getD a2 (0, 1)) (flq c.2)).2) (rdL (addq ((K35.put (UU ns.length L (Chq cs) i) a1 c.2).getD a2 (0, 1)) (flq c.2)).1 (addq ((K35.put (UU ns.length L (Chq cs) i) a1 c.2).getD a2 (0, 1)) (flq c.2)).2) := by
        rw [← rb.1, ← rb.2]
        exact h12
      clear h12
      have G2 := G1.put (r := a2) (by omega) fc.2.2.2.2.1 fc.2.2.2.2.2 fc.1
      have lp2 : (K35.put (K35.put (UU ns.length L (Chq cs) i) a1 c.2) a2 (flq c.2)).length = ns.length := by rw [put_len, lp]
      have X12 : Sh (51 * ((fun x => if x = a1 then deg x (L.take i) + 1 else deg x (L.take i)) a2 + 1) + 1) H12 r12 (rdU (addq ((K35.put (UU ns.length L (Chq cs) i) a1 c.2).getD a2 (0, 1)) (flq c.2)).1 (addq ((K35.put (UU ns.length L (Chq cs) i) a1 c.2).getD a2 (0, 1)) (flq c.2)).2) (rdL (addq ((K35.put (UU ns.length L (Chq cs) i) a1 c.2).getD a2 (0, 1)) (flq c.2)).1 (addq ((K35.put (UU ns.length L (Chq cs) i) a1 c.2).getD a2 (0, 1)) (flq c.2)).2) := by
        have q1 := G2.s1 a2 (by rw [lp2]; exact l2)
        have q2 := G2.s2 a2 (by rw [lp2]; exact l2)
        have q3 := G2.po a2 (by rw [lp2]; exact l2)
        have eg : (K35.put (K35.put (UU ns.length L (Chq cs) i) a1 c.2) a2 (flq c.2)).getD a2 (0, 1) = addq ((K35.put (UU ns.length L (Chq cs) i) a1 c.2).getD a2 (0, 1)) (flq c.2) := put_get (by rw [lp]; exact l2)
        rw [eg] at q1 q2 q3
        simp only [if_true] at q1 q2
        exact ⟨h12', rdU_sm (by omega) q1, rdL_sm (by omega) q2, rdL_pos q3⟩
      have s812 := s9.trans (s10.trans (s11.trans s12))
      have hm12 := s812 _ _ (h8' trivial)
      have S12 := (S8.same s812).put (r := a2) (p := r12) (q := flq c.2) (by omega) X12
      walk_at "sx"
      refine r_setL hm12 (ix_in (by rw [List.length_map, List.length_set]; omega)) fun H13 k13 h13 => ?_
      rw [show ((ss.set a1 r7).map V.ref).set a2 (V.ref r12) = ((ss.set a1 r7).set a2 r12).map V.ref by simp only [List.map_set]] at h13
      have S13 := S12.keep k13 hm12
      have eU : UU ns.length L (Chq cs) (i + 1) = K35.put (K35.put (UU ns.length L (Chq cs) i) a1 c.2) a2 (flq c.2) := by
        rw [UU_succ hL hQ]
        unfold stepU
        rw [ei, ej]
      refine ⟨kp.trans ((Keep.same (s5.trans (s6.trans s7))).trans (k8.trans ((Keep.same s812).trans k13))), ⟨_, fun _ => h13, ?_⟩, _, _, _, _, rfl⟩
      rw [eU]
      refine S13.eq fun r => ?_
      rw [List.take_succ, hL]
      show _ = deg r (L.take i ++ [q.2])
      rw [deg_snoc, ei, ej]
      by_cases e1 : r = a1
      · have e2 : r ≠ a2 := fun e => ne12 (e1.symm.trans e)
        rw [if_neg e2, if_pos e1, if_pos (.inl e1.symm)]
      · by_cases e2 : r = a2
        · rw [if_pos e2, if_neg e1, if_pos (.inr e2.symm)]
        · rw [if_neg e2, if_neg e1, if_neg (fun z => z.elim (fun h => e1 h.symm) (fun h => e2 h.symm)), Nat.add_zero]
    · rintro σ H' ⟨kp, ⟨ss, hm, S⟩, v4, v5, v6, v7, rfl⟩
      rw [List.length_map, lL, List.take_length] at S
      walk_at "sx"
      refine ⟨pm, _, rfl, .inl ⟨SqL.of (hm trivial), fun t' nt => ?_⟩⟩
      have s' : Same H' (upd H' t' (.tup (ss.map V.ref))) := Same.new nt
      exact k t' ss _ ((Keep.toSame s04 npm0 kp).trans s') upd_same (S.same s')
def spMeans (K : PySem.W.Frag) (C CI : Addr) : Sp := fun vs H Q E => ∃ (x : Addr) (v : V) (n : Nat) (ns : List Nat) (L : List (List Int)), vs = [.ref x, v] ∧ Of1 C H x n ns L ∧ GV K H v ∧
  (gb H L.length v = false → ∀ e H', Same H H' → H' e = none → E (.ref CI) (some e) (upd H' e (.xd [("value", v)]))) ∧
  (∀ p cs, v = .ref p → H p = some (.tup (cs.map cf)) → ChsAt H cs → cs.length = L.length → ∀ (t : Addr) (ss : List Addr) H', Same H H' → H' t = some (.tup (ss.map V.ref)) → Ss H' ss (UU ns.length L (Chq cs) L.length) (fun r => deg r L) → Q (.ref t) H')
theorem ok_means (T : Txt P K mg A) : FnOk P w K mg base (L2N.CX P w) 8 A.a_means_of A.d_means_of ["rules", "drawn"] (spMeans K A.c_Rules A.c_InvalidGuess) := by
  refine T.F_means_of.okN sc_means_of (fun vs H Q E h => ?_) (fun cdv A' outer s H vs Q E hr h => ?_)
  · obtain ⟨x, v, n, ns, L, rfl, _⟩ := h
    rfl
  · obtain ⟨x, v, n, ns, L, rfl, o, g, k1, k2⟩ := h
    have G_demand_drawn := ok_dem (w := w) (base := base) T
    have G_sums_of := ok_sums (w := w) (base := base) T
    have sn := o.sn
    refine ⟨_, (pss_cons (ps_expr (pe_call G_demand_drawn (hr.mono (by decide)) rfl T.g_demand_drawn T.F_demand_drawn.kp (B_demand_drawn T) .nil (L2N.passes_call (L2N.takes_of rfl rfl rfl rfl) (fun _ _ _ _ h => h)) (pa_cons (pv 0) (pa_cons (pv 1) pa_nil))))
  (pss_one (ps_ret (pe_call G_sums_of (hr.mono (by decide)) rfl T.g_sums_of T.F_sums_of.kp (B_sums_of T) .nil pass0 (pa_cons (pv 0) (pa_cons (pe_op op_rep (pe_lst (pa_cons (pe_tup (pa_cons pe_int (pa_cons pe_int pa_nil))) pa_nil)) (pe_fld (pv 0) rfl)) (pa_cons (pv 1) pa_nil))))))), ?_⟩
    walk_at "sx"
    refine ⟨x, v, n, ns, L, rfl, o, g, k1, fun hc H1 s1 => ?_⟩
    obtain ⟨p, cs, rfl, hp, hcs, lc⟩ := gb_is hc g
    obtain ⟨ks, ru, ek⟩ := id o.R
    obtain ⟨dx, t0, kn, hx1, _⟩ := id ru
    walk_at "sx"
    rename_i p0 np0 H2 s2 g2 p1 np1 H3 s3 g3
    have s13 := s1.trans (s2.trans s3)
    refine r_get rfl (s13 _ _ hx1) T.cl_Rules T.no_Rules_size rfl ?_
    refine ⟨p1, _, _, rfl, rfl, g3, by omega, by omega, by simp; rw [sizeLine_eq]; omega, fun pm npm => ?_⟩
    generalize hE : upd H3 pm _ = H4
    have s4 := new_same npm hE
    have g4 : H4 pm = some (.lst (List.replicate n (V.ref p0))) := by
      rw [new_at hE, Int.toNat_natCast]
      congr 2
      have z : ∀ m : Nat, (List.replicate m [V.ref p0]).flatten = List.replicate m (V.ref p0) := fun m => by
        induction m with
        | zero => rfl
        | succ m ih => rw [List.replicate_succ, List.flatten_cons, ih, List.replicate_succ]; rfl
      exact z _
    clear hE
    have s14 := s13.trans s4
    walk_at "sx"
    refine ⟨x, pm, p, p0, n, ns, L, cs, rfl, o.same s14, g4, (s3.trans s4) _ _ g2, s14 _ _ hp, hcs.same s14, lc, fun t ss H5 s5 ht S => ?_⟩
    exact k2 p cs rfl hp hcs lc t ss H5 (s14.trans s5) ht S
end
end K35

set_option Elab.async false
set_option linter.all false
set_option maxRecDepth 100000
set_option maxHeartbeats 4000000
set_option exponentiation.threshold 2000
namespace K35
open PySem L2 Sx Ct
local macro_rules | `(tactic| walk_at "cond") => `(tactic| first
  | assumption
  | decide
  | exact c_mul_r (by first | decide | omega) (by first | decide | omega)
  | exact c_mul_l (by first | decide | omega) (by first | decide | omega)
  | exact c_div (by first | decide | omega) (by first | decide | omega)
  | exact c_pow (by first | decide | omega) (by first | decide | omega) (by first | decide | omega)
  | omega)
local macro_rules | `(tactic| walk_at "ne") => `(tactic| first
  | assumption
  | (refine Ne.symm ?_; assumption)
  | (refine' Flow.ne ?nh ?nn; (case nn => assumption); (case nh => walk_at "fl"))
  | (refine Ne.symm ?_; refine' Flow.ne ?nh ?nn; (case nn => assumption); (case nh => walk_at "fl"))
  | (refine' ne_of_none ?nh ?nn; (case nn => assumption); (case nh => walk_at "at"))
  | (refine Ne.symm ?_; refine' ne_of_none ?nh ?nn; (case nn => assumption); (case nh => walk_at "at")))
local macro_rules | `(tactic| walk_at "at") => `(tactic| first
  | assumption
  | (refine Same.up (by assumption) ?_; walk_at "at")
  | (refine Keep.up (by assumption) (by walk_at "ne") ?_; walk_at "at"))
local macro_rules | `(tactic| walk_at "fl") => `(tactic| first
  | assumption
  | (refine Flow.same (by assumption) ?_; walk_at "fl")
  | (refine Flow.keep (by assumption) (by walk_at "ne") ?_; walk_at "fl"))
local macro_rules | `(tactic| walk_at "fr") => `(tactic| first
  | assumption
  | (refine same_free (by assumption) ?_; walk_at "fr")
  | (refine Keep.free (by assumption) (by walk_at "ne") ?_; walk_at "fr"))
local macro_rules | `(tactic| walk_at "kp") => `(tactic| first
  | assumption
  | exact Keep.refl _ _
  | (refine Keep.trans ?_ (by assumption); walk_at "kp")
  | (refine Keep.trans ?_ (Keep.same (by assumption)); walk_at "kp"))
local macro_rules | `(tactic| walk_at "sm") => `(tactic| first
  | assumption
  | exact L2.Same.refl _
  | (refine L2.Same.trans ?_ (by assumption); walk_at "sm"))
local macro_rules | `(tactic| walk_at "sz") => `(tactic| first | exact Nat.le_of_ble_eq_true rfl | omega)
local macro_rules | `(tactic| walk_at "new") => `(tactic| (intro p np; generalize hE : upd _ p _ = H2; have s2 := new_same np hE; have h2 := new_at hE; clear hE))
local macro_rules | `(tactic| walk_at "newx") => `(tactic| (intro e d na nd hda; generalize hE : upd (upd _ d _) e _ = H2; have s2 := newx_same na nd hE; have h2 := newx_at hE; have h3 := newx_d hda hE; clear hE))
local macro_rules | `(tactic| walk_at "s1") => `(tactic| first
  | with_reducible refine s_seq ?_
  | with_reducible refine s_asg ?_
  | with_reducible refine s_name ?_
  | with_reducible refine s_ret ?_
  | with_reducible refine s_c ?_
  | ((with_reducible refine' s_var ?hv ?_); (case hv => rfl))
  | with_reducible refine s_op ?_
  | with_reducible refine s_un ?_
  | with_reducible refine s_ifS ?_
  | with_reducible refine s_cb ?_
  | with_reducible refine s_cons ?_
  | with_reducible refine s_nil ?_
  | with_reducible refine s_call ?_
  | with_reducible refine s_test ?_
  | with_reducible refine s_tB ?_
  | with_reducible refine s_bl ?_
  | with_reducible refine s_and ?_
  | with_reducible refine s_or ?_
  | with_reducible refine s_not ?_
  | with_reducible refine s_andV ?_
  | with_reducible refine s_orV ?_
  | with_reducible refine s_notV ?_
  | with_reducible refine s_blV ?_
  | with_reducible refine s_if ?_
  | with_reducible refine s_tup ?_
  | with_reducible refine s_lst ?_
  | with_reducible refine s_drop ?_
  | with_reducible refine s_next ?_
  | with_reducible refine s_sub ?_
  | with_reducible refine s_bm ?_
  | with_reducible refine s_callK ?_
  | with_reducible refine s_brk ?_
  | with_reducible refine s_cont ?_
  | with_reducible refine r_I0 ?_
  | with_reducible refine r_U ?_
  | with_reducible refine r_eqI ?_
  | with_reducible refine r_neI ?_
  | with_reducible refine r_isB ?_
  | with_reducible refine r_notB ?_
  | with_reducible refine i_t ?_
  | with_reducible refine i_f ?_
  | with_reducible refine i_nt ?_
  | with_reducible refine i_nf ?_
  | ((with_reducible refine' r_I ?hc ?_); (case hc => walk_at "cond"))
  | (with_reducible refine .inl ⟨_, rfl, ?_⟩)
  | (with_reducible refine ⟨_, rfl, ?_⟩)
  | ((with_reducible refine' r_ixL ?hx ?ha ?_); (case hx => walk_at "at"); (case ha => rfl))
  | ((with_reducible refine' r_ixT ?hx ?ha ?_); (case hx => walk_at "at"); (case ha => rfl))
  | ((with_reducible refine' r_setL ?hx ?ha ?_); (case hx => walk_at "at"); (case ha => rfl); intro H2 k2 h2; (try dsimp only [List.set, Int.toNat] at h2))
  | ((with_reducible refine' r_app ?hx ?hl ?_); (case hx => walk_at "at"); (case hl => first | exact Nat.lt_of_ble_eq_true rfl | omega); intro H2 k2 h2)
  | ((with_reducible refine' ty_list ?hx ?_); (case hx => walk_at "at"))
  | (refine And.intro (by (with_reducible show _ ≤ sizeLine); walk_at "sz") ?_; walk_at "new")
  | with_reducible refine s_exv ?_
  | walk_at "newx")
local macro_rules | `(tactic| walk_at "sx") => `(tactic| repeat (walk_at "s1"))
local macro_rules | `(tactic| walk_at "s2") => `(tactic| first
  | ((with_reducible refine' r_ixG ?hx ?hn ?_); (case hx => walk_at "at"); (case hn => omega))
  | ((with_reducible refine' r_ixGT ?hx ?hn ?_); (case hx => walk_at "at"); (case hn => omega))
  | (with_reducible refine ig_cons (fun hix => ?_) (fun hix => ?_))
  | ((with_reducible refine ig_nil ?_); omega)
  | ((with_reducible refine' i_T ?hc ?_); (case hc => omega))
  | ((with_reducible refine' i_F ?hc ?_); (case hc => omega))
  | (with_reducible refine i_2 (fun hc => ?_) (fun hc => ?_))
  | (with_reducible refine i_n2 (fun hc => ?_) (fun hc => ?_)))
local macro_rules | `(tactic| walk_at "go") => `(tactic| repeat' (first | walk_at "s1" | walk_at "s2"))

local macro_rules | `(tactic| walk_at "s1") => `(tactic| first
  | with_reducible refine s_chain ?_
  | with_reducible refine s_fldS ?_
  | with_reducible refine s_fld ?_
  | with_reducible refine s_dIn ?_
  | with_reducible refine s_dNotIn ?_
  | with_reducible refine s_sl ?_
  | with_reducible refine s_noPart ?_
  | with_reducible refine s_part ?_
  | with_reducible refine s_meth ?_
  | with_reducible refine s_make ?_)

local macro_rules | `(tactic| walk_at "sms") => `(tactic| first
  | assumption
  | exact Sm.neg (by walk_at "sms")
  | exact Sm.mul (by walk_at "sms") (by walk_at "sms")
  | exact Sm.add (by walk_at "sms") (by walk_at "sms")
  | exact Sm.sub (by walk_at "sms") (by walk_at "sms")
  | exact sm_1
  | exact sm_3)
section
variable {P : Program} {w : World} {K : PySem.W.Frag} {mg : Str → Option Value} {base : Heap} {A : Ad}
/-! the law's divisor, a chance drawn -/
def spDiv : Sp := fun vs H Q _ => ∃ (x y : Int), vs = [.int x, .int y] ∧ Sm 360 x ∧ Sm 360 y ∧ Q (.int ((Nat.gcd x.natAbs y.natAbs : Nat) : Int)) H
theorem abs_is (x : Int) : (if x < 0 then -x else x) = (x.natAbs : Int) := by split <;> omega
theorem ok_div (T : Txt P K mg A) : FnOk P w K mg base CX0 1 A.a__law_divisor A.d__law_divisor ["one", "other"] spDiv := by
  refine T.F__law_divisor.ok sc__law_divisor (fun vs H Q E h => ?_) (fun cdv A' outer s H vs Q E hr h => ?_)
  · obtain ⟨x, y, rfl, _⟩ := h
    rfl
  · obtain ⟨x, y, rfl, hx, hy, k⟩ := h
    refine ⟨_, (pss_cons (ps_set (i := 0) sc__law_divisor.nd rfl (Or.inl rfl) (pe_callB call_abs (by rfl) T.n_abs (by decide +kernel) (pa_cons (pv 0) pa_nil)))
  (pss_cons (ps_set (i := 1) sc__law_divisor.nd rfl (Or.inl rfl) (pe_callB call_abs (by rfl) T.n_abs (by decide +kernel) (pa_cons (pv 1) pa_nil)))
  (pss_cons (ps_for PassesOwn.never rfl (pi_range1 rfl T.n_range (pa_cons pe_int pa_nil)) (pg_name (i := 2) sc__law_divisor.nd rfl (Or.inl rfl))
  (pss_cons (ps_if (pt_cmpR op_eq (pv 1) pe_int (nomark _)) (pss_one ps_break) pss_nil)
  (pss_cons (ps_set (i := 3) sc__law_divisor.nd rfl (Or.inl rfl) (pe_op op_mod (pe_callTy call_int1 (by rfl) T.n_int (by decide +kernel) (pa_cons (pv 0) pa_nil)) (pv 1)))
  (pss_cons (ps_set (i := 0) sc__law_divisor.nd rfl (Or.inl rfl) (pv 1))
  (pss_one (ps_set (i := 1) sc__law_divisor.nd rfl (Or.inl rfl) (pv 3)))))))
  (pss_one (ps_ret (pv 0)))))), ?_⟩
    walk_at "sx"
    rw [abs_is, abs_is]
    refine ⟨_, rfl, by decide, by decide, for_range (lo := 0) (n := 1000) (fun i σ H' => H' = H ∧ ∃ (a b : Nat) (v1 v2 : Option V), σ = [some (.int a), some (.int b), v1, v2] ∧ Nat.gcd a b = Nat.gcd x.natAbs y.natAbs ∧ EuI 720 0 x.natAbs y.natAbs i a b) ?_ ?_ ?_⟩
    · exact ⟨rfl, x.natAbs, y.natAbs, _, _, rfl, rfl, rfl, rfl⟩
    · rintro i σ H' hi ⟨rfl, a, b, v1, v2, rfl, hg, he⟩
      walk_at "sx"
      refine i_2 (fun hc => ?_) (fun hc => ?_)
      · have hb : b = 0 := by omega
        subst hb
        walk_at "sx"
        rw [Nat.gcd_zero_right] at hg
        rw [hg]
        exact k
      · have hb : 0 < b := by omega
        walk_at "sx"
        refine ⟨rfl, b, a % b, _, _, rfl, by rw [eu_gcd]; exact hg, eu_step ?_ he hb⟩
        have := Nat.mul_lt_mul'' hy hy
        rw [← Nat.pow_add] at this
        exact Nat.le_of_lt this
    · rintro σ H' ⟨rfl, a, b, v1, v2, rfl, hg, he⟩
      have hb := eu_end (n := 999) (by decide) he
      subst hb
      walk_at "sx"
      rw [Nat.gcd_zero_right] at hg
      rw [hg]
      exact k
theorem sgd_gcd {u l : Int} (h : 0 < l) : ((Nat.gcd u.natAbs l.natAbs : Nat) : Int) = sgd u l := by
  unfold sgd
  rw [if_neg (by omega)]
theorem rd_ch {u l : Int} (h0 : 0 ≤ u) (h1 : u ≤ l) (hl : 0 < l) (s : Sm 50 l) : Qok (rdU u l, rdL u l) := by
  have hs := sgd_pos (u := u) hl
  obtain ⟨g, hg, e1, e2⟩ := rd_is (a := u) hl
  have hp := rdL_pos (u := u) hl
  have u0 : 0 ≤ rdU u l := by
    rcases Int.lt_or_le (rdU u l) 0 with c | c
    · have := Int.mul_neg_of_pos_of_neg hg c
      omega
    · exact c
  have ul : rdU u l ≤ rdL u l := Int.le_of_mul_le_mul_left (by rw [← e1, ← e2]; exact h1) hg
  refine ⟨hp, ?_, u0, ul, rdU_sm (by omega) (s.le (by omega)), rdL_sm (by omega) s⟩
  obtain ⟨c, ec⟩ := sgd_dvd_u u l
  obtain ⟨d, ed⟩ := sgd_dvd_l u l
  have eu : rdU u l = c := by
    unfold rdU
    rw [show u.fdiv (sgd u l) = (sgd u l * c).fdiv (sgd u l) by rw [← ec], Int.mul_fdiv_cancel_left _ (by omega)]
  have el : rdL u l = d := by
    unfold rdL
    rw [show l.fdiv (sgd u l) = (sgd u l * d).fdiv (sgd u l) by rw [← ed], Int.mul_fdiv_cancel_left _ (by omega)]
  rw [eu, el]
  have z : Nat.gcd (sgd u l * c).natAbs (sgd u l * d).natAbs = (sgd u l).natAbs * Nat.gcd c.natAbs d.natAbs := by rw [Int.natAbs_mul, Int.natAbs_mul, Nat.gcd_mul_left]
  rw [← ec, ← ed, sgd_abs] at z
  have p : 0 < Nat.gcd u.natAbs l.natAbs := Nat.gcd_pos_of_pos_right _ (by omega)
  have : Nat.gcd u.natAbs l.natAbs * Nat.gcd c.natAbs d.natAbs = Nat.gcd u.natAbs l.natAbs * 1 := by rw [← z, Nat.mul_one]
  exact Nat.eq_of_mul_eq_mul_left p this
theorem ch_ok {H : Hp} {p : Addr} {q : Q2} (h : H p = some (.tup [.int q.1, .int q.2])) (k : Qok q) : Ch H p q := ⟨h, k.1, k.2.1, k.2.2.1, k.2.2.2.1, k.2.2.2.2⟩
def spChance : Sp := fun vs H Q _ => ∃ (a : Addr) (g : Bool), vs = [.ref a, .bl g] ∧ Flow H a ∧ ∀ p q H', Ch H' p q → Sm 40 q.1 → Sm 40 q.2 → Flow H' a → Keep a H H' → Q (.ref p) H'
theorem ok_chance (T : Txt P K mg A) : FnOk P w K mg base CX0 2 A.a__law_chance A.d__law_chance ["flow", "great"] spChance := by
  refine T.F__law_chance.ok sc__law_chance (fun vs H Q E h => ?_) (fun cdv A' outer s H vs Q E hr h => ?_)
  · obtain ⟨a, g, rfl, _⟩ := h
    rfl
  · obtain ⟨a, g, rfl, hF, k⟩ := h
    have G__law_take := ok_take (w := w) (base := base) T
    have G__law_divisor := ok_div (w := w) (base := base) T
    refine ⟨_, (pss_cons (ps_set (i := 2) sc__law_chance.nd rfl (Or.inl rfl) (pe_call G__law_take (hr.mono (by decide)) rfl T.g__law_take T.F__law_take.kp (B__law_take T) .nil pass0 (pa_cons (pv 0) (pa_cons pe_int pa_nil))))
  (pss_cons (ps_if (pt_cmpR op_lt (pv 2) pe_int (nomark _)) (pss_one (ps_ret (pe_ix ix_seq (pe_lst (pa_cons (pe_tup (pa_cons pe_int (pa_cons pe_int pa_nil))) (pa_cons (pe_tup (pa_cons pe_int (pa_cons pe_int pa_nil))) (pa_cons (pe_tup (pa_cons pe_int (pa_cons pe_int pa_nil))) pa_nil)))) (pv 2) (fun _ _ => rfl)))) pss_nil)
  (pss_cons (ps_set (i := 3) sc__law_chance.nd rfl (Or.inl rfl) (pe_op op_add pe_int (pe_call G__law_take (hr.mono (by decide)) rfl T.g__law_take T.F__law_take.kp (B__law_take T) .nil pass0 (pa_cons (pv 0) (pa_cons pe_int pa_nil)))))
  (pss_cons (ps_set (i := 4) sc__law_chance.nd rfl (Or.inl rfl) (pe_call G__law_take (hr.mono (by decide)) rfl T.g__law_take T.F__law_take.kp (B__law_take T) .nil pass0 (pa_cons (pv 0) (pa_cons (pe_op op_add (pv 3) pe_int) pa_nil))))
  (pss_cons (ps_if (pt_val (pv 1)) (pss_cons (ps_set (i := 3) sc__law_chance.nd rfl (Or.inl rfl) (pe_op op_add (pe_op op_add pe_int (pe_op op_mulW (pe_call G__law_take (hr.mono (by decide)) rfl T.g__law_take T.F__law_take.kp (B__law_take T) .nil pass0 (pa_cons (pv 0) (pa_cons pe_int pa_nil))) pe_int)) (pe_call G__law_take (hr.mono (by decide)) rfl T.g__law_take T.F__law_take.kp (B__law_take T) .nil pass0 (pa_cons (pv 0) (pa_cons pe_int pa_nil)))))
  (pss_cons (ps_set (i := 4) sc__law_chance.nd rfl (Or.inl rfl) (pe_op op_add (pe_op op_mulW (pe_call G__law_take (hr.mono (by decide)) rfl T.g__law_take T.F__law_take.kp (B__law_take T) .nil pass0 (pa_cons (pv 0) (pa_cons pe_int pa_nil))) pe_int) (pe_call G__law_take (hr.mono (by decide)) rfl T.g__law_take T.F__law_take.kp (B__law_take T) .nil pass0 (pa_cons (pv 0) (pa_cons pe_int pa_nil)))))
  (pss_one (ps_set (i := 4) sc__law_chance.nd rfl (Or.inl rfl) (pe_op op_mod (pe_callTy call_int1 (by rfl) T.n_int (by decide +kernel) (pa_cons (pv 4) pa_nil)) (pe_op op_add (pv 3) pe_int)))))) pss_nil)
  (pss_cons (ps_set (i := 5) sc__law_chance.nd rfl (Or.inl rfl) (pe_call G__law_divisor (hr.mono (by decide)) rfl T.g__law_divisor T.F__law_divisor.kp (B__law_divisor T) .nil pass0 (pa_cons (pv 4) (pa_cons (pv 3) pa_nil))))
  (pss_one (ps_ret (pe_tup (pa_cons (pe_op op_fdivV (pv 4) (pv 5)) (pa_cons (pe_op op_fdivV (pv 3) (pv 5)) pa_nil))))))))))), ?_⟩
    walk_at "sx"
    refine c_take hF (by decide) (by decide) (fun d1 H1 l1 u1 F1 K1 => ?_)
    walk_at "sx"
    refine i_2 (fun c0 => ?_) (fun c0 => ?_)
    · walk_at "sx"
      rename_i p1 n1 G1 t1 g1 p2 n2 G2 t2 g2 p3 n3 G3 t3 g3 p4 n4 G4 t4 g4
      have K4 : Keep a H G4 := K1.trans (Keep.same (t1.trans (t2.trans (t3.trans t4))))
      have F4 := F1.same (t1.trans (t2.trans (t3.trans t4)))
      have h : d1 = 0 ∨ d1 = 1 ∨ d1 = 2 := by omega
      rcases h with rfl | rfl | rfl
      · refine r_ixL g4 (v := .ref p1) rfl ?_
        exact k p1 (0, 1) G4 (ch_ok ((t2.trans (t3.trans t4)) _ _ g1) ⟨by decide, by decide, by decide, by decide, by unfold Sm; decide, by unfold Sm; decide⟩) (by unfold Sm; decide) (by unfold Sm; decide) F4 K4
      · refine r_ixL g4 (v := .ref p2) rfl ?_
        exact k p2 (1, 1) G4 (ch_ok ((t3.trans t4) _ _ g2) ⟨by decide, by decide, by decide, by decide, by unfold Sm; decide, by unfold Sm; decide⟩) (by unfold Sm; decide) (by unfold Sm; decide) F4 K4
      · refine r_ixL g4 (v := .ref p3) rfl ?_
        exact k p3 (1, 2) G4 (ch_ok (t4 _ _ g3) ⟨by decide, by decide, by decide, by decide, by unfold Sm; decide, by unfold Sm; decide⟩) (by unfold Sm; decide) (by unfold Sm; decide) F4 K4
    · walk_at "sx"
      refine c_take F1 (by decide) (by decide) (fun d2 H2 l2 u2 F2 K2 => ?_)
      walk_at "sx"
      refine c_take F2 (by omega) (by omega) (fun d3 H3 l3 u3 F3 K3 => ?_)
      have fin : ∀ (u l : Int) (H5 : Hp), 0 ≤ u → u ≤ l → 0 < l → l < 1000000000000 → Flow H5 a → Keep a H H5 → spDiv ([.int u, .int l] ++ []) H5 (fun x H1 => gName 5 x [some (.ref a), some (.bl g), some (.int d1), some (.int l), some (.int u), none] H1
          ({ nx := tRet (tTup (tCons (tOp (rI L2.CDivV fun i j => .int (i.fdiv j)) (tVar 4) (tVar 5)) (tCons (tOp (rI L2.CDivV fun i j => .int (i.fdiv j)) (tVar 3) (tVar 5)) tNil))) { nx := fun _ H' => Q .non H', rt := Q }, rt := Q } : Ends).nx) E0 := by
        intro u l H5 h0 h1 h2 h3 F5 K5
        have z : Sm 40 l := by
          unfold Sm
          have : (1000000000000 : Nat) < 2 ^ 40 := by decide
          omega
        have zu : Sm 40 u := z.le (by omega)
        have sl : Sm 50 l := z.mono (by decide)
        have su : Sm 50 u := sl.le (by omega)
        refine ⟨u, l, rfl, su.mono (by decide), sl.mono (by decide), ?_⟩
        rw [sgd_gcd h2]
        walk_at "sx"
        refine r_I (c_divV (by omega) sl (by decide)) ?_
        walk_at "sx"
        refine r_I (c_divV (by omega) sl (by decide)) ?_
        walk_at "sx"
        rename_i p6 n6 H6 s6 g6
        exact k p6 (rdU u l, rdL u l) H6 (ch_ok g6 (rd_ch h0 h1 h2 sl)) (rdU_sm (by omega) zu) (rdL_sm (by omega) z) (F5.same s6) (K5.trans (Keep.same s6))
      have s1m : Sm 20 999999 := by unfold Sm; decide
      have s2m : Sm 20 1000000 := by unfold Sm; decide
      have st : ∀ {d : Int}, 0 ≤ d → d < 1000000 → Sm 20 d := fun {d} h h' => by
        unfold Sm
        have : (1000000 : Nat) < 2 ^ 20 := by decide
        omega
      refine s_name ?_
      walk_at "sx"
      refine i_b2 (fun hb => ?_) (fun hb => ?_)
      · walk_at "sx"
        refine c_take F3 (by decide) (by decide) (fun d4 H4 l4 u4 F4 K4 => ?_)
        walk_at "sx"
        refine r_I (c_mulW (st l4 u4) s1m (by decide)) ?_
        walk_at "sx"
        refine c_take F4 (by decide) (by decide) (fun d5 H5 l5 u5 F5 K5 => ?_)
        walk_at "sx"
        refine c_take F5 (by decide) (by decide) (fun d6 H6 l6 u6 F6 K6 => ?_)
        walk_at "sx"
        refine r_I (c_mulW (st l6 u6) s2m (by decide)) ?_
        walk_at "sx"
        refine c_take F6 (by decide) (by decide) (fun d7 H7 l7 u7 F7 K7 => ?_)
        have hl : 0 < 1 + d4 * 999999 + d5 := by omega
        obtain ⟨lo, elo⟩ : ∃ lo, lo = 1 + d4 * 999999 + d5 := ⟨_, rfl⟩
        obtain ⟨up, eup⟩ : ∃ up, up = d6 * 1000000 + d7 := ⟨_, rfl⟩
        refine r_I0 ?_
        rw [← elo, ← eup]
        have h1 : 0 ≤ up % (lo + 1) := Int.emod_nonneg _ (by omega)
        have h2 : up % (lo + 1) < lo + 1 := Int.emod_lt_of_pos _ (by omega)
        have h3 : lo < 1000000000000 := by omega
        walk_at "sx"
        first | (refine r_I (by omega) ?_; refine s_name ?_) | skip
        exact fin (up % (lo + 1)) lo H7 h1 (by omega) (by omega) h3 F7 (K1.trans (K2.trans (K3.trans (K4.trans (K5.trans (K6.trans K7))))))
      · walk_at "sx"
        exact fin d3 (1 + d2) H3 l3 (by omega) (by omega) (by omega) F3 (K1.trans (K2.trans K3))
end
end K35

set_option Elab.async false
set_option linter.all false
set_option maxRecDepth 100000
set_option maxHeartbeats 4000000
namespace K35
open PySem L2 Sx Ct
local macro_rules | `(tactic| walk_at "cond") => `(tactic| first
  | assumption
  | decide
  | exact c_mul_r (by first | decide | omega) (by first | decide | omega)
  | exact c_mul_l (by first | decide | omega) (by first | decide | omega)
  | exact c_div (by first | decide | omega) (by first | decide | omega)
  | exact c_pow (by first | decide | omega) (by first | decide | omega) (by first | decide | omega)
  | omega)
local macro_rules | `(tactic| walk_at "ne") => `(tactic| first
  | assumption
  | (refine Ne.symm ?_; assumption)
  | (refine' Flow.ne ?nh ?nn; (case nn => assumption); (case nh => walk_at "fl"))
  | (refine Ne.symm ?_; refine' Flow.ne ?nh ?nn; (case nn => assumption); (case nh => walk_at "fl"))
  | (refine' ne_of_none ?nh ?nn; (case nn => assumption); (case nh => walk_at "at"))
  | (refine Ne.symm ?_; refine' ne_of_none ?nh ?nn; (case nn => assumption); (case nh => walk_at "at")))
local macro_rules | `(tactic| walk_at "at") => `(tactic| first
  | assumption
  | (refine Same.up (by assumption) ?_; walk_at "at")
  | (refine Keep.up (by assumption) (by walk_at "ne") ?_; walk_at "at"))
local macro_rules | `(tactic| walk_at "fl") => `(tactic| first
  | assumption
  | (refine Flow.same (by assumption) ?_; walk_at "fl")
  | (refine Flow.keep (by assumption) (by walk_at "ne") ?_; walk_at "fl"))
local macro_rules | `(tactic| walk_at "fr") => `(tactic| first
  | assumption
  | (refine same_free (by assumption) ?_; walk_at "fr")
  | (refine Keep.free (by assumption) (by walk_at "ne") ?_; walk_at "fr"))
local macro_rules | `(tactic| walk_at "kp") => `(tactic| first
  | assumption
  | exact Keep.refl _ _
  | (refine Keep.trans ?_ (by assumption); walk_at "kp")
  | (refine Keep.trans ?_ (Keep.same (by assumption)); walk_at "kp"))
local macro_rules | `(tactic| walk_at "sm") => `(tactic| first
  | assumption
  | exact L2.Same.refl _
  | (refine L2.Same.trans ?_ (by assumption); walk_at "sm"))
local macro_rules | `(tactic| walk_at "sz") => `(tactic| first | exact Nat.le_of_ble_eq_true rfl | omega)
local macro_rules | `(tactic| walk_at "new") => `(tactic| (intro p np; generalize hE : upd _ p _ = H2; have s2 := new_same np hE; have h2 := new_at hE; clear hE))
local macro_rules | `(tactic| walk_at "newx") => `(tactic| (intro e d na nd hda; generalize hE : upd (upd _ d _) e _ = H2; have s2 := newx_same na nd hE; have h2 := newx_at hE; have h3 := newx_d hda hE; clear hE))
local macro_rules | `(tactic| walk_at "s1") => `(tactic| first
  | with_reducible refine s_seq ?_
  | with_reducible refine s_asg ?_
  | with_reducible refine s_name ?_
  | with_reducible refine s_ret ?_
  | with_reducible refine s_c ?_
  | ((with_reducible refine' s_var ?hv ?_); (case hv => rfl))
  | with_reducible refine s_op ?_
  | with_reducible refine s_un ?_
  | with_reducible refine s_ifS ?_
  | with_reducible refine s_cb ?_
  | with_reducible refine s_cons ?_
  | with_reducible refine s_nil ?_
  | with_reducible refine s_call ?_
  | with_reducible refine s_test ?_
  | with_reducible refine s_tB ?_
  | with_reducible refine s_bl ?_
  | with_reducible refine s_and ?_
  | with_reducible refine s_or ?_
  | with_reducible refine s_not ?_
  | with_reducible refine s_andV ?_
  | with_reducible refine s_orV ?_
  | with_reducible refine s_notV ?_
  | with_reducible refine s_blV ?_
  | with_reducible refine s_if ?_
  | with_reducible refine s_tup ?_
  | with_reducible refine s_lst ?_
  | with_reducible refine s_drop ?_
  | with_reducible refine s_next ?_
  | with_reducible refine s_sub ?_
  | with_reducible refine s_bm ?_
  | with_reducible refine s_callK ?_
  | with_reducible refine s_brk ?_
  | with_reducible refine s_cont ?_
  | with_reducible refine r_I0 ?_
  | with_reducible refine r_U ?_
  | with_reducible refine r_eqI ?_
  | with_reducible refine r_neI ?_
  | with_reducible refine r_isB ?_
  | with_reducible refine r_notB ?_
  | with_reducible refine i_t ?_
  | with_reducible refine i_f ?_
  | with_reducible refine i_nt ?_
  | with_reducible refine i_nf ?_
  | ((with_reducible refine' r_I ?hc ?_); (case hc => walk_at "cond"))
  | (with_reducible refine .inl ⟨_, rfl, ?_⟩)
  | (with_reducible refine ⟨_, rfl, ?_⟩)
  | ((with_reducible refine' r_ixL ?hx ?ha ?_); (case hx => walk_at "at"); (case ha => rfl))
  | ((with_reducible refine' r_ixT ?hx ?ha ?_); (case hx => walk_at "at"); (case ha => rfl))
  | ((with_reducible refine' r_setL ?hx ?ha ?_); (case hx => walk_at "at"); (case ha => rfl); intro H2 k2 h2; (try dsimp only [List.set, Int.toNat] at h2))
  | ((with_reducible refine' r_app ?hx ?hl ?_); (case hx => walk_at "at"); (case hl => first | exact Nat.lt_of_ble_eq_true rfl | omega); intro H2 k2 h2)
  | ((with_reducible refine' ty_list ?hx ?_); (case hx => walk_at "at"))
  | (refine And.intro (by (with_reducible show _ ≤ sizeLine); walk_at "sz") ?_; walk_at "new")
  | with_reducible refine s_exv ?_
  | walk_at "newx")
local macro_rules | `(tactic| walk_at "sx") => `(tactic| repeat (walk_at "s1"))
local macro_rules | `(tactic| walk_at "s2") => `(tactic| first
  | ((with_reducible refine' r_ixG ?hx ?hn ?_); (case hx => walk_at "at"); (case hn => omega))
  | ((with_reducible refine' r_ixGT ?hx ?hn ?_); (case hx => walk_at "at"); (case hn => omega))
  | (with_reducible refine ig_cons (fun hix => ?_) (fun hix => ?_))
  | ((with_reducible refine ig_nil ?_); omega)
  | ((with_reducible refine' i_T ?hc ?_); (case hc => omega))
  | ((with_reducible refine' i_F ?hc ?_); (case hc => omega))
  | (with_reducible refine i_2 (fun hc => ?_) (fun hc => ?_))
  | (with_reducible refine i_n2 (fun hc => ?_) (fun hc => ?_)))
local macro_rules | `(tactic| walk_at "go") => `(tactic| repeat' (first | walk_at "s1" | walk_at "s2"))

local macro_rules | `(tactic| walk_at "s1") => `(tactic| first
  | with_reducible refine s_chain ?_
  | with_reducible refine s_fldS ?_
  | with_reducible refine s_fld ?_
  | with_reducible refine s_dIn ?_
  | with_reducible refine s_dNotIn ?_
  | with_reducible refine s_sl ?_
  | with_reducible refine s_noPart ?_
  | with_reducible refine s_part ?_
  | with_reducible refine s_meth ?_
  | with_reducible refine s_make ?_)

/-! the law's own ties -/
theorem xor_step {n a b p : Nat} (sn : n ≤ 6) (ha : a < 2 ^ n) (hb : b < 2 ^ n) (hp : p < n) (lt : a < b) : a ^^^ b = 2 ^ (n - 1 - p) ↔ a / 2 ^ (n - 1 - p) % 2 = 0 ∧ b = a + 2 ^ (n - 1 - p) := by
  have z : ((List.range 64).all fun a => (List.range 64).all fun b => (List.range 6).all fun k => !decide (a < b) || (decide (a ^^^ b = 2 ^ k) == (decide (a / 2 ^ k % 2 = 0) && decide (b = a + 2 ^ k)))) = true := by decide +kernel
  have le : 2 ^ n ≤ 64 := (show 2 ^ n ≤ 2 ^ 6 from Nat.pow_le_pow_right (by decide) sn)
  have z1 := List.all_eq_true.mp (List.all_eq_true.mp (List.all_eq_true.mp z a (List.mem_range.mpr (by omega))) b (List.mem_range.mpr (by omega))) (n - 1 - p) (List.mem_range.mpr (by omega))
  rw [decide_eq_true lt, Bool.not_true, Bool.false_or, beq_iff_eq] at z1
  rw [← decide_eq_true_iff (p := a ^^^ b = _), z1, Bool.and_eq_true, decide_eq_true_eq, decide_eq_true_eq]
theorem p2i {a b : Nat} (h : 2 ^ a = 2 ^ b) : a = b := by
  rcases Nat.lt_or_ge a b with l | l
  · have := Nat.pow_lt_pow_right (a := 2) (by decide) l
    omega
  · rcases Nat.lt_or_eq_of_le l with l | l
    · have := Nat.pow_lt_pow_right (a := 2) (by decide) l
      omega
    · exact l.symm
/-- the point at which a and b alone differ -/
def lt1 (n a b : Nat) : Option Nat := (List.range n).find? fun p => decide (a ^^^ b = 2 ^ (n - 1 - p))
theorem lt1_some {n a b p : Nat} : lt1 n a b = some p ↔ p < n ∧ a ^^^ b = 2 ^ (n - 1 - p) := by
  unfold lt1
  constructor
  · intro h
    have h1 := List.find?_some h
    have h2 := List.mem_of_find?_eq_some h
    exact ⟨List.mem_range.mp h2, of_decide_eq_true h1⟩
  · rintro ⟨h1, h2⟩
    rw [List.find?_range_eq_some]
    refine ⟨decide_eq_true h2, List.mem_range.mpr h1, fun j hj => ?_⟩
    have ne : a ^^^ b ≠ 2 ^ (n - 1 - j) := fun e => by
      rw [h2] at e
      have := p2i e
      omega
    simp [ne]
def rowL (n : Nat) (ns : List Nat) (i m : Nat) : List (List Int) := (List.range m).filterMap fun d => (lt1 n (ns.getD i 0) (ns.getD (i + 1 + d) 0)).map fun (p : Nat) => [(i : Int), ((i + 1 + d : Nat) : Int), (p : Int)]
def rawL (n : Nat) (ns : List Nat) (k : Nat) : List (List Int) := (List.range k).flatMap fun i => rowL n ns i (ns.length - (i + 1))
theorem rowL_succ (n : Nat) (ns : List Nat) (i m : Nat) : rowL n ns i (m + 1) = rowL n ns i m ++ (match lt1 n (ns.getD i 0) (ns.getD (i + 1 + m) 0) with | some p => [[(i : Int), ((i + 1 + m : Nat) : Int), (p : Int)]] | none => []) := by
  unfold rowL
  rw [List.range_succ, List.filterMap_append]
  congr 1
  cases h : lt1 n (ns.getD i 0) (ns.getD (i + 1 + m) 0) with
  | none => simp only [List.filterMap_cons, h, Option.map_none, List.filterMap_nil]
  | some p => simp only [List.filterMap_cons, h, Option.map_some, List.filterMap_nil]
theorem rawL_succ (n : Nat) (ns : List Nat) (k : Nat) : rawL n ns (k + 1) = rawL n ns k ++ rowL n ns k (ns.length - (k + 1)) := by
  unfold rawL
  rw [List.range_succ, List.flatMap_append]
  simp
/-- one triple ahead of the other -/
def Ahead (s t : List Int) : Prop := ∃ i j p i' j' p' : Nat, s = [(i : Int), (j : Int), (p : Int)] ∧ t = [(i' : Int), (j' : Int), (p' : Int)] ∧ (i < i' ∨ (i = i' ∧ j < j'))
theorem row_in {n : Nat} {ns : List Nat} {i m : Nat} {t : List Int} (h : t ∈ rowL n ns i m) : ∃ (d p : Nat), d < m ∧ t = [(i : Int), ((i + 1 + d : Nat) : Int), (p : Int)] ∧ lt1 n (ns.getD i 0) (ns.getD (i + 1 + d) 0) = some p := by
  obtain ⟨d, hd, e⟩ := List.mem_filterMap.mp h
  obtain ⟨p, hp, rfl⟩ := Option.map_eq_some_iff.mp e
  exact ⟨d, p, List.mem_range.mp hd, rfl, hp⟩
theorem raw_ahead (n : Nat) (ns : List Nat) (k : Nat) : (rawL n ns k).Pairwise Ahead := by
  unfold rawL
  rw [List.pairwise_flatMap]
  refine ⟨fun i _ => ?_, ?_⟩
  · unfold rowL
    rw [List.pairwise_filterMap]
    refine List.Pairwise.imp ?_ List.pairwise_lt_range
    intro a b lt x hx y hy
    obtain ⟨p, _, rfl⟩ := Option.map_eq_some_iff.mp hx
    obtain ⟨q, _, rfl⟩ := Option.map_eq_some_iff.mp hy
    exact ⟨i, _, p, i, _, q, rfl, rfl, .inr ⟨rfl, by omega⟩⟩
  · refine List.Pairwise.imp ?_ List.pairwise_lt_range
    intro a b lt x hx y hy
    obtain ⟨d, p, _, rfl, _⟩ := row_in hx
    obtain ⟨d', q, _, rfl, _⟩ := row_in hy
    exact ⟨a, _, p, b, _, q, rfl, rfl, .inl lt⟩
theorem get_lt {n : Nat} {ns : List Nat} (N : Nums n ns) {i j : Nat} (h : i < j) (l : j < ns.length) : ns.getD i 0 < ns.getD j 0 ∧ ns.getD i 0 < 2 ^ n ∧ ns.getD j 0 < 2 ^ n := by
  have a : ns.getD i 0 = ns[i] := by simp [show i < ns.length by omega]
  have b : ns.getD j 0 = ns[j] := by simp [l]
  rw [a, b]
  exact ⟨List.pairwise_iff_getElem.mp N.asc i j (by omega) l h, N.lt _ (List.getElem_mem _), N.lt _ (List.getElem_mem _)⟩
theorem rawL_ties {n : Nat} {ns : List Nat} (N : Nums n ns) (sn : n ≤ 6) : Ties n ns (rawL n ns ns.length) := by
  have few := N.few
  have mem : ∀ t, t ∈ rawL n ns ns.length ↔ Tie n ns t := fun t => by
    unfold rawL
    rw [List.mem_flatMap]
    constructor
    · rintro ⟨i, hi, ht⟩
      obtain ⟨d, p, hd, rfl, h⟩ := row_in ht
      have li := List.mem_range.mp hi
      obtain ⟨g1, g2, g3⟩ := get_lt N (show i < i + 1 + d by omega) (by omega)
      obtain ⟨hp, hx⟩ := lt1_some.mp h
      obtain ⟨b0, eb⟩ := (xor_step sn g2 g3 hp g1).mp hx
      refine ⟨i, i + 1 + d, p, ns.getD i 0, rfl, hp, ?_, b0, ?_⟩
      · rw [List.getElem?_eq_getElem li]
        simp [li]
      · rw [← eb, List.getElem?_eq_getElem (show i + 1 + d < ns.length by omega)]
        simp [show i + 1 + d < ns.length by omega]
    · rintro ⟨i, j, p, a, rfl, hp, hi, b0, hj⟩
      obtain ⟨li, ei⟩ := List.getElem?_eq_some_iff.mp hi
      obtain ⟨lj, ej⟩ := List.getElem?_eq_some_iff.mp hj
      have p0 : 0 < 2 ^ (n - 1 - p) := Nat.pow_pos (by decide)
      have ij : i < j := by
        rcases Nat.lt_or_ge i j with h | h
        · exact h
        · rcases Nat.lt_or_eq_of_le h with h | h
          · have z := List.pairwise_iff_getElem.mp N.asc j i lj li h
            rw [ei, ej] at z
            omega
          · subst h
            rw [ei] at ej
            omega
      have gi : ns.getD i 0 = a := by simp [hi]
      have gj : ns.getD j 0 = a + 2 ^ (n - 1 - p) := by simp [hj]
      obtain ⟨g1, g2, g3⟩ := get_lt N ij lj
      refine ⟨i, List.mem_range.mpr li, List.mem_filterMap.mpr ⟨j - (i + 1), List.mem_range.mpr (by omega), ?_⟩⟩
      rw [show i + 1 + (j - (i + 1)) = j by omega, lt1_some.mpr ⟨hp, (xor_step sn g2 g3 hp g1).mpr ⟨by rw [gi]; exact b0, by rw [gi, gj]⟩⟩]
      rfl
  refine ⟨?_, mem, ?_⟩
  · refine List.Pairwise.imp ?_ (raw_ahead n ns _)
    rintro s t ⟨i, j, p, i', j', p', rfl, rfl, h⟩ e
    simp at e
    omega
  · refine List.Pairwise.imp_of_mem ?_ (raw_ahead n ns _)
    rintro s t hs ht ⟨i, j, p, i', j', p', rfl, rfl, h⟩
    obtain ⟨a1, a2, a3, e1, b1, b2, b3⟩ := tie_bd (by omega) (by omega) ((mem _).mp hs)
    obtain ⟨a4, a5, a6, e2, b4, b5, b6⟩ := tie_bd (by omega) (by omega) ((mem _).mp ht)
    simp at e1 e2
    rw [code3, code3]
    omega
/-- the points, kept by their numbers -/
def pd (n j : Nat) : List (Key × V) := (List.range j).map fun p => (Sum.inl ((2 ^ (n - 1 - p) : Nat) : Int), V.int (p : Nat))
theorem pd_get {n : Nat} (u : Nat) : ∀ j, j ≤ n → valV (pd n j) (Sum.inl (u : Int)) = ((List.range j).find? fun p => decide (u = 2 ^ (n - 1 - p))).map fun p => V.int (p : Nat) := by
  have z : ∀ L : List Nat, valV (L.map fun p => ((Sum.inl ((2 ^ (n - 1 - p) : Nat) : Int) : Key), V.int (p : Nat))) (Sum.inl (u : Int)) = (L.find? fun p => decide (u = 2 ^ (n - 1 - p))).map fun p => V.int (p : Nat) := fun L => by
    induction L with
    | nil => rfl
    | cons p L ih =>
      rw [List.map_cons, List.find?_cons]
      by_cases h : u = 2 ^ (n - 1 - p)
      · rw [decide_eq_true h, valV_pos (by rw [h])]
        rfl
      · rw [decide_eq_false h, valV_neg (fun e => h (by have := Sum.inl.inj e; exact_mod_cast this.symm)), ih]
  exact fun j _ => z _
theorem pd_snoc (n j : Nat) : pd n (j + 1) = pd n j ++ [(Sum.inl ((2 ^ (n - 1 - j) : Nat) : Int), V.int (j : Nat))] := by
  unfold pd
  rw [List.range_succ, List.map_append]
  rfl
theorem pd_new {n j : Nat} (h : j < n) : valV (pd n j) (Sum.inl ((2 ^ (n - 1 - j) : Nat) : Int)) = none := by
  rw [pd_get _ j (by omega)]
  have z : ((List.range j).find? fun p => decide (2 ^ (n - 1 - j) = 2 ^ (n - 1 - p))) = none := by
    rw [List.find?_eq_none]
    intro p hp e
    have := p2i (of_decide_eq_true e)
    have := List.mem_range.mp hp
    omega
  rw [z]
  rfl
end K35

set_option Elab.async false
set_option linter.all false
set_option maxRecDepth 100000
set_option maxHeartbeats 4000000
namespace K35
open PySem L2 Sx Ct
local macro_rules | `(tactic| walk_at "cond") => `(tactic| first
  | assumption
  | decide
  | exact c_mul_r (by first | decide | omega) (by first | decide | omega)
  | exact c_mul_l (by first | decide | omega) (by first | decide | omega)
  | exact c_div (by first | decide | omega) (by first | decide | omega)
  | exact c_pow (by first | decide | omega) (by first | decide | omega) (by first | decide | omega)
  | omega)
local macro_rules | `(tactic| walk_at "ne") => `(tactic| first
  | assumption
  | (refine Ne.symm ?_; assumption)
  | (refine' Flow.ne ?nh ?nn; (case nn => assumption); (case nh => walk_at "fl"))
  | (refine Ne.symm ?_; refine' Flow.ne ?nh ?nn; (case nn => assumption); (case nh => walk_at "fl"))
  | (refine' ne_of_none ?nh ?nn; (case nn => assumption); (case nh => walk_at "at"))
  | (refine Ne.symm ?_; refine' ne_of_none ?nh ?nn; (case nn => assumption); (case nh => walk_at "at")))
local macro_rules | `(tactic| walk_at "at") => `(tactic| first
  | assumption
  | (refine Same.up (by assumption) ?_; walk_at "at")
  | (refine Keep.up (by assumption) (by walk_at "ne") ?_; walk_at "at"))
local macro_rules | `(tactic| walk_at "fl") => `(tactic| first
  | assumption
  | (refine Flow.same (by assumption) ?_; walk_at "fl")
  | (refine Flow.keep (by assumption) (by walk_at "ne") ?_; walk_at "fl"))
local macro_rules | `(tactic| walk_at "fr") => `(tactic| first
  | assumption
  | (refine same_free (by assumption) ?_; walk_at "fr")
  | (refine Keep.free (by assumption) (by walk_at "ne") ?_; walk_at "fr"))
local macro_rules | `(tactic| walk_at "kp") => `(tactic| first
  | assumption
  | exact Keep.refl _ _
  | (refine Keep.trans ?_ (by assumption); walk_at "kp")
  | (refine Keep.trans ?_ (Keep.same (by assumption)); walk_at "kp"))
local macro_rules | `(tactic| walk_at "sm") => `(tactic| first
  | assumption
  | exact L2.Same.refl _
  | (refine L2.Same.trans ?_ (by assumption); walk_at "sm"))
local macro_rules | `(tactic| walk_at "sz") => `(tactic| first | exact Nat.le_of_ble_eq_true rfl | omega)
local macro_rules | `(tactic| walk_at "new") => `(tactic| (intro p np; generalize hE : upd _ p _ = H2; have s2 := new_same np hE; have h2 := new_at hE; clear hE))
local macro_rules | `(tactic| walk_at "newx") => `(tactic| (intro e d na nd hda; generalize hE : upd (upd _ d _) e _ = H2; have s2 := newx_same na nd hE; have h2 := newx_at hE; have h3 := newx_d hda hE; clear hE))
local macro_rules | `(tactic| walk_at "s1") => `(tactic| first
  | with_reducible refine s_seq ?_
  | with_reducible refine s_asg ?_
  | with_reducible refine s_name ?_
  | with_reducible refine s_ret ?_
  | with_reducible refine s_c ?_
  | ((with_reducible refine' s_var ?hv ?_); (case hv => rfl))
  | with_reducible refine s_op ?_
  | with_reducible refine s_un ?_
  | with_reducible refine s_ifS ?_
  | with_reducible refine s_cb ?_
  | with_reducible refine s_cons ?_
  | with_reducible refine s_nil ?_
  | with_reducible refine s_call ?_
  | with_reducible refine s_test ?_
  | with_reducible refine s_tB ?_
  | with_reducible refine s_bl ?_
  | with_reducible refine s_and ?_
  | with_reducible refine s_or ?_
  | with_reducible refine s_not ?_
  | with_reducible refine s_andV ?_
  | with_reducible refine s_orV ?_
  | with_reducible refine s_notV ?_
  | with_reducible refine s_blV ?_
  | with_reducible refine s_if ?_
  | with_reducible refine s_tup ?_
  | with_reducible refine s_lst ?_
  | with_reducible refine s_drop ?_
  | with_reducible refine s_next ?_
  | with_reducible refine s_sub ?_
  | with_reducible refine s_bm ?_
  | with_reducible refine s_callK ?_
  | with_reducible refine s_brk ?_
  | with_reducible refine s_cont ?_
  | with_reducible refine r_I0 ?_
  | with_reducible refine r_U ?_
  | with_reducible refine r_eqI ?_
  | with_reducible refine r_neI ?_
  | with_reducible refine r_isB ?_
  | with_reducible refine r_notB ?_
  | with_reducible refine i_t ?_
  | with_reducible refine i_f ?_
  | with_reducible refine i_nt ?_
  | with_reducible refine i_nf ?_
  | ((with_reducible refine' r_I ?hc ?_); (case hc => walk_at "cond"))
  | (with_reducible refine .inl ⟨_, rfl, ?_⟩)
  | (with_reducible refine ⟨_, rfl, ?_⟩)
  | ((with_reducible refine' r_ixL ?hx ?ha ?_); (case hx => walk_at "at"); (case ha => rfl))
  | ((with_reducible refine' r_ixT ?hx ?ha ?_); (case hx => walk_at "at"); (case ha => rfl))
  | ((with_reducible refine' r_setL ?hx ?ha ?_); (case hx => walk_at "at"); (case ha => rfl); intro H2 k2 h2; (try dsimp only [List.set, Int.toNat] at h2))
  | ((with_reducible refine' r_app ?hx ?hl ?_); (case hx => walk_at "at"); (case hl => first | exact Nat.lt_of_ble_eq_true rfl | omega); intro H2 k2 h2)
  | ((with_reducible refine' ty_list ?hx ?_); (case hx => walk_at "at"))
  | (refine And.intro (by (with_reducible show _ ≤ sizeLine); walk_at "sz") ?_; walk_at "new")
  | with_reducible refine s_exv ?_
  | walk_at "newx")
local macro_rules | `(tactic| walk_at "sx") => `(tactic| repeat (walk_at "s1"))
local macro_rules | `(tactic| walk_at "s2") => `(tactic| first
  | ((with_reducible refine' r_ixG ?hx ?hn ?_); (case hx => walk_at "at"); (case hn => omega))
  | ((with_reducible refine' r_ixGT ?hx ?hn ?_); (case hx => walk_at "at"); (case hn => omega))
  | (with_reducible refine ig_cons (fun hix => ?_) (fun hix => ?_))
  | ((with_reducible refine ig_nil ?_); omega)
  | ((with_reducible refine' i_T ?hc ?_); (case hc => omega))
  | ((with_reducible refine' i_F ?hc ?_); (case hc => omega))
  | (with_reducible refine i_2 (fun hc => ?_) (fun hc => ?_))
  | (with_reducible refine i_n2 (fun hc => ?_) (fun hc => ?_)))
local macro_rules | `(tactic| walk_at "go") => `(tactic| repeat' (first | walk_at "s1" | walk_at "s2"))

local macro_rules | `(tactic| walk_at "s1") => `(tactic| first
  | with_reducible refine s_chain ?_
  | with_reducible refine s_fldS ?_
  | with_reducible refine s_fld ?_
  | with_reducible refine s_dIn ?_
  | with_reducible refine s_dNotIn ?_
  | with_reducible refine s_sl ?_
  | with_reducible refine s_noPart ?_
  | with_reducible refine s_part ?_
  | with_reducible refine s_meth ?_
  | with_reducible refine s_make ?_)

section
variable {P : Program} {w : World} {K : PySem.W.Frag} {mg : Str → Option Value} {base : Heap} {A : Ad}
theorem in_nums (m : Nat) : ∀ fs : List Nat, inV (nv m) (fs.map nv) = decide (m ∈ fs)
  | [] => rfl
  | f :: fs => by
    have ih := in_nums m fs
    unfold inV at ih ⊢
    rw [List.map_cons, List.any_cons, ih]
    have e : eqV (nv f) (nv m) = decide (m = f) := by
      show ((f : Int) == (m : Int)) = _
      by_cases h : m = f
      · subst h
        simp
      · rw [decide_eq_false h]
        simp
        omega
    rw [e, ← Bool.decide_or]
    exact decide_eq_decide.mpr (by rw [List.mem_cons])
theorem flat_nums (fs : List Nat) : (fs.map nv).all flatV = true := by
  rw [List.all_eq_true]
  intro x hx
  obtain ⟨m, _, rfl⟩ := List.mem_map.mp hx
  rfl
theorem bxor_n (a b : Nat) : Builtin.bitXor (a : Int) (b : Int) = ((a ^^^ b : Nat) : Int) := by
  rw [Bits.bitXor_pp (Int.natCast_nonneg _) (Int.natCast_nonneg _), Int.toNat_natCast, Int.toNat_natCast]
/-- the bits -/
def bts (n : Nat) : List Nat := (List.range n).map fun k => 2 ^ k
theorem bts_lt1 (n a b : Nat) : decide (a ^^^ b ∈ bts n) = (lt1 n a b).isSome := by
  cases h : lt1 n a b with
  | some p =>
    obtain ⟨hp, e⟩ := lt1_some.mp h
    rw [e, Option.isSome_some, decide_eq_true_eq]
    exact List.mem_map.mpr ⟨n - 1 - p, List.mem_range.mpr (by omega), rfl⟩
  | none =>
    rw [Option.isSome_none, decide_eq_false_iff_not]
    intro m
    obtain ⟨k, hk, e⟩ := List.mem_map.mp m
    have hk := List.mem_range.mp hk
    have z := lt1_some (n := n) (a := a) (b := b) (p := n - 1 - k)
    rw [h] at z
    have := z.mpr ⟨by omega, by rw [← e]; congr 1; omega⟩
    cases this
abbrev pr (t : List Int) : List Int := t.take 2
theorem rowP_succ (n : Nat) (ns : List Nat) (i m : Nat) : (rowL n ns i (m + 1)).map pr = (rowL n ns i m).map pr ++ (if (lt1 n (ns.getD i 0) (ns.getD (i + 1 + m) 0)).isSome = true then [[(i : Int), ((i + 1 + m : Nat) : Int)]] else []) := by
  rw [rowL_succ, List.map_append]
  congr 1
  cases lt1 n (ns.getD i 0) (ns.getD (i + 1 + m) 0) <;> rfl
def spLT : Sp := fun vs H Q _ => ∃ (n : Nat) (l : Addr) (ns : List Nat), vs = [.int n, .ref l] ∧ H l = some (.lst (ns.map nv)) ∧ Nums n ns ∧ ns.length ≤ 12 ∧ n ≤ 6 ∧
  ∀ (t : Addr) (qs : List (Addr × List Int)) (L : List (List Int)) H', Same H H' → H t = none → H' t = some (.lst (qs.map rf)) → TupsAt H' qs → Ties n ns L → qs.map (·.2) = L.map pr → Q (.ref t) H'
theorem rawL_le (n : Nat) (ns : List Nat) : ∀ k, k ≤ 12 → ns.length ≤ 12 → (rawL n ns k).length ≤ 12 * k
  | 0, _, _ => Nat.zero_le _
  | k + 1, h, few => by
    have ih := rawL_le n ns k (by omega) few
    have z : (rowL n ns k (ns.length - (k + 1))).length ≤ ns.length - (k + 1) := by
      unfold rowL
      exact Nat.le_trans (List.length_filterMap_le _ _) (by rw [List.length_range]; exact Nat.le_refl _)
    rw [rawL_succ, List.length_append]
    omega
theorem ok_LT (T : Txt P K mg A) : FnOk P w K mg base CX0 2 A.a__law_ties A.d__law_ties ["size", "numbers"] spLT := by
  refine T.F__law_ties.ok sc__law_ties (fun vs H Q E h => ?_) (fun cdv A' outer s H vs Q E hr h => ?_)
  · obtain ⟨n, l, ns, rfl, _⟩ := h
    rfl
  · obtain ⟨n, l, ns, rfl, hl0, N, few, sn, k⟩ := h
    have G__law_full := ok_full (w := w) (base := base) T
    have hl : True → H l = some (.lst (ns.map nv)) := fun _ => hl0
    clear hl0
    have gl : ∀ {i : Nat}, i < ns.length → atI (ns.map nv) (i : Int) = some (.int ((ns.getD i 0 : Nat) : Int)) := fun {i} hi => atI_nat (by
      rw [List.getElem?_map, List.getElem?_eq_getElem hi]
      simp [hi])
    refine ⟨_, (pss_cons (ps_set (i := 2) sc__law_ties.nd rfl (Or.inr rfl) (pe_lc (own := [("k", 5)]) (g := (gName 5)) (by rfl) sc__law_ties.nd (pi_range1 rfl T.n_range (pa_cons (pv 0) pa_nil)) (blkOk_by (own := [("k", 5)]) (N := ["size", "numbers", "bits", "found", "i", "k", "j"]) (sc := defScope s__law_ties) (by decide +kernel)) (fun _ _ _ _ _ => (pg_name (i := 5) sc__law_ties.nd rfl (Or.inl rfl))) (fun _ _ _ _ _ => pts_nil) (fun _ _ _ _ _ => (pe_call G__law_full (hr.mono (by decide)) rfl T.g__law_full T.F__law_full.kp (B__law_full T) .nil pass0 (pa_cons (pv 5) pa_nil)))))
  (pss_cons (ps_set (i := 3) sc__law_ties.nd rfl (Or.inl rfl) (pe_lst pa_nil))
  (pss_cons (ps_for PassesOwn.never rfl (pi_range1 rfl T.n_range (pa_cons (pe_callB call_len (by rfl) T.n_len (by decide +kernel) (pa_cons (pv 1) pa_nil)) pa_nil)) (pg_name (i := 4) sc__law_ties.nd rfl (Or.inr rfl))
  (pss_one (ps_set (i := 3) sc__law_ties.nd rfl (Or.inl rfl) (pe_op op_cat (pv 3) (pe_lc (own := [("j", 6)]) (g := (gName 6)) (by rfl) sc__law_ties.nd (pi_range2 rfl T.n_range (pa_cons (pe_op op_add (pv 4) pe_int) (pa_cons (pe_callB call_len (by rfl) T.n_len (by decide +kernel) (pa_cons (pv 1) pa_nil)) pa_nil))) (blkOk_by (own := [("j", 6)]) (N := ["size", "numbers", "bits", "found", "i", "k", "j"]) (sc := defScope s__law_ties) (by decide +kernel)) (fun _ _ _ _ _ => (pg_name (i := 6) sc__law_ties.nd rfl (Or.inl rfl))) (fun _ _ _ _ _ => pts_one (pt_cmpR (r := rIn K false) op_in_seq (pe_op op_xor (pe_ix (r := rIx K) ix_seq (pv 1) (pv 4) (fun _ _ => rfl)) (pe_ix (r := rIx K) ix_seq (pv 1) (pv 6) (fun _ _ => rfl))) (pv 2) rfl)) (fun _ _ _ _ _ => (pe_tup (pa_cons (pv 4) (pa_cons (pv 6) pa_nil)))))))))
  (pss_one (ps_ret (pv 3)))))), ?_⟩
    walk_at "sx"
    refine ⟨_, rfl, _, rfl, by omega, by omega, fun D hD => lc_range (lo := 0) (n := n) (fun i H' => Same H H' ∧ H' D = some (.lst ((bts i).map nv))) ⟨Same.new hD, upd_same⟩ ?_ ?_⟩
    · rintro i H' hi ⟨s', hD'⟩
      refine s_name ⟨rfl, ?_⟩
      refine s_yes (i_t ?_)
      walk_at "sx"
      refine ⟨i, by rw [Int.zero_add]; rfl, by omega, fun H2 s2 => ?_⟩
      refine ⟨_, s2 _ _ hD', by unfold bts; rw [List.length_map, List.length_map, List.length_range, sizeLine_eq]; omega, Sx.Same.put (s'.trans s2) hD, ?_⟩
      rw [upd_same]
      unfold bts
      rw [List.range_succ, List.map_append, List.map_append]
      rfl
    · rintro H' ⟨s', hD'⟩
      have hb : True → H' D = some (.lst ((bts n).map nv)) := fun _ => hD'
      clear hD'
      walk_at "sx"
      rename_i pf npf H2 s2 h2
      have s02 := s'.trans s2
      have h2' : True → H2 pf = some (.lst []) := fun _ => h2
      clear h2
      refine ⟨_, rfl, _, _, rfl, .inl ⟨_, SqL.of (s02 _ _ (hl trivial)), rfl⟩, _, rfl, by rw [List.length_map]; omega, by rw [List.length_map]; omega, for_range (lo := 0) (n := (ns.map nv).length) (fun i σ H3 => Same H H3 ∧ H3 D = some (.lst ((bts n).map nv)) ∧ ∃ (pf : Addr) (qs : List (Addr × List Int)) (v4 v5 v6 : Option V), H pf = none ∧ (True → H3 pf = some (.lst (qs.map rf))) ∧ TupsAt H3 qs ∧ qs.map (·.2) = (rawL n ns i).map pr ∧ σ = [some (.int n), some (.ref l), some (.ref D), some (.ref pf), v4, v5, v6]) ?_ ?_ ?_⟩
      · exact ⟨s02, s2 _ _ (hb trivial), pf, [], _, _, _, Same.free s' npf, h2', fun q hq => (by cases hq), rfl, rfl⟩
      · rintro i σ H3 hi ⟨s3, hD3, pf, qs, v4, v5, v6, npf0, hf3, tq, eq, rfl⟩
        rw [List.length_map] at hi
        refine s_name ?_
        have ej : (((ns.map nv).length : Int) - (0 + (i : Int) + 1)).toNat = ns.length - (i + 1) := by
          rw [List.length_map]
          omega
        refine s_asg (s_op (s_var rfl ?_))
        refine ⟨_, rfl, _, 1, rfl, rfl, _, rfl, _, _, rfl, .inl ⟨_, SqL.of (s3 _ _ (hl trivial)), rfl⟩, _, _, rfl, ⟨by omega, by omega, by omega, by rw [List.length_map]; omega⟩, ?_⟩
        rw [ej]
        refine fun D2 hD2 => lc_range (lo := 0 + (i : Int) + 1) (n := ns.length - (i + 1)) (fun d H' => Same H3 H' ∧ ∃ (ps : List (Addr × List Int)), H' D2 = some (.lst (ps.map rf)) ∧ TupsAt H' ps ∧ ps.map (·.2) = (rowL n ns i d).map pr) ?_ ?_ ?_
        · exact ⟨Same.new hD2, [], upd_same, fun q hq => (by cases hq), rfl⟩
        · rintro d H4 hd ⟨s4, ps, hp4, tp, ep⟩
          have hp4' : True → H4 D2 = some (.lst (ps.map rf)) := fun _ => hp4
          clear hp4
          have lj : i + 1 + d < ns.length := by omega
          have ejj : (0 + (i : Int) + 1 + (d : Int)) = ((i + 1 + d : Nat) : Int) := by omega
          have s34 := s3.trans s4
          have lp : ps.length ≤ d := by
            have z := congrArg List.length ep
            rw [List.length_map, List.length_map] at z
            rw [z]
            unfold rowL
            exact Nat.le_trans (List.length_filterMap_le _ _) (by rw [List.length_range]; exact Nat.le_refl _)
          rw [ejj]
          refine s_name ⟨rfl, ?_⟩
          walk_at "sx"
          rw [Int.zero_add]
          refine r_ixL (s34 _ _ (hl trivial)) (gl hi) ?_
          walk_at "sx"
          refine r_ixL (s34 _ _ (hl trivial)) (gl lj) ?_
          walk_at "sx"
          try refine r_I0 ?_
          rw [bxor_n]
          try walk_at "sx"
          refine ⟨D, _, rfl, .inl (SqL.of (s4 _ _ hD3)), rfl, flat_nums _, ?_⟩
          rw [in_nums]
          rw [bts_lt1]
          cases hs : (lt1 n (ns.getD i 0) (ns.getD (i + 1 + d) 0)).isSome with
          | false =>
            refine ⟨_, rfl, i_f ?_⟩
            exact ⟨s4, ps, hp4' trivial, tp, by rw [ep, rowP_succ, hs]; simp⟩
          | true =>
            refine ⟨_, rfl, i_t ?_⟩
            walk_at "sx"
            rename_i p8 n8 H8 s8 h8
            refine ⟨_, s8 _ _ (hp4' trivial), by rw [List.length_map, sizeLine_eq]; omega, Sx.Same.put (s4.trans s8) hD2, ps ++ [(p8, [(i : Int), ((i + 1 + d : Nat) : Int)])], by rw [upd_same, List.map_append]; rfl, fun z hz => ?_, ?_⟩
            · have tu : H8 z.1 = some (.tup (z.2.map V.int)) := by
                rcases List.mem_append.mp hz with mz | mz
                · exact s8 _ _ (tp z mz)
                · rw [List.mem_singleton.mp mz, h8]
                  simp
              rw [upd_ne (ne_of tu (s8 _ _ (hp4' trivial)) fun e => nomatch e)]
              exact tu
            · rw [List.map_append, ep, rowP_succ, hs]
              rfl
        · rintro H4 ⟨s4, ps, hp4, tp, ep⟩
          have lq : qs.length ≤ 12 * 12 := by
            have z := congrArg List.length eq
            rw [List.length_map, List.length_map] at z
            have := rawL_le n ns i (by omega) few
            omega
          have lp : ps.length ≤ 12 := by
            have z := congrArg List.length ep
            rw [List.length_map, List.length_map] at z
            have : (rowL n ns i (ns.length - (i + 1))).length ≤ ns.length - (i + 1) := by
              unfold rowL
              exact Nat.le_trans (List.length_filterMap_le _ _) (by rw [List.length_range]; exact Nat.le_refl _)
            omega
          refine ⟨pf, D2, _, _, rfl, rfl, s4 _ _ (hf3 trivial), hp4, by rw [List.length_map, List.length_map, sizeLine_eq]; omega, fun p9 n9 => ?_⟩
          have s9 : Same H4 (upd H4 p9 (.lst (qs.map rf ++ ps.map rf))) := Same.new n9
          refine ⟨s3.trans (s4.trans s9), (s4.trans s9) _ _ hD3, p9, qs ++ ps, _, _, _, Same.free (s3.trans s4) n9, fun _ => by rw [upd_same, List.map_append], fun z hz => ?_, ?_, rfl⟩
          · rcases List.mem_append.mp hz with mz | mz
            · exact (s4.trans s9) _ _ (tq z mz)
            · exact s9 _ _ (tp z mz)
          · rw [List.map_append, eq, ep, rawL_succ, List.map_append]
      · rintro σ H3 ⟨s3, hD3, pf, qs, v4, v5, v6, npf0, hf3, tq, eq, rfl⟩
        rw [List.length_map] at eq
        walk_at "sx"
        exact k pf qs _ H3 s3 npf0 (hf3 trivial) tq (rawL_ties N sn) eq
end
end K35

set_option Elab.async false
set_option linter.all false
set_option maxRecDepth 100000
set_option maxHeartbeats 4000000
namespace K35
open PySem L2 Sx Ct
local macro_rules | `(tactic| walk_at "cond") => `(tactic| first
  | assumption
  | decide
  | exact c_mul_r (by first | decide | omega) (by first | decide | omega)
  | exact c_mul_l (by first | decide | omega) (by first | decide | omega)
  | exact c_div (by first | decide | omega) (by first | decide | omega)
  | exact c_pow (by first | decide | omega) (by first | decide | omega) (by first | decide | omega)
  | omega)
local macro_rules | `(tactic| walk_at "ne") => `(tactic| first
  | assumption
  | (refine Ne.symm ?_; assumption)
  | (refine' Flow.ne ?nh ?nn; (case nn => assumption); (case nh => walk_at "fl"))
  | (refine Ne.symm ?_; refine' Flow.ne ?nh ?nn; (case nn => assumption); (case nh => walk_at "fl"))
  | (refine' ne_of_none ?nh ?nn; (case nn => assumption); (case nh => walk_at "at"))
  | (refine Ne.symm ?_; refine' ne_of_none ?nh ?nn; (case nn => assumption); (case nh => walk_at "at")))
local macro_rules | `(tactic| walk_at "at") => `(tactic| first
  | assumption
  | (refine Same.up (by assumption) ?_; walk_at "at")
  | (refine Keep.up (by assumption) (by walk_at "ne") ?_; walk_at "at"))
local macro_rules | `(tactic| walk_at "fl") => `(tactic| first
  | assumption
  | (refine Flow.same (by assumption) ?_; walk_at "fl")
  | (refine Flow.keep (by assumption) (by walk_at "ne") ?_; walk_at "fl"))
local macro_rules | `(tactic| walk_at "fr") => `(tactic| first
  | assumption
  | (refine same_free (by assumption) ?_; walk_at "fr")
  | (refine Keep.free (by assumption) (by walk_at "ne") ?_; walk_at "fr"))
local macro_rules | `(tactic| walk_at "kp") => `(tactic| first
  | assumption
  | exact Keep.refl _ _
  | (refine Keep.trans ?_ (by assumption); walk_at "kp")
  | (refine Keep.trans ?_ (Keep.same (by assumption)); walk_at "kp"))
local macro_rules | `(tactic| walk_at "sm") => `(tactic| first
  | assumption
  | exact L2.Same.refl _
  | (refine L2.Same.trans ?_ (by assumption); walk_at "sm"))
local macro_rules | `(tactic| walk_at "sz") => `(tactic| first | exact Nat.le_of_ble_eq_true rfl | omega)
local macro_rules | `(tactic| walk_at "new") => `(tactic| (intro p np; generalize hE : upd _ p _ = H2; have s2 := new_same np hE; have h2 := new_at hE; clear hE))
local macro_rules | `(tactic| walk_at "newx") => `(tactic| (intro e d na nd hda; generalize hE : upd (upd _ d _) e _ = H2; have s2 := newx_same na nd hE; have h2 := newx_at hE; have h3 := newx_d hda hE; clear hE))
local macro_rules | `(tactic| walk_at "s1") => `(tactic| first
  | with_reducible refine s_seq ?_
  | with_reducible refine s_asg ?_
  | with_reducible refine s_name ?_
  | with_reducible refine s_ret ?_
  | with_reducible refine s_c ?_
  | ((with_reducible refine' s_var ?hv ?_); (case hv => rfl))
  | with_reducible refine s_op ?_
  | with_reducible refine s_un ?_
  | with_reducible refine s_ifS ?_
  | with_reducible refine s_cb ?_
  | with_reducible refine s_cons ?_
  | with_reducible refine s_nil ?_
  | with_reducible refine s_call ?_
  | with_reducible refine s_test ?_
  | with_reducible refine s_tB ?_
  | with_reducible refine s_bl ?_
  | with_reducible refine s_and ?_
  | with_reducible refine s_or ?_
  | with_reducible refine s_not ?_
  | with_reducible refine s_andV ?_
  | with_reducible refine s_orV ?_
  | with_reducible refine s_notV ?_
  | with_reducible refine s_blV ?_
  | with_reducible refine s_if ?_
  | with_reducible refine s_tup ?_
  | with_reducible refine s_lst ?_
  | with_reducible refine s_drop ?_
  | with_reducible refine s_next ?_
  | with_reducible refine s_sub ?_
  | with_reducible refine s_bm ?_
  | with_reducible refine s_callK ?_
  | with_reducible refine s_brk ?_
  | with_reducible refine s_cont ?_
  | with_reducible refine r_I0 ?_
  | with_reducible refine r_U ?_
  | with_reducible refine r_eqI ?_
  | with_reducible refine r_neI ?_
  | with_reducible refine r_isB ?_
  | with_reducible refine r_notB ?_
  | with_reducible refine i_t ?_
  | with_reducible refine i_f ?_
  | with_reducible refine i_nt ?_
  | with_reducible refine i_nf ?_
  | ((with_reducible refine' r_I ?hc ?_); (case hc => walk_at "cond"))
  | (with_reducible refine .inl ⟨_, rfl, ?_⟩)
  | (with_reducible refine ⟨_, rfl, ?_⟩)
  | ((with_reducible refine' r_ixL ?hx ?ha ?_); (case hx => walk_at "at"); (case ha => rfl))
  | ((with_reducible refine' r_ixT ?hx ?ha ?_); (case hx => walk_at "at"); (case ha => rfl))
  | ((with_reducible refine' r_setL ?hx ?ha ?_); (case hx => walk_at "at"); (case ha => rfl); intro H2 k2 h2; (try dsimp only [List.set, Int.toNat] at h2))
  | ((with_reducible refine' r_app ?hx ?hl ?_); (case hx => walk_at "at"); (case hl => first | exact Nat.lt_of_ble_eq_true rfl | omega); intro H2 k2 h2)
  | ((with_reducible refine' ty_list ?hx ?_); (case hx => walk_at "at"))
  | (refine And.intro (by (with_reducible show _ ≤ sizeLine); walk_at "sz") ?_; walk_at "new")
  | with_reducible refine s_exv ?_
  | walk_at "newx")
local macro_rules | `(tactic| walk_at "sx") => `(tactic| repeat (walk_at "s1"))
local macro_rules | `(tactic| walk_at "s2") => `(tactic| first
  | ((with_reducible refine' r_ixG ?hx ?hn ?_); (case hx => walk_at "at"); (case hn => omega))
  | ((with_reducible refine' r_ixGT ?hx ?hn ?_); (case hx => walk_at "at"); (case hn => omega))
  | (with_reducible refine ig_cons (fun hix => ?_) (fun hix => ?_))
  | ((with_reducible refine ig_nil ?_); omega)
  | ((with_reducible refine' i_T ?hc ?_); (case hc => omega))
  | ((with_reducible refine' i_F ?hc ?_); (case hc => omega))
  | (with_reducible refine i_2 (fun hc => ?_) (fun hc => ?_))
  | (with_reducible refine i_n2 (fun hc => ?_) (fun hc => ?_)))
local macro_rules | `(tactic| walk_at "go") => `(tactic| repeat' (first | walk_at "s1" | walk_at "s2"))

local macro_rules | `(tactic| walk_at "s1") => `(tactic| first
  | with_reducible refine s_chain ?_
  | with_reducible refine s_fldS ?_
  | with_reducible refine s_fld ?_
  | with_reducible refine s_dIn ?_
  | with_reducible refine s_dNotIn ?_
  | with_reducible refine s_sl ?_
  | with_reducible refine s_noPart ?_
  | with_reducible refine s_part ?_
  | with_reducible refine s_meth ?_
  | with_reducible refine s_make ?_)

section
variable {P : Program} {w : World} {K : PySem.W.Frag} {mg : Str → Option Value} {base : Heap} {A : Ad}
/-! the law's own looks -/
theorem chL_len {xs : List V} (h : ¬ (xs.length : Int) = 2) : chL xs = false := chL_sh (shL_len h)
theorem ok_LC (T : Txt P K mg A) : FnOk P w K mg base CX0 2 A.a__law_is_chance A.d__law_is_chance ["value"] (spChQ K) := by
  refine T.F__law_is_chance.ok sc__law_is_chance (fun vs H Q E h => ?_) (fun cdv A' outer s H vs Q E hr h => ?_)
  · obtain ⟨v, rfl, _⟩ := h
    rfl
  · obtain ⟨v, rfl, c, k0⟩ := h
    have G__law_divisor := ok_div (w := w) (base := base) T
    have k := k0 H (L2.Same.refl _)
    clear k0
    refine ⟨_, (pss_cons (ps_if (PW.pt (pw_or (pt_not (pt_val (pe_callB (id := "isinstance") (r := rIsiV K) call_isiV (by rfl) T.n_isinstance (by decide +kernel) (pa_cons (pv 0) (pa_cons (pe_bltn (v := .ty "tuple") (u := .type "tuple") (by rfl) T.n_tuple (by decide +kernel) rfl) pa_nil))))) (pw_or1 (pt_cmpR op_ne (pe_callB call_len (by rfl) T.n_len (by decide +kernel) (pa_cons (pv 0) pa_nil)) pe_int (nomark _))))) (pss_one (ps_ret pe_bl)) pss_nil)
  (pss_cons (ps_for PassesOwn.never rfl (pi_tup (pv 0)) (pg_name (i := 1) sc__law_is_chance.nd rfl (Or.inl rfl))
  (pss_one (ps_if (PW.pt (pw_or (pt_not (pt_val (pe_callB (id := "isinstance") (r := rIsiV K) call_isiV (by rfl) T.n_isinstance (by decide +kernel) (pa_cons (pv 1) (pa_cons (pe_bltn (v := .ty "int") (u := .type "int") (by rfl) T.n_int (by decide +kernel) rfl) pa_nil))))) (pw_or1 (pt_val (pe_callB (id := "isinstance") (r := rIsiV K) call_isiV (by rfl) T.n_isinstance (by decide +kernel) (pa_cons (pv 1) (pa_cons (pe_bltn (v := .ty "bool") (u := .type "bool") (by rfl) T.n_bool (by decide +kernel) rfl) pa_nil))))))) (pss_one (ps_ret pe_bl)) pss_nil)))
  (pss_one (ps_ret (pe_and (pe_cmpR op_gt (pe_ix ix_seq (pv 0) pe_int (fun _ _ => rfl)) pe_int (nomark _)) (pe_and (pe_chain op_le op_le pe_int (pe_ix ix_seq (pv 0) pe_int (fun _ _ => rfl)) (pe_ix ix_seq (pv 0) pe_int (fun _ _ => rfl))) (pe_one (pe_cmpR op_eq (pe_call G__law_divisor (hr.mono (by decide)) rfl T.g__law_divisor T.F__law_divisor.kp (B__law_divisor T) .nil pass0 (pa_cons (pe_ix ix_seq (pv 0) pe_int (fun _ _ => rfl)) (pa_cons (pe_ix ix_seq (pv 0) pe_int (fun _ _ => rfl)) pa_nil))) pe_int (nomark _))))))))), ?_⟩
    walk_at "sx"
    rcases c with ⟨no, nt⟩ | ⟨p, xs, rfl, hp, mem, sz⟩
    · rw [chB_no nt] at k
      refine isi_in no ?_
      walk_at "sx"
      exact k
    · rw [chB_at hp] at k
      refine isi_in (in_tup hp) ?_
      walk_at "sx"
      refine ⟨_, _, rfl, .inr ⟨_, SqT.of hp, rfl⟩, ?_⟩
      walk_at "sx"
      refine i_n2 (fun hl => ?_) (fun hl => ?_)
      · rw [chL_len hl] at k
        walk_at "sx"
        exact k
      · walk_at "sx"
        refine ⟨_, rfl, p, rfl, ⟨_, SqT.of hp⟩, for_tup (K := K) (a := p) (xs := xs) (fun i σ H' => H' = H ∧ (∃ w : Option V, σ = [some (.ref p), w]) ∧ ((xs.take i).map isI).all id = true) ?_ ?_ ?_ ?_⟩
        · exact ⟨rfl, ⟨_, rfl⟩, rfl⟩
        · rintro i σ H' _ ⟨rfl, _⟩
          exact SqT.of hp
        · rintro i x σ H' hx ⟨rfl, ⟨w', rfl⟩, ha⟩
          obtain ⟨b, c', hb, hc, e⟩ := (mem x (List.mem_of_getElem? hx)).1
          have no : isI x = false → Q (.bl false) H' := fun z => by
            have nx : (xs.map isI).all id = false := by
              rw [List.all_eq_false]
              exact ⟨false, List.mem_map.mpr ⟨x, List.mem_of_getElem? hx, z⟩, by simp⟩
            rw [chL_sh (not_int nx)] at k
            exact k
          walk_at "sx"
          refine isi_in hb ?_
          cases b with
          | false =>
            walk_at "sx"
            exact no (by rw [← e]; rfl)
          | true =>
            walk_at "sx"
            refine isi_in hc ?_
            cases c' with
            | true =>
              walk_at "sx"
              exact no (by rw [← e]; rfl)
            | false =>
              walk_at "sx"
              refine ⟨rfl, ⟨_, rfl⟩, ?_⟩
              have h3 : isI x = true := by rw [← e]; rfl
              rw [List.take_succ, hx]
              simp only [Option.toList_some, List.map_append, List.map_cons, List.map_nil, List.all_append, ha, h3, Bool.true_and]
              rfl
        · rintro σ H' ⟨rfl, ⟨w', rfl⟩, ha⟩
          rw [List.take_length] at ha
          obtain ⟨x, y, rfl⟩ := two_int hl ha
          have sx := (mem (.int x) (by simp)).2 x rfl
          have sy := (mem (.int y) (by simp)).2 y rfl
          have ek : chL [.int x, .int y] = ((decide (0 < y) && decide (((Nat.gcd x.natAbs y.natAbs : Nat) : Int) = 1)) && (decide (0 ≤ x) && decide (x ≤ y))) := rfl
          rw [ek] at k
          walk_at "sx"
          refine i_2 (fun hy => ?_) (fun hy => ?_)
          · rw [decide_eq_true hy, Bool.true_and] at k
            walk_at "sx"
            refine i_2 (fun h0 => ?_) (fun h0 => ?_)
            · rw [decide_eq_true h0, Bool.true_and] at k
              walk_at "sx"
              refine i_2 (fun h1 => ?_) (fun h1 => ?_)
              · rw [decide_eq_true h1, Bool.and_true] at k
                walk_at "sx"
                refine ⟨x, y, rfl, sx.mono (by decide), sy.mono (by decide), ?_⟩
                walk_at "sx"
                exact k
              · rw [decide_eq_false h1, Bool.and_false] at k
                walk_at "sx"
                exact k
            · rw [decide_eq_false h0, Bool.false_and, Bool.and_false] at k
              walk_at "sx"
              exact k
          · rw [decide_eq_false hy, Bool.false_and, Bool.false_and] at k
            walk_at "sx"
            exact k
theorem ok_LG (T : Txt P K mg A) : FnOk P w K mg base CX0 3 A.a__law_is_guess A.d__law_is_guess ["value", "many"] (spChs K) := by
  refine T.F__law_is_guess.ok sc__law_is_guess (fun vs H Q E h => ?_) (fun cdv A' outer s H vs Q E hr h => ?_)
  · obtain ⟨v, m, rfl, _⟩ := h
    rfl
  · obtain ⟨v, m, rfl, g, k⟩ := h
    have G__law_is_chance := ok_LC (w := w) (base := base) T
    refine ⟨_, (pss_cons (ps_if (PW.pt (pw_or (pt_not (pt_val (pe_callB (id := "isinstance") (r := rIsiV K) call_isiV (by rfl) T.n_isinstance (by decide +kernel) (pa_cons (pv 0) (pa_cons (pe_bltn (v := .ty "tuple") (u := .type "tuple") (by rfl) T.n_tuple (by decide +kernel) rfl) pa_nil))))) (pw_or1 (pt_cmpR op_ne (pe_callB call_len (by rfl) T.n_len (by decide +kernel) (pa_cons (pv 0) pa_nil)) (pv 1) (nomark _))))) (pss_one (ps_ret pe_bl)) pss_nil)
  (pss_one (ps_ret (pe_cmpR op_eq (pe_callB call_len (by rfl) T.n_len (by decide +kernel) (pa_cons (pe_lc (own := [("part", 2)]) (g := (gName 2)) (by rfl) sc__law_is_guess.nd (pi_tup (pv 0)) (blkOk_by (own := [("part", 2)]) (N := ["value", "many", "part"]) (sc := defScope s__law_is_guess) (by decide +kernel)) (fun _ _ _ _ _ => (pg_name (i := 2) sc__law_is_guess.nd rfl (Or.inl rfl))) (fun _ _ _ _ _ => pts_one (pt_not (pt_val (pe_call G__law_is_chance (hr.mono (by decide)) rfl T.g__law_is_chance T.F__law_is_chance.kp (B__law_is_chance T) .nil pass0 (pa_cons (pv 2) pa_nil))))) (fun _ _ _ _ _ => pe_int)) pa_nil)) pe_int (nomark _))))), ?_⟩
    walk_at "sx"
    rcases g with ⟨no, nt⟩ | ⟨p, xs, rfl, hp, mem, sz⟩
    · rw [gb_no nt] at k
      refine isi_in no ?_
      walk_at "sx"
      exact k _ (L2.Same.refl _)
    · rw [gb_tup hp] at k
      refine isi_in (in_tup hp) ?_
      walk_at "sx"
      refine ⟨_, _, rfl, .inr ⟨_, SqT.of hp, rfl⟩, ?_⟩
      walk_at "sx"
      refine i_n2 (fun hc => ?_) (fun hc => ?_)
      · rw [decide_eq_false hc] at k
        walk_at "sx"
        exact k H (L2.Same.refl _)
      · rw [decide_eq_true hc] at k
        walk_at "sx"
        refine ⟨_, rfl, p, rfl, ⟨_, SqT.of hp⟩, fun D hD => lc_tup (K := K) (a := p) (xs := xs) (fun i H' => Same H H' ∧ H' D = some (.lst (((xs.take i).filter fun x => !chB H x).map fun _ => V.int 1))) ⟨Same.new hD, upd_same⟩ (fun i H' _ ⟨s, _⟩ => SqT.of (s _ _ hp)) ?_ ?_⟩
        · rintro i x H' hx ⟨s', hD'⟩
          refine s_name ⟨rfl, ?_⟩
          have cx := mem x (List.mem_of_getElem? hx)
          walk_at "sx"
          refine ⟨x, rfl, cx.same s', fun H2 s2 => ?_⟩
          rw [chB_same s' cx]
          have e : (xs.take (i + 1)).filter (fun x => !chB H x) = (xs.take i).filter (fun x => !chB H x) ++ (if chB H x = true then [] else [x]) := by
            rw [List.take_succ, hx, List.filter_append]
            cases h : chB H x <;> simp [h]
          rw [e]
          walk_at "sx"
          refine i_nb2 (fun hb => ?_) (fun hb => ?_)
          · rw [hb]
            walk_at "sx"
            refine ⟨_, s2 _ _ hD', ?_, Sx.Same.put (s'.trans s2) hD, ?_⟩
            · rw [List.length_map]
              refine Nat.lt_of_le_of_lt (List.length_filter_le _ _) ?_
              rw [List.length_take, sizeLine_eq]
              omega
            · rw [upd_same, List.map_append]
              rfl
          · rw [hb]
            exact ⟨s'.trans s2, by rw [s2 _ _ hD']; simp⟩
        · rintro H' ⟨s', hD'⟩
          rw [List.take_length] at hD'
          have k' := k H' s'
          walk_at "sx"
          refine ⟨_, _, rfl, .inl ⟨_, SqL.of hD', rfl⟩, ?_⟩
          walk_at "sx"
          rw [List.length_map]
          have e : decide (((xs.filter fun x => !chB H x).length : Int) = 0) = xs.all (chB H) := by
            cases h : xs.all (chB H) with
            | true =>
              rw [decide_eq_true_eq]
              have z : xs.filter (fun x => !chB H x) = [] := by
                rw [List.filter_eq_nil_iff]
                intro x hx
                rw [List.all_eq_true.mp h x hx]
                simp
              rw [z]
              rfl
            | false =>
              rw [decide_eq_false_iff_not]
              obtain ⟨x, hx, hb⟩ := List.all_eq_false.mp h
              have m : x ∈ xs.filter (fun x => !chB H x) := List.mem_filter.mpr ⟨hx, by simpa using hb⟩
              have := List.length_pos_of_mem m
              omega
          rw [e]
          rw [Bool.true_and] at k'
          exact k'
end
end K35

set_option Elab.async false
set_option linter.all false
set_option maxRecDepth 100000
set_option maxHeartbeats 4000000
namespace K35
open PySem L2 Sx Ct
local macro_rules | `(tactic| walk_at "cond") => `(tactic| first
  | assumption
  | decide
  | exact c_mul_r (by first | decide | omega) (by first | decide | omega)
  | exact c_mul_l (by first | decide | omega) (by first | decide | omega)
  | exact c_div (by first | decide | omega) (by first | decide | omega)
  | exact c_pow (by first | decide | omega) (by first | decide | omega) (by first | decide | omega)
  | omega)
local macro_rules | `(tactic| walk_at "ne") => `(tactic| first
  | assumption
  | (refine Ne.symm ?_; assumption)
  | (refine' Flow.ne ?nh ?nn; (case nn => assumption); (case nh => walk_at "fl"))
  | (refine Ne.symm ?_; refine' Flow.ne ?nh ?nn; (case nn => assumption); (case nh => walk_at "fl"))
  | (refine' ne_of_none ?nh ?nn; (case nn => assumption); (case nh => walk_at "at"))
  | (refine Ne.symm ?_; refine' ne_of_none ?nh ?nn; (case nn => assumption); (case nh => walk_at "at")))
local macro_rules | `(tactic| walk_at "at") => `(tactic| first
  | assumption
  | (refine Same.up (by assumption) ?_; walk_at "at")
  | (refine Keep.up (by assumption) (by walk_at "ne") ?_; walk_at "at"))
local macro_rules | `(tactic| walk_at "fl") => `(tactic| first
  | assumption
  | (refine Flow.same (by assumption) ?_; walk_at "fl")
  | (refine Flow.keep (by assumption) (by walk_at "ne") ?_; walk_at "fl"))
local macro_rules | `(tactic| walk_at "fr") => `(tactic| first
  | assumption
  | (refine same_free (by assumption) ?_; walk_at "fr")
  | (refine Keep.free (by assumption) (by walk_at "ne") ?_; walk_at "fr"))
local macro_rules | `(tactic| walk_at "kp") => `(tactic| first
  | assumption
  | exact Keep.refl _ _
  | (refine Keep.trans ?_ (by assumption); walk_at "kp")
  | (refine Keep.trans ?_ (Keep.same (by assumption)); walk_at "kp"))
local macro_rules | `(tactic| walk_at "sm") => `(tactic| first
  | assumption
  | exact L2.Same.refl _
  | (refine L2.Same.trans ?_ (by assumption); walk_at "sm"))
local macro_rules | `(tactic| walk_at "sz") => `(tactic| first | exact Nat.le_of_ble_eq_true rfl | omega)
local macro_rules | `(tactic| walk_at "new") => `(tactic| (intro p np; generalize hE : upd _ p _ = H2; have s2 := new_same np hE; have h2 := new_at hE; clear hE))
local macro_rules | `(tactic| walk_at "newx") => `(tactic| (intro e d na nd hda; generalize hE : upd (upd _ d _) e _ = H2; have s2 := newx_same na nd hE; have h2 := newx_at hE; have h3 := newx_d hda hE; clear hE))
local macro_rules | `(tactic| walk_at "s1") => `(tactic| first
  | with_reducible refine s_seq ?_
  | with_reducible refine s_asg ?_
  | with_reducible refine s_name ?_
  | with_reducible refine s_ret ?_
  | with_reducible refine s_c ?_
  | ((with_reducible refine' s_var ?hv ?_); (case hv => rfl))
  | with_reducible refine s_op ?_
  | with_reducible refine s_un ?_
  | with_reducible refine s_ifS ?_
  | with_reducible refine s_cb ?_
  | with_reducible refine s_cons ?_
  | with_reducible refine s_nil ?_
  | with_reducible refine s_call ?_
  | with_reducible refine s_test ?_
  | with_reducible refine s_tB ?_
  | with_reducible refine s_bl ?_
  | with_reducible refine s_and ?_
  | with_reducible refine s_or ?_
  | with_reducible refine s_not ?_
  | with_reducible refine s_andV ?_
  | with_reducible refine s_orV ?_
  | with_reducible refine s_notV ?_
  | with_reducible refine s_blV ?_
  | with_reducible refine s_if ?_
  | with_reducible refine s_tup ?_
  | with_reducible refine s_lst ?_
  | with_reducible refine s_drop ?_
  | with_reducible refine s_next ?_
  | with_reducible refine s_sub ?_
  | with_reducible refine s_bm ?_
  | with_reducible refine s_callK ?_
  | with_reducible refine s_brk ?_
  | with_reducible refine s_cont ?_
  | with_reducible refine r_I0 ?_
  | with_reducible refine r_U ?_
  | with_reducible refine r_eqI ?_
  | with_reducible refine r_neI ?_
  | with_reducible refine r_isB ?_
  | with_reducible refine r_notB ?_
  | with_reducible refine i_t ?_
  | with_reducible refine i_f ?_
  | with_reducible refine i_nt ?_
  | with_reducible refine i_nf ?_
  | ((with_reducible refine' r_I ?hc ?_); (case hc => walk_at "cond"))
  | (with_reducible refine .inl ⟨_, rfl, ?_⟩)
  | (with_reducible refine ⟨_, rfl, ?_⟩)
  | ((with_reducible refine' r_ixL ?hx ?ha ?_); (case hx => walk_at "at"); (case ha => rfl))
  | ((with_reducible refine' r_ixT ?hx ?ha ?_); (case hx => walk_at "at"); (case ha => rfl))
  | ((with_reducible refine' r_setL ?hx ?ha ?_); (case hx => walk_at "at"); (case ha => rfl); intro H2 k2 h2; (try dsimp only [List.set, Int.toNat] at h2))
  | ((with_reducible refine' r_app ?hx ?hl ?_); (case hx => walk_at "at"); (case hl => first | exact Nat.lt_of_ble_eq_true rfl | omega); intro H2 k2 h2)
  | ((with_reducible refine' ty_list ?hx ?_); (case hx => walk_at "at"))
  | (refine And.intro (by (with_reducible show _ ≤ sizeLine); walk_at "sz") ?_; walk_at "new")
  | with_reducible refine s_exv ?_
  | walk_at "newx")
local macro_rules | `(tactic| walk_at "sx") => `(tactic| repeat (walk_at "s1"))
local macro_rules | `(tactic| walk_at "s2") => `(tactic| first
  | ((with_reducible refine' r_ixG ?hx ?hn ?_); (case hx => walk_at "at"); (case hn => omega))
  | ((with_reducible refine' r_ixGT ?hx ?hn ?_); (case hx => walk_at "at"); (case hn => omega))
  | (with_reducible refine ig_cons (fun hix => ?_) (fun hix => ?_))
  | ((with_reducible refine ig_nil ?_); omega)
  | ((with_reducible refine' i_T ?hc ?_); (case hc => omega))
  | ((with_reducible refine' i_F ?hc ?_); (case hc => omega))
  | (with_reducible refine i_2 (fun hc => ?_) (fun hc => ?_))
  | (with_reducible refine i_n2 (fun hc => ?_) (fun hc => ?_)))
local macro_rules | `(tactic| walk_at "go") => `(tactic| repeat' (first | walk_at "s1" | walk_at "s2"))

local macro_rules | `(tactic| walk_at "s1") => `(tactic| first
  | with_reducible refine s_chain ?_
  | with_reducible refine s_fldS ?_
  | with_reducible refine s_fld ?_
  | with_reducible refine s_dIn ?_
  | with_reducible refine s_dNotIn ?_
  | with_reducible refine s_sl ?_
  | with_reducible refine s_noPart ?_
  | with_reducible refine s_part ?_
  | with_reducible refine s_meth ?_
  | with_reducible refine s_make ?_)

section
variable {P : Program} {w : World} {K : PySem.W.Frag} {mg : Str → Option Value} {base : Heap} {A : Ad}
theorem nat_perm {l : List Nat} {ns : List Int} (p : ns.Perm (l.map fun m : Nat => (m : Int))) : ∃ ms : List Nat, ns = (ms.map fun m : Nat => (m : Int)) ∧ ms.Perm l := by
  have z := p.map Int.toNat
  have e : (l.map fun m : Nat => (m : Int)).map Int.toNat = l := by
    rw [List.map_map]
    exact (List.map_congr_left fun x _ => rfl).trans (List.map_id l)
  refine ⟨ns.map Int.toNat, ?_, by rw [e] at z; exact z⟩
  rw [List.map_map]
  refine (List.map_id ns).symm.trans (List.map_congr_left fun x hx => ?_)
  obtain ⟨m, _, rfl⟩ := List.mem_map.mp (p.mem_iff.mp hx)
  rfl
theorem ix10 {d : Int} (l : 0 ≤ d) (u : d < 10) : ∃ s : Nat, s ≤ 4 ∧ atI [V.int 4, .int 3, .int 2, .int 4, .int 3, .int 1, .int 4, .int 3, .int 2, .int 0] d = some (.int s) := by
  have h : d = 0 ∨ d = 1 ∨ d = 2 ∨ d = 3 ∨ d = 4 ∨ d = 5 ∨ d = 6 ∨ d = 7 ∨ d = 8 ∨ d = 9 := by omega
  rcases h with rfl | rfl | rfl | rfl | rfl | rfl | rfl | rfl | rfl | rfl
  · exact ⟨4, by decide, rfl⟩
  · exact ⟨3, by decide, rfl⟩
  · exact ⟨2, by decide, rfl⟩
  · exact ⟨4, by decide, rfl⟩
  · exact ⟨3, by decide, rfl⟩
  · exact ⟨1, by decide, rfl⟩
  · exact ⟨4, by decide, rfl⟩
  · exact ⟨3, by decide, rfl⟩
  · exact ⟨2, by decide, rfl⟩
  · exact ⟨0, by decide, rfl⟩
theorem ix10b {d : Int} (l : 0 ≤ d) (u : d < 10) : ∃ s : Nat, s ≤ 6 ∧ atI [V.int 5, .int 4, .int 3, .int 6, .int 4, .int 5, .int 2, .int 3, .int 1, .int 0] d = some (.int s) := by
  have h : d = 0 ∨ d = 1 ∨ d = 2 ∨ d = 3 ∨ d = 4 ∨ d = 5 ∨ d = 6 ∨ d = 7 ∨ d = 8 ∨ d = 9 := by omega
  rcases h with rfl | rfl | rfl | rfl | rfl | rfl | rfl | rfl | rfl | rfl
  · exact ⟨5, by decide, rfl⟩
  · exact ⟨4, by decide, rfl⟩
  · exact ⟨3, by decide, rfl⟩
  · exact ⟨6, by decide, rfl⟩
  · exact ⟨4, by decide, rfl⟩
  · exact ⟨5, by decide, rfl⟩
  · exact ⟨2, by decide, rfl⟩
  · exact ⟨3, by decide, rfl⟩
  · exact ⟨1, by decide, rfl⟩
  · exact ⟨0, by decide, rfl⟩
theorem keep_new {a D : Addr} {H H8 H9 : Hp} (k : Keep a H H8) (n : H D = none) (k9 : Keep D H8 H9) : Keep a H H9 := fun b o hb h => k9 b o (ne_of_none h n) (k b o hb h)
/-- numbers drawn, none twice -/
structure Fd (n : Nat) (fs : List Nat) : Prop where
  nd : fs.Nodup
  lt : ∀ m ∈ fs, m < 2 ^ n
  ne : fs ≠ []
  few : fs.length ≤ 12
def spWalk : Sp := fun vs H Q _ => ∃ (a : Addr) (n : Nat), vs = [.ref a, .int n, .int 12] ∧ Flow H a ∧ n ≤ 6 ∧ ∀ (p : Addr) (ns : List Nat) H', Flow H' a → Keep a H H' → H' p = some (.lst (ns.map nv)) → Nums n ns → ns.length ≤ 12 → Q (.ref p) H'
theorem ok_walk (T : Txt P K mg A) : FnOk P w K mg base CX0 2 A.a__law_walk A.d__law_walk ["flow", "size", "most"] spWalk := by
  refine T.F__law_walk.ok sc__law_walk (fun vs H Q E h => ?_) (fun cdv A' outer s H vs Q E hr h => ?_)
  · obtain ⟨a, n, rfl, _⟩ := h
    rfl
  · obtain ⟨a, n, rfl, hF, sn, k⟩ := h
    have G__law_take := ok_take (w := w) (base := base) T
    have G__law_full := ok_full (w := w) (base := base) T
    refine ⟨_, (pss_cons (ps_set (i := 3) sc__law_walk.nd rfl (Or.inl rfl) (pe_call G__law_full (hr.mono (by decide)) rfl T.g__law_full T.F__law_full.kp (B__law_full T) .nil pass0 (pa_cons (pv 1) pa_nil)))
  (pss_cons (ps_set (i := 4) sc__law_walk.nd rfl (Or.inl rfl) (pe_lst (pa_cons (pe_call G__law_take (hr.mono (by decide)) rfl T.g__law_take T.F__law_take.kp (B__law_take T) .nil pass0 (pa_cons (pv 0) (pa_cons (pv 3) pa_nil))) pa_nil)))
  (pss_cons (ps_set (i := 5) sc__law_walk.nd rfl (Or.inl rfl) (pv 2))
  (pss_cons (ps_if (pt_cmpR op_eq (pe_call G__law_take (hr.mono (by decide)) rfl T.g__law_take T.F__law_take.kp (B__law_take T) .nil pass0 (pa_cons (pv 0) (pa_cons pe_int pa_nil))) pe_int (nomark _)) (pss_one (ps_set (i := 5) sc__law_walk.nd rfl (Or.inl rfl) (pe_op op_add pe_int (pe_call G__law_take (hr.mono (by decide)) rfl T.g__law_take T.F__law_take.kp (B__law_take T) .nil pass0 (pa_cons (pv 0) (pa_cons (pv 2) pa_nil)))))) pss_nil)
  (pss_cons (ps_for PassesOwn.never rfl (pi_range1 rfl T.n_range (pa_cons (pe_op op_mul pe_int (pv 2)) pa_nil)) (pg_name (i := 6) sc__law_walk.nd rfl (Or.inl rfl))
  (pss_one (ps_if (pt_cmpR op_lt (pe_callB call_len (by rfl) T.n_len (by decide +kernel) (pa_cons (pv 4) pa_nil)) (pv 5) (nomark _)) (pss_cons (ps_set (i := 7) sc__law_walk.nd rfl (Or.inl rfl) (pe_ix ix_seq (pv 4) (pe_call G__law_take (hr.mono (by decide)) rfl T.g__law_take T.F__law_take.kp (B__law_take T) .nil pass0 (pa_cons (pv 0) (pa_cons (pe_callB call_len (by rfl) T.n_len (by decide +kernel) (pa_cons (pv 4) pa_nil)) pa_nil))) (fun _ _ => rfl)))
  (pss_cons (ps_set (i := 8) sc__law_walk.nd rfl (Or.inl rfl) (pe_call G__law_take (hr.mono (by decide)) rfl T.g__law_take T.F__law_take.kp (B__law_take T) .nil pass0 (pa_cons (pv 0) (pa_cons pe_int pa_nil))))
  (pss_cons (ps_if (pt_cmpR op_eq (pv 8) pe_int (nomark _)) (pss_one (ps_set (i := 7) sc__law_walk.nd rfl (Or.inl rfl) (pe_call G__law_take (hr.mono (by decide)) rfl T.g__law_take T.F__law_take.kp (B__law_take T) .nil pass0 (pa_cons (pv 0) (pa_cons (pv 3) pa_nil))))) (pss_one (ps_if (pt_cmpR op_lt (pv 8) pe_int (nomark _)) (pss_one (ps_set (i := 7) sc__law_walk.nd rfl (Or.inl rfl) (pe_op op_xor (pe_op op_xor (pv 7) (pe_ix ix_seq (pv 4) (pe_call G__law_take (hr.mono (by decide)) rfl T.g__law_take T.F__law_take.kp (B__law_take T) .nil pass0 (pa_cons (pv 0) (pa_cons (pe_callB call_len (by rfl) T.n_len (by decide +kernel) (pa_cons (pv 4) pa_nil)) pa_nil))) (fun _ _ => rfl))) (pe_ix ix_seq (pv 4) (pe_call G__law_take (hr.mono (by decide)) rfl T.g__law_take T.F__law_take.kp (B__law_take T) .nil pass0 (pa_cons (pv 0) (pa_cons (pe_callB call_len (by rfl) T.n_len (by decide +kernel) (pa_cons (pv 4) pa_nil)) pa_nil))) (fun _ _ => rfl))))) (pss_one (ps_if (pt_cmpR op_gt (pv 1) pe_int (nomark _)) (pss_one (ps_set (i := 7) sc__law_walk.nd rfl (Or.inl rfl) (pe_op op_xor (pv 7) (pe_call G__law_full (hr.mono (by decide)) rfl T.g__law_full T.F__law_full.kp (B__law_full T) .nil pass0 (pa_cons (pe_call G__law_take (hr.mono (by decide)) rfl T.g__law_take T.F__law_take.kp (B__law_take T) .nil pass0 (pa_cons (pv 0) (pa_cons (pv 1) pa_nil))) pa_nil))))) pss_nil)))))
  (pss_one (ps_if (pt_cmpR op_notIn_seq (pv 7) (pv 4) rfl) (pss_one (ps_expr (pe_bm PySem.F.plainAttrs_list PySem.F.slot_list_append PySem.F.type_list_append mt_append (pv 4) (pa_cons (pv 7) pa_nil)))) pss_nil))))) pss_nil)))
  (pss_one (ps_ret (pe_callB cr_sortedI (by rfl) T.n_sorted (by decide +kernel) (pa_cons (pv 4) pa_nil))))))))), ?_⟩
    obtain ⟨pp, epp⟩ : ∃ pp, pp = 2 ^ n := ⟨_, rfl⟩
    have p1 : 0 < pp := by rw [epp]; exact Nat.pow_pos (by decide)
    have p8 : pp ≤ 64 := by rw [epp]; exact (show 2 ^ n ≤ 2 ^ 6 from Nat.pow_le_pow_right (by decide) sn)
    walk_at "sx"
    refine ⟨n, rfl, sn, fun H1 s1 => ?_⟩
    rw [← epp]
    walk_at "sx"
    refine c_take (hF.same s1) (by omega) (by omega) (fun d1 H2 l1 u1 F2 K2 => ?_)
    obtain ⟨m1, rfl⟩ := Int.eq_ofNat_of_zero_le l1
    walk_at "sx"
    rename_i pf npf H3 s3 h3
    have hf3 : True → H3 pf = some (.lst ([m1].map nv)) := fun _ => h3
    clear h3
    have K3 : Keep a H H3 := (Keep.same s1).trans (K2.trans (Keep.same s3))
    have F3 := F2.same s3
    have hfa : a ≠ pf := F2.ne npf
    have hf0 : H pf = none := Keep.free ((Keep.same s1).trans K2) hfa.symm npf
    refine c_take F3 (by decide) (by decide) (fun d2 H4 l2 u2 F4 K4 => ?_)
    walk_at "sx"
    refine i_2 (fun c0 => ?_) (fun c0 => ?_)
    · walk_at "sx"
      refine c_take F4 (by decide) (by decide) (fun d5 H5 l5 u5 F5 K5 => ?_)
      walk_at "sx"
      obtain ⟨du, edu⟩ : ∃ du, du = 1 + d5 := ⟨_, rfl⟩
      have ldu : du ≤ 12 := by omega
      rw [← edu]
      have FZ := F5
      have KZ : Keep a H H5 := K3.trans (K4.trans K5)
      have hfZ : True → H5 pf = some (.lst ([m1].map nv)) := fun _ => K5 _ _ hfa.symm (K4 _ _ hfa.symm (hf3 trivial))
      have fd0 : Fd n [m1] := ⟨by simp, fun m hm => by rw [List.mem_singleton.mp hm, ← epp]; omega, by simp, by simp⟩
      refine ⟨_, rfl, 2, 12, rfl, rfl, .inl ⟨by decide, by decide⟩, _, rfl, by decide, by decide, for_range (lo := 0) (n := 24) (fun i σ H' => Flow H' a ∧ Keep a H H' ∧ (∃ fs : List Nat, (True → H' pf = some (.lst (fs.map nv))) ∧ Fd n fs) ∧ ∃ v6 v7 v8 : Option V, σ = [some (.ref a), some (.int n), some (.int 12), some (.int pp), some (.ref pf), some (.int du), v6, v7, v8]) ?_ ?_ ?_⟩
      · exact ⟨FZ, KZ, ⟨_, hfZ, fd0⟩, _, _, _, rfl⟩
      · rintro i σ H' hi ⟨F', K', ⟨fs, hf, fd⟩, v6, v7, v8, rfl⟩
        have lf := fd.few
        have lf0 : 0 < fs.length := List.length_pos_iff.mpr fd.ne
        have at_ : ∀ {d : Int}, 0 ≤ d → d < ((fs.map nv).length : Int) → ∃ m, m ∈ fs ∧ atI (fs.map nv) d = some (.int (m : Nat)) := fun {d} h0 h1 => by
          obtain ⟨j, rfl⟩ := Int.eq_ofNat_of_zero_le h0
          rw [List.length_map] at h1
          have lj : j < fs.length := by omega
          exact ⟨fs[j], List.getElem_mem _, atI_nat (by rw [List.getElem?_map, List.getElem?_eq_getElem lj]; rfl)⟩
        have fin : ∀ (m : Nat) (H6 : Hp) (v6 v8 : Option V) (D : Ends), m < 2 ^ n → fs.length < 12 → Flow H6 a → Keep a H H6 → (True → H6 pf = some (.lst (fs.map nv))) →
            (∀ H7 fs', Flow H7 a → Keep a H H7 → (True → H7 pf = some (.lst (fs'.map nv))) → Fd n fs' → D.nx [some (.ref a), some (.int n), some (.int 12), some (.int pp), some (.ref pf), some (.int du), v6, some (.int m), v8] H7) →
            tIfS (tTest (tOp (rIn K true) (tVar 7) (tVar 4))) (tDrop (tBM K "list" rAppend (tVar 4) (tCons (tVar 7) tNil))) tNext D [some (.ref a), some (.int n), some (.int 12), some (.int pp), some (.ref pf), some (.int du), v6, some (.int m), v8] H6 := by
          intro m H6 v6 v8 D lm l12 F6 K6 hf6 kD
          refine s_ifS (s_test (s_op (s_var rfl (s_var rfl ⟨pf, _, rfl, .inl (SqL.of (hf6 trivial)), rfl, flat_nums fs, ?_⟩))))
          rw [if_pos rfl, in_nums]
          refine ⟨_, rfl, ?_⟩
          refine i_n2 (fun c => ?_) (fun c => ?_)
          · refine s_drop (s_bm (s_var rfl (ty_list (hf6 trivial) (s_cons (s_var rfl (s_nil (r_app (hf6 trivial) (by rw [List.length_map, sizeLine_eq]; omega) fun H7 k7 h7 => ?_)))))))
            refine kD H7 (fs ++ [m]) (F6.keep k7 hfa) (keep_new K6 hf0 k7) (fun _ => by rw [h7, List.map_append]; rfl) ⟨?_, fun x hx => ?_, by simp, by simp; omega⟩
            · rw [List.nodup_append]
              refine ⟨fd.nd, by simp, fun x hx y hy e => ?_⟩
              rw [List.mem_singleton.mp hy] at e
              exact c (e ▸ hx)
            · rcases List.mem_append.mp hx with h | h
              · exact fd.lt x h
              · rw [List.mem_singleton.mp h]
                exact lm
          · exact kD H6 fs F6 K6 hf6 fd
        walk_at "sx"
        refine ⟨_, _, rfl, .inl ⟨_, SqL.of (hf trivial), rfl⟩, ?_⟩
        walk_at "sx"
        refine i_2 (fun c => ?_) (fun c => ?_)
        · have l12 : fs.length < 12 := by
            rw [List.length_map] at c
            omega
          walk_at "sx"
          refine ⟨_, _, rfl, .inl ⟨_, SqL.of (hf trivial), rfl⟩, ?_⟩
          walk_at "sx"
          refine c_take F' (by rw [List.length_map]; omega) (by rw [List.length_map]; omega) (fun d6 H6 l6 u6 F6 K6 => ?_)
          have hf6 : True → H6 pf = some (.lst (fs.map nv)) := fun _ => K6 _ _ hfa.symm (hf trivial)
          obtain ⟨m6, in6, at6⟩ := at_ l6 u6
          refine r_ixL (hf6 trivial) at6 ?_
          walk_at "sx"
          refine c_take F6 (by decide) (by decide) (fun d7 H7 l7 u7 F7 K7 => ?_)
          have hf7 : True → H7 pf = some (.lst (fs.map nv)) := fun _ => K7 _ _ hfa.symm (hf6 trivial)
          have K07 : Keep a H H7 := K'.trans (K6.trans K7)
          walk_at "sx"
          refine i_2 (fun c0 => ?_) (fun c0 => ?_)
          · walk_at "sx"
            refine c_take F7 (by omega) (by omega) (fun d8 H8 l8 u8 F8 K8 => ?_)
            obtain ⟨m8, rfl⟩ := Int.eq_ofNat_of_zero_le l8
            refine s_name ?_
            exact fin m8 H8 _ _ _ (by rw [← epp]; omega) l12 F8 (K07.trans K8) (fun _ => K8 _ _ hfa.symm (hf7 trivial)) (fun H9 fs' F9 K9 h9 fd9 => ⟨F9, K9, ⟨fs', h9, fd9⟩, _, _, _, rfl⟩)
          · walk_at "sx"
            refine i_2 (fun c1 => ?_) (fun c1 => ?_)
            · walk_at "sx"
              refine ⟨_, _, rfl, .inl ⟨_, SqL.of (hf7 trivial), rfl⟩, ?_⟩
              walk_at "sx"
              refine c_take F7 (by rw [List.length_map]; omega) (by rw [List.length_map]; omega) (fun d8 H8 l8 u8 F8 K8 => ?_)
              have hf8 : True → H8 pf = some (.lst (fs.map nv)) := fun _ => K8 _ _ hfa.symm (hf7 trivial)
              obtain ⟨m8, in8, at8⟩ := at_ l8 u8
              refine r_ixL (hf8 trivial) at8 ?_
              refine r_I0 ?_
              rw [bxor_n]
              walk_at "sx"
              refine ⟨_, _, rfl, .inl ⟨_, SqL.of (hf8 trivial), rfl⟩, ?_⟩
              walk_at "sx"
              refine c_take F8 (by rw [List.length_map]; omega) (by rw [List.length_map]; omega) (fun d9 H9 l9 u9 F9 K9 => ?_)
              have hf9 : True → H9 pf = some (.lst (fs.map nv)) := fun _ => K9 _ _ hfa.symm (hf8 trivial)
              obtain ⟨m9, in9, at9⟩ := at_ l9 u9
              refine r_ixL (hf9 trivial) at9 ?_
              refine r_I0 ?_
              rw [bxor_n]
              refine s_name ?_
              exact fin _ H9 _ _ _ (Nat.xor_lt_two_pow (Nat.xor_lt_two_pow (fd.lt _ in6) (fd.lt _ in8)) (fd.lt _ in9)) l12 F9 (K07.trans (K8.trans K9)) hf9 (fun H9 fs' F9 K9 h9 fd9 => ⟨F9, K9, ⟨fs', h9, fd9⟩, _, _, _, rfl⟩)
            · walk_at "sx"
              refine i_2 (fun c2 => ?_) (fun c2 => ?_)
              · walk_at "sx"
                refine c_take F7 (by omega) (by omega) (fun d8 H8 l8 u8 F8 K8 => ?_)
                obtain ⟨m8, rfl⟩ := Int.eq_ofNat_of_zero_le l8
                walk_at "sx"
                refine ⟨m8, rfl, by omega, fun H9 s9 => ?_⟩
                refine r_I0 ?_
                rw [bxor_n]
                refine s_name ?_
                refine fin _ H9 _ _ _ (Nat.xor_lt_two_pow (fd.lt _ in6) ?_) l12 (F8.same s9) (K07.trans (K8.trans (Keep.same s9))) (fun _ => s9 _ _ (K8 _ _ hfa.symm (hf7 trivial))) (fun H9 fs' F9 K9 h9 fd9 => ⟨F9, K9, ⟨fs', h9, fd9⟩, _, _, _, rfl⟩)
                exact Nat.pow_lt_pow_right (by decide) (by omega)
              · walk_at "s1"
                exact fin m6 H7 _ _ _ (fd.lt _ in6) l12 F7 K07 hf7 (fun H9 fs' F9 K9 h9 fd9 => ⟨F9, K9, ⟨fs', h9, fd9⟩, _, _, _, rfl⟩)
        · walk_at "sx"
          exact ⟨F', K', ⟨fs, hf, fd⟩, _, _, _, rfl⟩
      · rintro σ H' ⟨F', K', ⟨fs, hf, fd⟩, v6, v7, v8, rfl⟩
        walk_at "sx"
        refine ⟨pf, fs.map fun m : Nat => (m : Int), rfl, SqL.of (by rw [List.map_map]; exact hf trivial), fun ns' q pm pw nq => ?_⟩
        obtain ⟨ms, rfl, pms⟩ := nat_perm pm
        generalize hE : upd H' q _ = H6
        have s6 := new_same nq hE
        have g6 := new_at hE
        rw [List.map_map] at g6
        have few := fd.few
        refine k q ms H6 (F'.same s6) (K'.trans (Keep.same s6)) g6 ⟨?_, fun m hm => fd.lt m (pms.mem_iff.mp hm), fun e => fd.ne (by rw [e] at pms; exact pms.symm.eq_nil), by rw [pms.length_eq]; omega⟩ (by rw [pms.length_eq]; omega)
        have nd2 : ms.Nodup := pms.nodup_iff.mpr fd.nd
        have pw2 := List.pairwise_map.mp pw
        exact (List.pairwise_and_iff.mpr ⟨pw2, nd2⟩).imp fun {x y} h => by
          have h1 := h.1
          have h2 := h.2
          omega
    · walk_at "sx"
      have FZ := F4
      have KZ : Keep a H H4 := K3.trans K4
      have hfZ : True → H4 pf = some (.lst ([m1].map nv)) := fun _ => K4 _ _ hfa.symm (hf3 trivial)
      have fd0 : Fd n [m1] := ⟨by simp, fun m hm => by rw [List.mem_singleton.mp hm, ← epp]; omega, by simp, by simp⟩
      refine ⟨_, rfl, 2, 12, rfl, rfl, .inl ⟨by decide, by decide⟩, _, rfl, by decide, by decide, for_range (lo := 0) (n := 24) (fun i σ H' => Flow H' a ∧ Keep a H H' ∧ (∃ fs : List Nat, (True → H' pf = some (.lst (fs.map nv))) ∧ Fd n fs) ∧ ∃ v6 v7 v8 : Option V, σ = [some (.ref a), some (.int n), some (.int 12), some (.int pp), some (.ref pf), some (.int 12), v6, v7, v8]) ?_ ?_ ?_⟩
      · exact ⟨FZ, KZ, ⟨_, hfZ, fd0⟩, _, _, _, rfl⟩
      · rintro i σ H' hi ⟨F', K', ⟨fs, hf, fd⟩, v6, v7, v8, rfl⟩
        have lf := fd.few
        have lf0 : 0 < fs.length := List.length_pos_iff.mpr fd.ne
        have at_ : ∀ {d : Int}, 0 ≤ d → d < ((fs.map nv).length : Int) → ∃ m, m ∈ fs ∧ atI (fs.map nv) d = some (.int (m : Nat)) := fun {d} h0 h1 => by
          obtain ⟨j, rfl⟩ := Int.eq_ofNat_of_zero_le h0
          rw [List.length_map] at h1
          have lj : j < fs.length := by omega
          exact ⟨fs[j], List.getElem_mem _, atI_nat (by rw [List.getElem?_map, List.getElem?_eq_getElem lj]; rfl)⟩
        have fin : ∀ (m : Nat) (H6 : Hp) (v6 v8 : Option V) (D : Ends), m < 2 ^ n → fs.length < 12 → Flow H6 a → Keep a H H6 → (True → H6 pf = some (.lst (fs.map nv))) →
            (∀ H7 fs', Flow H7 a → Keep a H H7 → (True → H7 pf = some (.lst (fs'.map nv))) → Fd n fs' → D.nx [some (.ref a), some (.int n), some (.int 12), some (.int pp), some (.ref pf), some (.int 12), v6, some (.int m), v8] H7) →
            tIfS (tTest (tOp (rIn K true) (tVar 7) (tVar 4))) (tDrop (tBM K "list" rAppend (tVar 4) (tCons (tVar 7) tNil))) tNext D [some (.ref a), some (.int n), some (.int 12), some (.int pp), some (.ref pf), some (.int 12), v6, some (.int m), v8] H6 := by
          intro m H6 v6 v8 D lm l12 F6 K6 hf6 kD
          refine s_ifS (s_test (s_op (s_var rfl (s_var rfl ⟨pf, _, rfl, .inl (SqL.of (hf6 trivial)), rfl, flat_nums fs, ?_⟩))))
          rw [if_pos rfl, in_nums]
          refine ⟨_, rfl, ?_⟩
          refine i_n2 (fun c => ?_) (fun c => ?_)
          · refine s_drop (s_bm (s_var rfl (ty_list (hf6 trivial) (s_cons (s_var rfl (s_nil (r_app (hf6 trivial) (by rw [List.length_map, sizeLine_eq]; omega) fun H7 k7 h7 => ?_)))))))
            refine kD H7 (fs ++ [m]) (F6.keep k7 hfa) (keep_new K6 hf0 k7) (fun _ => by rw [h7, List.map_append]; rfl) ⟨?_, fun x hx => ?_, by simp, by simp; omega⟩
            · rw [List.nodup_append]
              refine ⟨fd.nd, by simp, fun x hx y hy e => ?_⟩
              rw [List.mem_singleton.mp hy] at e
              exact c (e ▸ hx)
            · rcases List.mem_append.mp hx with h | h
              · exact fd.lt x h
              · rw [List.mem_singleton.mp h]
                exact lm
          · exact kD H6 fs F6 K6 hf6 fd
        walk_at "sx"
        refine ⟨_, _, rfl, .inl ⟨_, SqL.of (hf trivial), rfl⟩, ?_⟩
        walk_at "sx"
        refine i_2 (fun c => ?_) (fun c => ?_)
        · have l12 : fs.length < 12 := by
            rw [List.length_map] at c
            omega
          walk_at "sx"
          refine ⟨_, _, rfl, .inl ⟨_, SqL.of (hf trivial), rfl⟩, ?_⟩
          walk_at "sx"
          refine c_take F' (by rw [List.length_map]; omega) (by rw [List.length_map]; omega) (fun d6 H6 l6 u6 F6 K6 => ?_)
          have hf6 : True → H6 pf = some (.lst (fs.map nv)) := fun _ => K6 _ _ hfa.symm (hf trivial)
          obtain ⟨m6, in6, at6⟩ := at_ l6 u6
          refine r_ixL (hf6 trivial) at6 ?_
          walk_at "sx"
          refine c_take F6 (by decide) (by decide) (fun d7 H7 l7 u7 F7 K7 => ?_)
          have hf7 : True → H7 pf = some (.lst (fs.map nv)) := fun _ => K7 _ _ hfa.symm (hf6 trivial)
          have K07 : Keep a H H7 := K'.trans (K6.trans K7)
          walk_at "sx"
          refine i_2 (fun c0 => ?_) (fun c0 => ?_)
          · walk_at "sx"
            refine c_take F7 (by omega) (by omega) (fun d8 H8 l8 u8 F8 K8 => ?_)
            obtain ⟨m8, rfl⟩ := Int.eq_ofNat_of_zero_le l8
            refine s_name ?_
            exact fin m8 H8 _ _ _ (by rw [← epp]; omega) l12 F8 (K07.trans K8) (fun _ => K8 _ _ hfa.symm (hf7 trivial)) (fun H9 fs' F9 K9 h9 fd9 => ⟨F9, K9, ⟨fs', h9, fd9⟩, _, _, _, rfl⟩)
          · walk_at "sx"
            refine i_2 (fun c1 => ?_) (fun c1 => ?_)
            · walk_at "sx"
              refine ⟨_, _, rfl, .inl ⟨_, SqL.of (hf7 trivial), rfl⟩, ?_⟩
              walk_at "sx"
              refine c_take F7 (by rw [List.length_map]; omega) (by rw [List.length_map]; omega) (fun d8 H8 l8 u8 F8 K8 => ?_)
              have hf8 : True → H8 pf = some (.lst (fs.map nv)) := fun _ => K8 _ _ hfa.symm (hf7 trivial)
              obtain ⟨m8, in8, at8⟩ := at_ l8 u8
              refine r_ixL (hf8 trivial) at8 ?_
              refine r_I0 ?_
              rw [bxor_n]
              walk_at "sx"
              refine ⟨_, _, rfl, .inl ⟨_, SqL.of (hf8 trivial), rfl⟩, ?_⟩
              walk_at "sx"
              refine c_take F8 (by rw [List.length_map]; omega) (by rw [List.length_map]; omega) (fun d9 H9 l9 u9 F9 K9 => ?_)
              have hf9 : True → H9 pf = some (.lst (fs.map nv)) := fun _ => K9 _ _ hfa.symm (hf8 trivial)
              obtain ⟨m9, in9, at9⟩ := at_ l9 u9
              refine r_ixL (hf9 trivial) at9 ?_
              refine r_I0 ?_
              rw [bxor_n]
              refine s_name ?_
              exact fin _ H9 _ _ _ (Nat.xor_lt_two_pow (Nat.xor_lt_two_pow (fd.lt _ in6) (fd.lt _ in8)) (fd.lt _ in9)) l12 F9 (K07.trans (K8.trans K9)) hf9 (fun H9 fs' F9 K9 h9 fd9 => ⟨F9, K9, ⟨fs', h9, fd9⟩, _, _, _, rfl⟩)
            · walk_at "sx"
              refine i_2 (fun c2 => ?_) (fun c2 => ?_)
              · walk_at "sx"
                refine c_take F7 (by omega) (by omega) (fun d8 H8 l8 u8 F8 K8 => ?_)
                obtain ⟨m8, rfl⟩ := Int.eq_ofNat_of_zero_le l8
                walk_at "sx"
                refine ⟨m8, rfl, by omega, fun H9 s9 => ?_⟩
                refine r_I0 ?_
                rw [bxor_n]
                refine s_name ?_
                refine fin _ H9 _ _ _ (Nat.xor_lt_two_pow (fd.lt _ in6) ?_) l12 (F8.same s9) (K07.trans (K8.trans (Keep.same s9))) (fun _ => s9 _ _ (K8 _ _ hfa.symm (hf7 trivial))) (fun H9 fs' F9 K9 h9 fd9 => ⟨F9, K9, ⟨fs', h9, fd9⟩, _, _, _, rfl⟩)
                exact Nat.pow_lt_pow_right (by decide) (by omega)
              · walk_at "s1"
                exact fin m6 H7 _ _ _ (fd.lt _ in6) l12 F7 K07 hf7 (fun H9 fs' F9 K9 h9 fd9 => ⟨F9, K9, ⟨fs', h9, fd9⟩, _, _, _, rfl⟩)
        · walk_at "sx"
          exact ⟨F', K', ⟨fs, hf, fd⟩, _, _, _, rfl⟩
      · rintro σ H' ⟨F', K', ⟨fs, hf, fd⟩, v6, v7, v8, rfl⟩
        walk_at "sx"
        refine ⟨pf, fs.map fun m : Nat => (m : Int), rfl, SqL.of (by rw [List.map_map]; exact hf trivial), fun ns' q pm pw nq => ?_⟩
        obtain ⟨ms, rfl, pms⟩ := nat_perm pm
        generalize hE : upd H' q _ = H6
        have s6 := new_same nq hE
        have g6 := new_at hE
        rw [List.map_map] at g6
        have few := fd.few
        refine k q ms H6 (F'.same s6) (K'.trans (Keep.same s6)) g6 ⟨?_, fun m hm => fd.lt m (pms.mem_iff.mp hm), fun e => fd.ne (by rw [e] at pms; exact pms.symm.eq_nil), by rw [pms.length_eq]; omega⟩ (by rw [pms.length_eq]; omega)
        have nd2 : ms.Nodup := pms.nodup_iff.mpr fd.nd
        have pw2 := List.pairwise_map.mp pw
        exact (List.pairwise_and_iff.mpr ⟨pw2, nd2⟩).imp fun {x y} h => by
          have h1 := h.1
          have h2 := h.2
          omega
end
end K35

set_option Elab.async false
set_option linter.all false
set_option maxRecDepth 100000
set_option maxHeartbeats 4000000
namespace K35
open PySem L2 Sx Ct
local macro_rules | `(tactic| walk_at "cond") => `(tactic| first
  | assumption
  | decide
  | exact c_mul_r (by first | decide | omega) (by first | decide | omega)
  | exact c_mul_l (by first | decide | omega) (by first | decide | omega)
  | exact c_div (by first | decide | omega) (by first | decide | omega)
  | exact c_pow (by first | decide | omega) (by first | decide | omega) (by first | decide | omega)
  | omega)
local macro_rules | `(tactic| walk_at "ne") => `(tactic| first
  | assumption
  | (refine Ne.symm ?_; assumption)
  | (refine' Flow.ne ?nh ?nn; (case nn => assumption); (case nh => walk_at "fl"))
  | (refine Ne.symm ?_; refine' Flow.ne ?nh ?nn; (case nn => assumption); (case nh => walk_at "fl"))
  | (refine' ne_of_none ?nh ?nn; (case nn => assumption); (case nh => walk_at "at"))
  | (refine Ne.symm ?_; refine' ne_of_none ?nh ?nn; (case nn => assumption); (case nh => walk_at "at")))
local macro_rules | `(tactic| walk_at "at") => `(tactic| first
  | assumption
  | (refine Same.up (by assumption) ?_; walk_at "at")
  | (refine Keep.up (by assumption) (by walk_at "ne") ?_; walk_at "at"))
local macro_rules | `(tactic| walk_at "fl") => `(tactic| first
  | assumption
  | (refine Flow.same (by assumption) ?_; walk_at "fl")
  | (refine Flow.keep (by assumption) (by walk_at "ne") ?_; walk_at "fl"))
local macro_rules | `(tactic| walk_at "fr") => `(tactic| first
  | assumption
  | (refine same_free (by assumption) ?_; walk_at "fr")
  | (refine Keep.free (by assumption) (by walk_at "ne") ?_; walk_at "fr"))
local macro_rules | `(tactic| walk_at "kp") => `(tactic| first
  | assumption
  | exact Keep.refl _ _
  | (refine Keep.trans ?_ (by assumption); walk_at "kp")
  | (refine Keep.trans ?_ (Keep.same (by assumption)); walk_at "kp"))
local macro_rules | `(tactic| walk_at "sm") => `(tactic| first
  | assumption
  | exact L2.Same.refl _
  | (refine L2.Same.trans ?_ (by assumption); walk_at "sm"))
local macro_rules | `(tactic| walk_at "sz") => `(tactic| first | exact Nat.le_of_ble_eq_true rfl | omega)
local macro_rules | `(tactic| walk_at "new") => `(tactic| (intro p np; generalize hE : upd _ p _ = H2; have s2 := new_same np hE; have h2 := new_at hE; clear hE))
local macro_rules | `(tactic| walk_at "newx") => `(tactic| (intro e d na nd hda; generalize hE : upd (upd _ d _) e _ = H2; have s2 := newx_same na nd hE; have h2 := newx_at hE; have h3 := newx_d hda hE; clear hE))
local macro_rules | `(tactic| walk_at "s1") => `(tactic| first
  | with_reducible refine s_seq ?_
  | with_reducible refine s_asg ?_
  | with_reducible refine s_name ?_
  | with_reducible refine s_ret ?_
  | with_reducible refine s_c ?_
  | ((with_reducible refine' s_var ?hv ?_); (case hv => rfl))
  | with_reducible refine s_op ?_
  | with_reducible refine s_un ?_
  | with_reducible refine s_ifS ?_
  | with_reducible refine s_cb ?_
  | with_reducible refine s_cons ?_
  | with_reducible refine s_nil ?_
  | with_reducible refine s_call ?_
  | with_reducible refine s_test ?_
  | with_reducible refine s_tB ?_
  | with_reducible refine s_bl ?_
  | with_reducible refine s_and ?_
  | with_reducible refine s_or ?_
  | with_reducible refine s_not ?_
  | with_reducible refine s_andV ?_
  | with_reducible refine s_orV ?_
  | with_reducible refine s_notV ?_
  | with_reducible refine s_blV ?_
  | with_reducible refine s_if ?_
  | with_reducible refine s_tup ?_
  | with_reducible refine s_lst ?_
  | with_reducible refine s_drop ?_
  | with_reducible refine s_next ?_
  | with_reducible refine s_sub ?_
  | with_reducible refine s_bm ?_
  | with_reducible refine s_callK ?_
  | with_reducible refine s_brk ?_
  | with_reducible refine s_cont ?_
  | with_reducible refine r_I0 ?_
  | with_reducible refine r_U ?_
  | with_reducible refine r_eqI ?_
  | with_reducible refine r_neI ?_
  | with_reducible refine r_isB ?_
  | with_reducible refine r_notB ?_
  | with_reducible refine i_t ?_
  | with_reducible refine i_f ?_
  | with_reducible refine i_nt ?_
  | with_reducible refine i_nf ?_
  | ((with_reducible refine' r_I ?hc ?_); (case hc => walk_at "cond"))
  | (with_reducible refine .inl ⟨_, rfl, ?_⟩)
  | (with_reducible refine ⟨_, rfl, ?_⟩)
  | ((with_reducible refine' r_ixL ?hx ?ha ?_); (case hx => walk_at "at"); (case ha => rfl))
  | ((with_reducible refine' r_ixT ?hx ?ha ?_); (case hx => walk_at "at"); (case ha => rfl))
  | ((with_reducible refine' r_setL ?hx ?ha ?_); (case hx => walk_at "at"); (case ha => rfl); intro H2 k2 h2; (try dsimp only [List.set, Int.toNat] at h2))
  | ((with_reducible refine' r_app ?hx ?hl ?_); (case hx => walk_at "at"); (case hl => first | exact Nat.lt_of_ble_eq_true rfl | omega); intro H2 k2 h2)
  | ((with_reducible refine' ty_list ?hx ?_); (case hx => walk_at "at"))
  | (refine And.intro (by (with_reducible show _ ≤ sizeLine); walk_at "sz") ?_; walk_at "new")
  | with_reducible refine s_exv ?_
  | walk_at "newx")
local macro_rules | `(tactic| walk_at "sx") => `(tactic| repeat (walk_at "s1"))
local macro_rules | `(tactic| walk_at "s2") => `(tactic| first
  | ((with_reducible refine' r_ixG ?hx ?hn ?_); (case hx => walk_at "at"); (case hn => omega))
  | ((with_reducible refine' r_ixGT ?hx ?hn ?_); (case hx => walk_at "at"); (case hn => omega))
  | (with_reducible refine ig_cons (fun hix => ?_) (fun hix => ?_))
  | ((with_reducible refine ig_nil ?_); omega)
  | ((with_reducible refine' i_T ?hc ?_); (case hc => omega))
  | ((with_reducible refine' i_F ?hc ?_); (case hc => omega))
  | (with_reducible refine i_2 (fun hc => ?_) (fun hc => ?_))
  | (with_reducible refine i_n2 (fun hc => ?_) (fun hc => ?_)))
local macro_rules | `(tactic| walk_at "go") => `(tactic| repeat' (first | walk_at "s1" | walk_at "s2"))

local macro_rules | `(tactic| walk_at "s1") => `(tactic| first
  | with_reducible refine s_chain ?_
  | with_reducible refine s_fldS ?_
  | with_reducible refine s_fld ?_
  | with_reducible refine s_dIn ?_
  | with_reducible refine s_dNotIn ?_
  | with_reducible refine s_sl ?_
  | with_reducible refine s_noPart ?_
  | with_reducible refine s_part ?_
  | with_reducible refine s_meth ?_
  | with_reducible refine s_make ?_)

section
variable {P : Program} {w : World} {K : PySem.W.Frag} {mg : Str → Option Value} {base : Heap} {A : Ad}
def spNums : Sp := fun vs H Q _ => ∃ a, vs = [.ref a] ∧ Flow H a ∧ ∀ (q l : Addr) (n : Nat) (ns : List Nat) H', Flow H' a → Keep a H H' → H' q = some (.lst [.int n, .ref l]) → H' l = some (.lst (ns.map nv)) → Nums n ns → ns.length ≤ 12 → n ≤ 6 → Q (.ref q) H'
theorem ok_nums (T : Txt P K mg A) : FnOk P w K mg base CX0 3 A.a__law_numbers A.d__law_numbers ["flow"] spNums := by
  refine T.F__law_numbers.ok sc__law_numbers (fun vs H Q E h => ?_) (fun cdv A' outer s H vs Q E hr h => ?_)
  · obtain ⟨a, rfl, _⟩ := h
    rfl
  · obtain ⟨a, rfl, hF, k⟩ := h
    have G__law_take := ok_take (w := w) (base := base) T
    have G__law_full := ok_full (w := w) (base := base) T
    have G__law_walk := ok_walk (w := w) (base := base) T
    refine ⟨_, (pss_cons (ps_set (i := 1) sc__law_numbers.nd rfl (Or.inl rfl) (pe_call G__law_take (hr.mono (by decide)) rfl T.g__law_take T.F__law_take.kp (B__law_take T) .nil pass0 (pa_cons (pv 0) (pa_cons pe_int pa_nil))))
  (pss_cons (ps_if (pt_cmpR op_lt (pv 1) pe_int (nomark _)) (pss_cons (ps_set (i := 2) sc__law_numbers.nd rfl (Or.inl rfl) (pe_ix ix_seq (pe_lst (pa_cons pe_int (pa_cons pe_int (pa_cons pe_int (pa_cons pe_int (pa_cons pe_int (pa_cons pe_int (pa_cons pe_int (pa_cons pe_int (pa_cons pe_int (pa_cons pe_int pa_nil))))))))))) (pe_call G__law_take (hr.mono (by decide)) rfl T.g__law_take T.F__law_take.kp (B__law_take T) .nil pass0 (pa_cons (pv 0) (pa_cons pe_int pa_nil))) (fun _ _ => rfl)))
  (pss_one (ps_ret (pe_lst (pa_cons (pv 2) (pa_cons (pe_call G__law_walk (hr.mono (by decide)) rfl T.g__law_walk T.F__law_walk.kp (B__law_walk T) .nil pass0 (pa_cons (pv 0) (pa_cons (pv 2) (pa_cons pe_int pa_nil)))) pa_nil)))))) pss_nil)
  (pss_cons (ps_set (i := 2) sc__law_numbers.nd rfl (Or.inl rfl) (pe_call G__law_take (hr.mono (by decide)) rfl T.g__law_take T.F__law_take.kp (B__law_take T) .nil pass0 (pa_cons (pv 0) (pa_cons pe_int pa_nil))))
  (pss_cons (ps_set (i := 3) sc__law_numbers.nd rfl (Or.inl rfl) (pe_call G__law_full (hr.mono (by decide)) rfl T.g__law_full T.F__law_full.kp (B__law_full T) .nil pass0 (pa_cons (pv 2) pa_nil)))
  (pss_cons (ps_setLc (i := 4) (own := [("k", 5)]) (g := (gName 5)) (by rfl) sc__law_numbers.nd rfl rfl (sw_true rfl rfl rfl (by decide +kernel)) (pi_range1 rfl T.n_range (pa_cons (pv 3) pa_nil)) (blkOk_by (own := [("k", 5)]) (N := ["flow", "shape", "size", "full", "numbers", "k"]) (sc := defScope s__law_numbers) (by decide +kernel)) (fun _ _ _ _ _ => (pg_name (i := 5) sc__law_numbers.nd rfl (Or.inl rfl))) (fun _ _ _ _ _ => pts_one (pt_cmpR op_gt (pe_call G__law_take (hr.mono (by decide)) rfl T.g__law_take T.F__law_take.kp (B__law_take T) .nil pass0 (pa_cons (pv 0) (pa_cons pe_int pa_nil))) pe_int (nomark _))) (fun _ _ _ _ _ => (pv 5)))
  (pss_cons (ps_if (pt_cmpR op_eq (pe_callB call_len (by rfl) T.n_len (by decide +kernel) (pa_cons (pv 4) pa_nil)) pe_int (nomark _)) (pss_one (ps_set (i := 4) sc__law_numbers.nd rfl (Or.inl rfl) (pe_lst (pa_cons (pe_call G__law_take (hr.mono (by decide)) rfl T.g__law_take T.F__law_take.kp (B__law_take T) .nil pass0 (pa_cons (pv 0) (pa_cons (pv 3) pa_nil))) pa_nil)))) pss_nil)
  (pss_one (ps_ret (pe_lst (pa_cons (pv 2) (pa_cons (pv 4) pa_nil))))))))))), ?_⟩
    walk_at "sx"
    refine c_take hF (by decide) (by decide) (fun d1 H1 l1 u1 F1 K1 => ?_)
    walk_at "sx"
    refine i_2 (fun c1 => ?_) (fun c1 => ?_)
    · walk_at "sx"
      rename_i p4 np4 H4 s4 h4
      refine c_take (F1.same s4) (by decide) (by decide) (fun d5 H5 l5 u5 F5 K5 => ?_)
      obtain ⟨y, hy, ey⟩ := ix10b l5 u5
      have h5 := K5 p4 _ ((F1.ne np4).symm) h4
      refine r_ixL h5 ey ?_
      have K05 : Keep a H H5 := K1.trans ((Keep.same s4).trans K5)
      clear h4 h5
      walk_at "sx"
      refine ⟨a, y, rfl, F5, hy, fun p ns H6 F6 K6 h6 N few => ?_⟩
      walk_at "sx"
      rename_i p7 np7 H7 s7 h7
      exact k p7 p y ns H7 (F6.same s7) (K05.trans (K6.trans (Keep.same s7))) h7 (s7 _ _ h6) N few hy
    · walk_at "sx"
      refine c_take F1 (by decide) (by decide) (fun d2 H3 l2 u2 F3 K3 => ?_)
      obtain ⟨z, rfl⟩ := Int.eq_ofNat_of_zero_le l2
      have hz : z ≤ 3 := by omega
      have K03 : Keep a H H3 := K1.trans K3
      walk_at "sx"
      refine ⟨z, rfl, by omega, fun H4 s4 => ?_⟩
      have F4 := F3.same s4
      have K4 : Keep a H H4 := K03.trans (Keep.same s4)
      obtain ⟨pp, epp⟩ : ∃ pp, pp = 2 ^ z := ⟨_, rfl⟩
      have p8 : pp ≤ 8 := by
        rw [epp]
        exact (show 2 ^ z ≤ 2 ^ 3 from Nat.pow_le_pow_right (by decide) hz)
      have p1 : 0 < pp := by
        rw [epp]
        exact Nat.pow_pos (by decide)
      rw [← epp]
      walk_at "sx"
      refine ⟨_, rfl, _, rfl, by omega, by omega, fun D hD => lc_range (lo := 0) (n := pp) (fun i H' => Flow H' a ∧ Keep a H H' ∧ ∃ ms : List Nat, (True → H' D = some (.lst (ms.map nv))) ∧ ms.Pairwise (· < ·) ∧ (∀ m ∈ ms, m < i) ∧ ms.length ≤ i) ?_ ?_ ?_⟩
      · exact ⟨F4.same (Same.new hD), K4.trans (Keep.same (Same.new hD)), [], fun _ => upd_same, .nil, (fun m (hm : m ∈ []) => by cases hm), Nat.le_refl _⟩
      · rintro i H' hi ⟨F', K', ms, hm, asc, lt, ln⟩
        have hDa : a ≠ D := F4.ne hD
        have hD0 : H D = none := Keep.free K4 hDa.symm hD
        refine s_name ⟨rfl, ?_⟩
        walk_at "sx"
        refine c_take F' (by decide) (by decide) (fun d7 H7 l7 u7 F7 K7 => ?_)
        have hm7 := K7 _ _ hDa.symm (hm trivial)
        walk_at "sx"
        refine i_2 (fun c3 => ?_) (fun c3 => ?_)
        · refine s_var rfl ?_
          rw [Int.zero_add]
          refine ⟨_, hm7, by rw [List.length_map, sizeLine_eq]; omega, F7.keep (put_keep rfl) hDa, keep_new (K'.trans K7) hD0 (put_keep rfl), ms ++ [i], fun _ => by rw [upd_same, List.map_append]; rfl, ?_, fun m hm' => ?_, by simp; omega⟩
          · rw [List.pairwise_append]
            refine ⟨asc, List.pairwise_singleton _ _, fun x hx y hy => ?_⟩
            rw [List.mem_singleton.mp hy]
            exact lt x hx
          · rcases List.mem_append.mp hm' with h | h
            · have := lt m h
              omega
            · rw [List.mem_singleton.mp h]
              omega
        · exact ⟨F7, K'.trans K7, ms, fun _ => hm7, asc, fun m hm' => Nat.lt_succ_of_lt (lt m hm'), by omega⟩
      · rintro H' ⟨F', K', ms, hm, asc, lt, ln⟩
        walk_at "sx"
        refine ⟨_, _, rfl, .inl ⟨_, SqL.of (hm trivial), rfl⟩, ?_⟩
        walk_at "sx"
        refine i_2 (fun c => ?_) (fun c => ?_)
        · walk_at "sx"
          refine c_take F' (by omega) (by omega) (fun d H7 l7 u7 F7 K7 => ?_)
          obtain ⟨m, rfl⟩ := Int.eq_ofNat_of_zero_le l7
          walk_at "sx"
          rename_i p8 np8 H8 s8 h8 p9 np9 H9 s9 h9
          exact k p9 p8 z [m] H9 (F7.same (s8.trans s9)) (K'.trans (K7.trans (Keep.same (s8.trans s9)))) h9 (s9 _ _ h8) ⟨List.pairwise_singleton _ _, fun x hx => by rw [List.mem_singleton.mp hx, ← epp]; omega, by simp, by simp⟩ (by simp) (by omega)
        · walk_at "sx"
          rename_i p9 np9 H9 s9 h9
          exact k p9 D z ms H9 (F'.same s9) (K'.trans (Keep.same s9)) h9 (s9 _ _ (hm trivial)) ⟨asc, fun x hx => by rw [← epp]; exact lt x hx, fun e => c (by rw [e]; rfl), by omega⟩ (by omega) (by omega)
end
end K35

set_option Elab.async false
set_option linter.all false
set_option maxRecDepth 100000
set_option maxHeartbeats 4000000
namespace K35
open PySem L2 Sx Ct
local macro_rules | `(tactic| walk_at "cond") => `(tactic| first
  | assumption
  | decide
  | exact c_mul_r (by first | decide | omega) (by first | decide | omega)
  | exact c_mul_l (by first | decide | omega) (by first | decide | omega)
  | exact c_div (by first | decide | omega) (by first | decide | omega)
  | exact c_pow (by first | decide | omega) (by first | decide | omega) (by first | decide | omega)
  | omega)
local macro_rules | `(tactic| walk_at "ne") => `(tactic| first
  | assumption
  | (refine Ne.symm ?_; assumption)
  | (refine' Flow.ne ?nh ?nn; (case nn => assumption); (case nh => walk_at "fl"))
  | (refine Ne.symm ?_; refine' Flow.ne ?nh ?nn; (case nn => assumption); (case nh => walk_at "fl"))
  | (refine' ne_of_none ?nh ?nn; (case nn => assumption); (case nh => walk_at "at"))
  | (refine Ne.symm ?_; refine' ne_of_none ?nh ?nn; (case nn => assumption); (case nh => walk_at "at")))
local macro_rules | `(tactic| walk_at "at") => `(tactic| first
  | assumption
  | (refine Same.up (by assumption) ?_; walk_at "at")
  | (refine Keep.up (by assumption) (by walk_at "ne") ?_; walk_at "at"))
local macro_rules | `(tactic| walk_at "fl") => `(tactic| first
  | assumption
  | (refine Flow.same (by assumption) ?_; walk_at "fl")
  | (refine Flow.keep (by assumption) (by walk_at "ne") ?_; walk_at "fl"))
local macro_rules | `(tactic| walk_at "fr") => `(tactic| first
  | assumption
  | (refine same_free (by assumption) ?_; walk_at "fr")
  | (refine Keep.free (by assumption) (by walk_at "ne") ?_; walk_at "fr"))
local macro_rules | `(tactic| walk_at "kp") => `(tactic| first
  | assumption
  | exact Keep.refl _ _
  | (refine Keep.trans ?_ (by assumption); walk_at "kp")
  | (refine Keep.trans ?_ (Keep.same (by assumption)); walk_at "kp"))
local macro_rules | `(tactic| walk_at "sm") => `(tactic| first
  | assumption
  | exact L2.Same.refl _
  | (refine L2.Same.trans ?_ (by assumption); walk_at "sm"))
local macro_rules | `(tactic| walk_at "sz") => `(tactic| first | exact Nat.le_of_ble_eq_true rfl | omega)
local macro_rules | `(tactic| walk_at "new") => `(tactic| (intro p np; generalize hE : upd _ p _ = H2; have s2 := new_same np hE; have h2 := new_at hE; clear hE))
local macro_rules | `(tactic| walk_at "newx") => `(tactic| (intro e d na nd hda; generalize hE : upd (upd _ d _) e _ = H2; have s2 := newx_same na nd hE; have h2 := newx_at hE; have h3 := newx_d hda hE; clear hE))
local macro_rules | `(tactic| walk_at "s1") => `(tactic| first
  | with_reducible refine s_seq ?_
  | with_reducible refine s_asg ?_
  | with_reducible refine s_name ?_
  | with_reducible refine s_ret ?_
  | with_reducible refine s_c ?_
  | ((with_reducible refine' s_var ?hv ?_); (case hv => rfl))
  | with_reducible refine s_op ?_
  | with_reducible refine s_un ?_
  | with_reducible refine s_ifS ?_
  | with_reducible refine s_cb ?_
  | with_reducible refine s_cons ?_
  | with_reducible refine s_nil ?_
  | with_reducible refine s_call ?_
  | with_reducible refine s_test ?_
  | with_reducible refine s_tB ?_
  | with_reducible refine s_bl ?_
  | with_reducible refine s_and ?_
  | with_reducible refine s_or ?_
  | with_reducible refine s_not ?_
  | with_reducible refine s_andV ?_
  | with_reducible refine s_orV ?_
  | with_reducible refine s_notV ?_
  | with_reducible refine s_blV ?_
  | with_reducible refine s_if ?_
  | with_reducible refine s_tup ?_
  | with_reducible refine s_lst ?_
  | with_reducible refine s_drop ?_
  | with_reducible refine s_next ?_
  | with_reducible refine s_sub ?_
  | with_reducible refine s_bm ?_
  | with_reducible refine s_callK ?_
  | with_reducible refine s_brk ?_
  | with_reducible refine s_cont ?_
  | with_reducible refine r_I0 ?_
  | with_reducible refine r_U ?_
  | with_reducible refine r_eqI ?_
  | with_reducible refine r_neI ?_
  | with_reducible refine r_isB ?_
  | with_reducible refine r_notB ?_
  | with_reducible refine i_t ?_
  | with_reducible refine i_f ?_
  | with_reducible refine i_nt ?_
  | with_reducible refine i_nf ?_
  | ((with_reducible refine' r_I ?hc ?_); (case hc => walk_at "cond"))
  | (with_reducible refine .inl ⟨_, rfl, ?_⟩)
  | (with_reducible refine ⟨_, rfl, ?_⟩)
  | ((with_reducible refine' r_ixL ?hx ?ha ?_); (case hx => walk_at "at"); (case ha => rfl))
  | ((with_reducible refine' r_ixT ?hx ?ha ?_); (case hx => walk_at "at"); (case ha => rfl))
  | ((with_reducible refine' r_setL ?hx ?ha ?_); (case hx => walk_at "at"); (case ha => rfl); intro H2 k2 h2; (try dsimp only [List.set, Int.toNat] at h2))
  | ((with_reducible refine' r_app ?hx ?hl ?_); (case hx => walk_at "at"); (case hl => first | exact Nat.lt_of_ble_eq_true rfl | omega); intro H2 k2 h2)
  | ((with_reducible refine' ty_list ?hx ?_); (case hx => walk_at "at"))
  | (refine And.intro (by (with_reducible show _ ≤ sizeLine); walk_at "sz") ?_; walk_at "new")
  | with_reducible refine s_exv ?_
  | walk_at "newx")
local macro_rules | `(tactic| walk_at "sx") => `(tactic| repeat (walk_at "s1"))
local macro_rules | `(tactic| walk_at "s2") => `(tactic| first
  | ((with_reducible refine' r_ixG ?hx ?hn ?_); (case hx => walk_at "at"); (case hn => omega))
  | ((with_reducible refine' r_ixGT ?hx ?hn ?_); (case hx => walk_at "at"); (case hn => omega))
  | (with_reducible refine ig_cons (fun hix => ?_) (fun hix => ?_))
  | ((with_reducible refine ig_nil ?_); omega)
  | ((with_reducible refine' i_T ?hc ?_); (case hc => omega))
  | ((with_reducible refine' i_F ?hc ?_); (case hc => omega))
  | (with_reducible refine i_2 (fun hc => ?_) (fun hc => ?_))
  | (with_reducible refine i_n2 (fun hc => ?_) (fun hc => ?_)))
local macro_rules | `(tactic| walk_at "go") => `(tactic| repeat' (first | walk_at "s1" | walk_at "s2"))

local macro_rules | `(tactic| walk_at "s1") => `(tactic| first
  | with_reducible refine s_chain ?_
  | with_reducible refine s_fldS ?_
  | with_reducible refine s_fld ?_
  | with_reducible refine s_dIn ?_
  | with_reducible refine s_dNotIn ?_
  | with_reducible refine s_sl ?_
  | with_reducible refine s_noPart ?_
  | with_reducible refine s_part ?_
  | with_reducible refine s_meth ?_
  | with_reducible refine s_make ?_)

section
variable {P : Program} {w : World} {K : PySem.W.Frag} {mg : Str → Option Value} {base : Heap} {A : Ad}
/-- the law's own sums, not reduced -/
structure Fs (H : Hp) (fs : List Addr) (U : List Q2) : Prop where
  len : fs.length = U.length
  at_ : ∀ r s, fs[r]? = some s → Shr H s (U.getD r (0, 1)).1 (U.getD r (0, 1)).2
theorem Fs.same {H H' : Hp} {fs : List Addr} {U : List Q2} (e : Same H H') (h : Fs H fs U) : Fs H' fs U := ⟨h.len, fun r s hs => e _ _ (h.at_ r s hs)⟩
theorem Fs.keep {H H' : Hp} {fs : List Addr} {U : List Q2} {a : Addr} {xs : List V} (e : Keep a H H') (hl : H a = some (.lst xs)) (h : Fs H fs U) : Fs H' fs U := ⟨h.len, fun r s hs => e _ _ (ne_of (h.at_ r s hs) hl fun z => nomatch z) (h.at_ r s hs)⟩
theorem Fs.put {H : Hp} {fs : List Addr} {U : List Q2} (h : Fs H fs U) {r : Nat} {p : Addr} {q : Q2} (hr : r < U.length) (sh : Shr H p (addq (U.getD r (0, 1)) q).1 (addq (U.getD r (0, 1)) q).2) : Fs H (fs.set r p) (K35.put U r q) := by
  refine ⟨by rw [List.length_set, put_len, h.len], fun x s hs => ?_⟩
  unfold K35.put
  rw [getD_set hr]
  rw [List.getElem?_set] at hs
  by_cases e : x = r
  · subst e
    rw [if_pos rfl, if_pos (by rw [h.len]; exact hr)] at hs
    cases hs
    simp only [if_true]
    exact sh
  · rw [if_neg (fun z => e z.symm)] at hs
    simp only [if_neg e]
    exact h.at_ x s hs
/-- behind the first sides -/
def side (U : List Q2) (a b : Nat) (q : Q2) : Nat → List Q2
  | 0 => U
  | 1 => K35.put U a q
  | _ => K35.put (K35.put U a q) b (flq q)
def upq (q : Q2) : Nat → Int
  | 0 => q.1
  | 1 => (flq q).1
  | _ => (flq (flq q)).1
structure Red (H : Hp) (ss : List Addr) (U : List Q2) : Prop where
  len : ss.length = U.length
  at_ : ∀ r s, ss[r]? = some s → Shr H s (rdU (U.getD r (0, 1)).1 (U.getD r (0, 1)).2) (rdL (U.getD r (0, 1)).1 (U.getD r (0, 1)).2)
def spLM : Sp := fun vs H Q _ => ∃ (l t d : Addr) (n : Nat) (ns : List Nat) (L : List (List Int)) (qs : List (Addr × List Int)) (cs : List (Addr × Q2)), vs = [.ref l, .ref t, .ref d] ∧ H l = some (.lst (ns.map nv)) ∧ H t = some (.lst (qs.map rf)) ∧ TupsAt H qs ∧
  Ties n ns L ∧ qs.map (·.2) = L.map pr ∧ Nums n ns ∧ ns.length ≤ 12 ∧ n ≤ 6 ∧ qs.length < 1000 ∧ H d = some (.tup (cs.map cf)) ∧ ChsAt H cs ∧ cs.length = L.length ∧ ∀ (u : Addr) (ss : List Addr) H', Same H H' → H' u = some (.tup (ss.map V.ref)) → Red H' ss (UU ns.length L (Chq cs) L.length) → Q (.ref u) H'
theorem ok_LM (T : Txt P K mg A) : FnOk P w K mg base CX0 2 A.a__law_means A.d__law_means ["numbers", "ties", "chances"] spLM := by
  refine T.F__law_means.ok sc__law_means (fun vs H Q E h => ?_) (fun cdv A' outer s H vs Q E hr h => ?_)
  · obtain ⟨l, t, d, n, ns, L, qs, cs, rfl, _⟩ := h
    rfl
  · obtain ⟨l, t, d, n, ns, L, qs, cs, rfl, hl0, ht0, tq, tL, eq, N, few, sn, sq, hd0, hc, lc, k⟩ := h
    have G__law_divisor := ok_div (w := w) (base := base) T
    have hl : True → H l = some (.lst (ns.map nv)) := fun _ => hl0
    have ht : True → H t = some (.lst (qs.map rf)) := fun _ => ht0
    have hd : True → H d = some (.tup (cs.map cf)) := fun _ => hd0
    clear hl0 ht0 hd0
    have nd : ns.Nodup := N.asc.imp fun h => Nat.ne_of_lt h
    have qk := qok_of hc
    have lq : (Chq cs).length = L.length := by
      unfold Chq
      rw [List.length_map, lc]
    have lL : qs.length = L.length := by simpa using congrArg List.length eq
    have tie : ∀ t ∈ L, Tie n ns t := fun t ht => (tL.mem t).mp ht
    have dl := fun r k => deg_le nd tL.nd tie r k
    refine ⟨_, (pss_cons (ps_setLc (i := 3) (own := [("number", 13)]) (g := (gName 13)) (by rfl) sc__law_means.nd rfl rfl (sw_true rfl rfl rfl (by decide +kernel)) (pi_list (pv 0)) (blkOk_by (own := [("number", 13)]) (N := ["numbers", "ties", "chances", "found", "k", "upper", "lower", "side", "rule", "ahead", "means", "pair", "divisor", "number"]) (sc := defScope s__law_means) (by decide +kernel)) (fun _ _ _ _ _ => (pg_name (i := 13) sc__law_means.nd rfl (Or.inl rfl))) (fun _ _ _ _ _ => pts_nil) (fun _ _ _ _ _ => (pe_tup (pa_cons pe_int (pa_cons pe_int pa_nil)))))
  (pss_cons (ps_for PassesOwn.never rfl (pi_range1 rfl T.n_range (pa_cons (pe_callB call_len (by rfl) T.n_len (by decide +kernel) (pa_cons (pv 1) pa_nil)) pa_nil)) (pg_name (i := 4) sc__law_means.nd rfl (Or.inl rfl))
  (pss_cons (ps_set (i := 5) sc__law_means.nd rfl (Or.inl rfl) (pe_ix ix_seq (pe_ix ix_seq (pv 2) (pv 4) (fun _ _ => rfl)) pe_int (fun _ _ => rfl)))
  (pss_cons (ps_set (i := 6) sc__law_means.nd rfl (Or.inl rfl) (pe_ix ix_seq (pe_ix ix_seq (pv 2) (pv 4) (fun _ _ => rfl)) pe_int (fun _ _ => rfl)))
  (pss_one (ps_for PassesOwn.never rfl (pi_range1 rfl T.n_range (pa_cons pe_int pa_nil)) (pg_name (i := 7) sc__law_means.nd rfl (Or.inl rfl))
  (pss_cons (ps_set (i := 8) sc__law_means.nd rfl (Or.inl rfl) (pe_ix ix_seq (pe_ix ix_seq (pv 1) (pv 4) (fun _ _ => rfl)) (pv 7) (fun _ _ => rfl)))
  (pss_cons (ps_set (i := 9) sc__law_means.nd rfl (Or.inl rfl) (pe_ix ix_seq (pv 3) (pv 8) (fun _ _ => rfl)))
  (pss_cons (ps_asg (pe_tup (pa_cons (pe_op op_add (pe_op op_mulW (pe_ix ix_seq (pv 9) pe_int (fun _ _ => rfl)) (pv 6)) (pe_op op_mulW (pv 5) (pe_ix ix_seq (pv 9) pe_int (fun _ _ => rfl)))) (pa_cons (pe_op op_mulW (pe_ix ix_seq (pv 9) pe_int (fun _ _ => rfl)) (pv 6)) pa_nil))) (pg_sub (pv 3) (pv 8) set_list))
  (pss_one (ps_set (i := 5) sc__law_means.nd rfl (Or.inl rfl) (pe_op op_sub (pv 6) (pv 5))))))))))))
  (pss_cons (ps_set (i := 10) sc__law_means.nd rfl (Or.inl rfl) (pe_lst pa_nil))
  (pss_cons (ps_for PassesOwn.never rfl (pi_list (pv 3)) (pg_name (i := 11) sc__law_means.nd rfl (Or.inl rfl))
  (pss_cons (ps_set (i := 12) sc__law_means.nd rfl (Or.inl rfl) (pe_call G__law_divisor (hr.mono (by decide)) rfl T.g__law_divisor T.F__law_divisor.kp (B__law_divisor T) .nil pass0 (pa_cons (pe_ix ix_seq (pv 11) pe_int (fun _ _ => rfl)) (pa_cons (pe_ix ix_seq (pv 11) pe_int (fun _ _ => rfl)) pa_nil))))
  (pss_one (ps_expr (pe_bm PySem.F.plainAttrs_list PySem.F.slot_list_append PySem.F.type_list_append mt_append (pv 10) (pa_cons (pe_tup (pa_cons (pe_op op_fdivV (pe_ix ix_seq (pv 11) pe_int (fun _ _ => rfl)) (pv 12)) (pa_cons (pe_op op_fdivV (pe_ix ix_seq (pv 11) pe_int (fun _ _ => rfl)) (pv 12)) pa_nil))) pa_nil))))))
  (pss_one (ps_ret (pe_callTy call_tuple_of (by rfl) T.n_tuple (by decide +kernel) (pa_cons (pv 10) pa_nil)))))))), ?_⟩
    walk_at "sx"
    refine ⟨_, rfl, l, rfl, ⟨_, SqL.of (hl trivial)⟩, fun D hD => lc_list (K := K) (a := l) (xs := ns.map nv) (fun i H' => Same H H' ∧ ∃ fs : List Addr, H' D = some (.lst (fs.map V.ref)) ∧ Fs H' fs (List.replicate i (0, 1))) ⟨Same.new hD, [], upd_same, rfl, fun r s hs => (by simp at hs)⟩ (fun i H' _ h => SqL.of (h.1 _ _ (hl trivial))) ?_ ?_⟩
    · rintro i x H' hx ⟨s', fs, hD', F⟩
      refine s_name ⟨rfl, ?_⟩
      refine s_yes (i_t ?_)
      have li := (List.getElem?_eq_some_iff.mp hx).1
      rw [List.length_map] at li
      have hD2 : True → H' D = some (.lst (fs.map V.ref)) := fun _ => hD'
      clear hD'
      walk_at "sx"
      rename_i p3 n3 H3 s3 h3
      have lf := F.len
      rw [List.length_replicate] at lf
      refine ⟨_, s3 _ _ (hD2 trivial), by rw [List.length_map, sizeLine_eq]; omega, Sx.Same.put (s'.trans s3) hD, fs ++ [p3], by rw [upd_same, List.map_append]; rfl, by rw [List.length_append, List.length_replicate, lf]; rfl, fun r s hs => ?_⟩
      have e : (List.replicate (i + 1) ((0, 1) : Q2)).getD r (0, 1) = (0, 1) := by
        rw [List.getD_eq_getElem?_getD, List.getElem?_replicate]
        split <;> rfl
      rw [e]
      have tu : Shr H3 s 0 1 := by
        by_cases c : r < fs.length
        · rw [List.getElem?_append_left c] at hs
          have z := F.at_ r s hs
          have e2 : (List.replicate i ((0, 1) : Q2)).getD r (0, 1) = (0, 1) := by
            rw [List.getD_eq_getElem?_getD, List.getElem?_replicate]
            split <;> rfl
          rw [e2] at z
          exact s3 _ _ z
        · rw [List.getElem?_append_right (by omega)] at hs
          have z : s = p3 := by
            have := List.mem_of_getElem? hs
            exact List.mem_singleton.mp this
          rw [z]
          exact h3
      show (upd H3 D _) s = _
      rw [upd_ne (ne_of tu (s3 _ _ (hD2 trivial)) fun e => nomatch e)]
      exact tu
    · rintro H' ⟨s', fs, hD', F⟩
      rw [List.length_map] at F
      have hm0 : True → H' D = some (.lst (fs.map V.ref)) := fun _ => hD'
      clear hD'
      have htD : t ≠ D := ne_of_none (ht trivial) hD
      have hdD : d ≠ D := ne_of_none (hd trivial) hD
      have e0 : UU ns.length L (Chq cs) 0 = List.replicate ns.length (0, 1) := by
        unfold UU
        rw [List.take_zero, List.foldl_nil]
      rw [← e0] at F
      walk_at "sx"
      refine ⟨_, rfl, _, _, rfl, .inl ⟨_, SqL.of (s' _ _ (ht trivial)), rfl⟩, _, rfl, by rw [List.length_map]; omega, by rw [List.length_map]; omega, for_range (lo := 0) (n := (qs.map rf).length) (fun i σ H2 => Same H H2 ∧ (∃ fs : List Addr, (True → H2 D = some (.lst (fs.map V.ref))) ∧ Fs H2 fs (UU ns.length L (Chq cs) i)) ∧ ∃ v4 v5 v6 v7 v8 v9 v10 v11 v12 v13 : Option V, σ = [some (.ref l), some (.ref t), some (.ref d), some (.ref D), v4, v5, v6, v7, v8, v9, v10, v11, v12, v13]) ⟨s', ⟨fs, hm0, F⟩, _, _, _, _, _, _, _, _, _, _, rfl⟩ ?_ ?_⟩
      · rintro i σ H2 hi ⟨s2, ⟨fs, hm, F⟩, v4, v5, v6, v7, v8, v9, v10, v11, v12, v13, rfl⟩
        rw [List.length_map] at hi
        obtain ⟨q, hq⟩ : ∃ q, qs[i]? = some q := ⟨_, List.getElem?_eq_getElem hi⟩
        obtain ⟨c, hcz⟩ : ∃ c, cs[i]? = some c := ⟨_, List.getElem?_eq_getElem (by omega)⟩
        obtain ⟨z, hL⟩ : ∃ z, L[i]? = some z := ⟨_, List.getElem?_eq_getElem (by omega)⟩
        have eqz : q.2 = pr z := by
          have e := congrArg (fun l => l[i]?) eq
          simp only [List.getElem?_map, hq, hL, Option.map_some] at e
          injection e
        obtain ⟨a1, a2, a3, a, e2, ei, ej, l1, l2, ne12, l3, _⟩ := tie_at nd (tie z (List.mem_of_getElem? hL))
        have hqH := tq q (List.mem_of_getElem? hq)
        rw [eqz, e2] at hqH
        have hqH' : True → H q.1 = some (.tup [.int a1, .int a2]) := fun _ => hqH
        clear hqH
        have hQ : (Chq cs)[i]? = some c.2 := by unfold Chq; rw [List.getElem?_map, hcz]; rfl
        have ch := hc c (List.mem_of_getElem? hcz)
        have hch : True → H c.1 = some (.tup [.int c.2.1, .int c.2.2]) := fun _ => ch.at_
        have qc := qk _ (List.mem_of_getElem? hQ)
        have fc := qc.fl
        have aq : atI (qs.map rf) (0 + (i : Int)) = some (.ref q.1) := by rw [Int.zero_add]; exact atI_nat (by rw [List.getElem?_map, hq]; rfl)
        have ac : atI (cs.map cf) (0 + (i : Int)) = some (.ref c.1) := by rw [Int.zero_add]; exact atI_nat (by rw [List.getElem?_map, hcz]; rfl)
        have GU := good_UU nd tie qk lq i (by omega)
        have U1 := UU_len ns.length L (Chq cs) i
        have G1 := GU.put (r := a1) (by omega) qc.2.2.2.2.1 qc.2.2.2.2.2 qc.1
        have d1 := dl a1 i
        have d2 := dl a2 i
        walk_at "sx"
        refine r_ixT (s2 _ _ (hd trivial)) ac ?_
        walk_at "sx"
        refine r_ixT (s2 _ _ (hch trivial)) (v := .int c.2.1) rfl ?_
        walk_at "sx"
        refine r_ixT (s2 _ _ (hd trivial)) ac ?_
        walk_at "sx"
        refine r_ixT (s2 _ _ (hch trivial)) (v := .int c.2.2) rfl ?_
        walk_at "sx"
        refine ⟨_, rfl, by decide, by decide, for_range (lo := 0) (n := 2) (fun sd σ H3 => Same H H3 ∧ (∃ fs : List Addr, (True → H3 D = some (.lst (fs.map V.ref))) ∧ Fs H3 fs (side (UU ns.length L (Chq cs) i) a1 a2 c.2 sd)) ∧ ∃ v7 v8 v9 v10 v11 v12 v13 : Option V, σ = [some (.ref l), some (.ref t), some (.ref d), some (.ref D), some (.int (0 + (i : Int))), some (.int (upq c.2 sd)), some (.int c.2.2), v7, v8, v9, v10, v11, v12, v13]) ⟨s2, ⟨fs, hm, F⟩, _, _, _, _, _, _, _, rfl⟩ ?_ ?_⟩
        · rintro sd σ H3 hsd ⟨s3, ⟨fs, hm, F⟩, v7, v8, v9, v10, v11, v12, v13, rfl⟩
          obtain ⟨r, qr, lr, eqr, atr, esd, g1, g2, g3, g4⟩ : ∃ (r : Nat) (qr : Q2), r < ns.length ∧ (qr.1 = upq c.2 sd ∧ qr.2 = c.2.2 ∧ (flq qr).1 = upq c.2 (sd + 1)) ∧ atI [V.int a1, V.int a2] (0 + (sd : Int)) = some (.int (r : Nat)) ∧ side (UU ns.length L (Chq cs) i) a1 a2 c.2 (sd + 1) = K35.put (side (UU ns.length L (Chq cs) i) a1 a2 c.2 sd) r qr ∧
              Sm 400 ((side (UU ns.length L (Chq cs) i) a1 a2 c.2 sd).getD r (0, 1)).1 ∧ Sm 400 ((side (UU ns.length L (Chq cs) i) a1 a2 c.2 sd).getD r (0, 1)).2 ∧ Sm 50 qr.1 ∧ Sm 50 qr.2 := by
            have h : sd = 0 ∨ sd = 1 := by omega
            rcases h with rfl | rfl
            · exact ⟨a1, c.2, l1, ⟨rfl, rfl, rfl⟩, rfl, rfl, (GU.s1 a1 (by omega)).mono (by omega), (GU.s2 a1 (by omega)).mono (by omega), qc.2.2.2.2.1, qc.2.2.2.2.2⟩
            · refine ⟨a2, flq c.2, l2, ⟨rfl, rfl, rfl⟩, rfl, rfl, (G1.s1 a2 (by rw [put_len]; omega)).mono ?_, (G1.s2 a2 (by rw [put_len]; omega)).mono ?_, fc.2.2.2.2.1, fc.2.2.2.2.2⟩
              all_goals
                rw [if_neg (fun e => ne12 e.symm)]
                omega
          have lU : (side (UU ns.length L (Chq cs) i) a1 a2 c.2 sd).length = ns.length := by
            have h : sd = 0 ∨ sd = 1 := by omega
            rcases h with rfl | rfl
            · exact U1
            · exact (put_len _ _ _).trans U1
          generalize side (UU ns.length L (Chq cs) i) a1 a2 c.2 sd = Us at *
          generalize side (UU ns.length L (Chq cs) i) a1 a2 c.2 (sd + 1) = Un at *
          obtain ⟨er1, er2, er3⟩ := eqr
          have lf := F.len
          obtain ⟨x1, hx1⟩ : ∃ x1, fs[r]? = some x1 := ⟨_, List.getElem?_eq_getElem (by omega)⟩
          have at1 : atI (fs.map V.ref) (r : Int) = some (.ref x1) := atI_nat (by rw [List.getElem?_map, hx1]; rfl)
          have X1 : True → H3 x1 = _ := fun _ => F.at_ r x1 hx1
          rw [← er1]
          walk_at "sx"
          refine r_ixL (s3 _ _ (ht trivial)) aq ?_
          walk_at "sx"
          refine r_ixT (s3 _ _ (hqH' trivial)) atr ?_
          walk_at "sx"
          refine r_ixL (hm trivial) at1 ?_
          walk_at "sx"
          refine r_ixT (X1 trivial) (v := .int (Us.getD r (0, 1)).1) rfl ?_
          walk_at "sx"
          refine r_I (c_mulW g1 qc.2.2.2.2.2 (by decide)) ?_
          walk_at "sx"
          refine r_ixT (X1 trivial) (v := .int (Us.getD r (0, 1)).2) rfl ?_
          refine r_I (c_mulW g3 g2 (by decide)) ?_
          walk_at "sx"
          refine r_ixT (X1 trivial) (v := .int (Us.getD r (0, 1)).2) rfl ?_
          walk_at "sx"
          refine r_I (c_mulW g2 qc.2.2.2.2.2 (by decide)) ?_
          walk_at "sx"
          rename_i p6 n6 H6 s6 h6
          refine r_setL (s6 _ _ (hm trivial)) (ix_in (by rw [List.length_map]; omega)) fun H7 k7 h7 => ?_
          have X6 : Shr H6 p6 (addq (Us.getD r (0, 1)) qr).1 (addq (Us.getD r (0, 1)) qr).2 := by
            unfold addq
            rw [er2]
            exact h6
          walk_at "sx"
          refine ⟨Keep.toSame (s3.trans s6) hD k7, ⟨fs.set r p6, fun _ => by rw [h7, List.map_set], ?_⟩, some (.int (0 + (sd : Int))), some (.int (r : Nat)), some (.ref x1), v10, v11, v12, v13, ?_⟩
          · rw [esd]
            exact ((F.same s6).put (by omega) X6).keep k7 (s6 _ _ (hm trivial))
          · rw [← er3]
            unfold flq
            rw [er2]
            rfl
        · rintro σ H3 ⟨s3, ⟨fs, hm, F⟩, v7, v8, v9, v10, v11, v12, v13, rfl⟩
          refine ⟨s3, ⟨fs, hm, ?_⟩, _, _, _, _, _, _, _, _, _, _, rfl⟩
          rw [UU_succ hL hQ]
          unfold stepU
          rw [ei, ej]
          exact F
      · rintro σ H2 ⟨s2, ⟨fs, hm, F⟩, v4, v5, v6, v7, v8, v9, v10, v11, v12, v13, rfl⟩
        rw [List.length_map, lL] at F
        have G := good_UU nd tie qk lq L.length (Nat.le_refl _)
        have U1 := UU_len ns.length L (Chq cs) L.length
        generalize UU ns.length L (Chq cs) L.length = U at *
        have lf := F.len
        walk_at "sx"
        rename_i pm nm H3 s3 h3
        have h3' : True → H3 pm = some (.lst ([] : List V)) := fun _ => h3
        clear h3
        have s23 := s2.trans s3
        have nmH : H pm = none := Same.free s2 nm
        have F3 := F.same s3
        have hDm : D ≠ pm := ne_of_none (hm trivial) nm
        refine ⟨_, rfl, D, rfl, ⟨_, SqL.of (s3 _ _ (hm trivial))⟩, for_list (K := K) (a := D) (xs := fs.map V.ref) (fun i σ H4 => Same H H4 ∧ Fs H4 fs U ∧ H4 D = some (.lst (fs.map V.ref)) ∧ (∃ ss : List Addr, (True → H4 pm = some (.lst (ss.map V.ref))) ∧ Red H4 ss (U.take i)) ∧ ∃ v4 v5 v6 v7 v8 v9 v11 v12 v13 : Option V, σ = [some (.ref l), some (.ref t), some (.ref d), some (.ref D), v4, v5, v6, v7, v8, v9, some (.ref pm), v11, v12, v13]) ?_ ?_ ?_ ?_⟩
        · exact ⟨s23, F3, s3 _ _ (hm trivial), ⟨[], h3', rfl, fun r s hs => (by simp at hs)⟩, _, _, _, _, _, _, _, _, _, rfl⟩
        · rintro i σ H4 _ h
          exact SqL.of h.2.2.1
        · rintro i x σ H4 hx ⟨s4, F4, hD4, ⟨ss, hm4, R4⟩, v4, v5, v6, v7, v8, v9, v11, v12, v13, rfl⟩
          obtain ⟨x1, hx1, rfl⟩ : ∃ x1, fs[i]? = some x1 ∧ V.ref x1 = x := by
            rw [List.getElem?_map] at hx
            exact Option.map_eq_some_iff.mp hx
          have li := (List.getElem?_eq_some_iff.mp hx1).1
          have X1 : True → H4 x1 = _ := fun _ => F4.at_ i x1 hx1
          have di := dl i L.length
          have g1 : Sm 360 (U.getD i (0, 1)).1 := (G.s1 i (by omega)).mono (by omega)
          have g2 : Sm 360 (U.getD i (0, 1)).2 := (G.s2 i (by omega)).mono (by omega)
          have g3 := G.po i (by omega)
          generalize hu : U.getD i (0, 1) = u at *
          walk_at "sx"
          refine r_ixT (X1 trivial) (v := .int u.1) rfl ?_
          walk_at "sx"
          refine r_ixT (X1 trivial) (v := .int u.2) rfl ?_
          refine ⟨u.1, u.2, rfl, g1, g2, ?_⟩
          rw [sgd_gcd g3]
          walk_at "sx"
          refine ty_list (hm4 trivial) ?_
          walk_at "sx"
          refine r_ixT (X1 trivial) (v := .int u.1) rfl ?_
          walk_at "sx"
          refine r_I (c_divV (by omega) g2 (by decide)) ?_
          walk_at "sx"
          refine r_ixT (X1 trivial) (v := .int u.2) rfl ?_
          walk_at "sx"
          refine r_I (c_divV (by omega) g2 (by decide)) ?_
          walk_at "sx"
          rename_i p6 n6 H6 s6 h6
          have hm6 := s6 _ _ (hm4 trivial)
          have ls : ss.length = i := by
            rw [R4.len, List.length_take]
            omega
          refine r_app hm6 (by rw [List.length_map, sizeLine_eq]; omega) fun H7 k7 h7 => ?_
          have eU : ∀ r, r < i → (U.take i).getD r (0, 1) = U.getD r (0, 1) := fun r hr => by
            rw [List.getD_eq_getElem?_getD, List.getD_eq_getElem?_getD, List.getElem?_take, if_pos hr]
          have eU1 : ∀ r, r < i + 1 → (U.take (i + 1)).getD r (0, 1) = U.getD r (0, 1) := fun r hr => by
            rw [List.getD_eq_getElem?_getD, List.getD_eq_getElem?_getD, List.getElem?_take, if_pos hr]
          refine ⟨Keep.toSame (s4.trans s6) nmH k7, (F4.same s6).keep k7 hm6, k7 _ _ hDm (s6 _ _ hD4), ⟨ss ++ [p6], fun _ => by rw [h7, List.map_append]; rfl, by rw [List.length_append, ls, List.length_take]; show i + 1 = _; omega, fun r s hs => ?_⟩, _, _, _, _, _, _, _, _, _, rfl⟩
          have tu : Shr H6 s (rdU (U.getD r (0, 1)).1 (U.getD r (0, 1)).2) (rdL (U.getD r (0, 1)).1 (U.getD r (0, 1)).2) ∧ r < i + 1 := by
            by_cases c : r < ss.length
            · rw [List.getElem?_append_left c] at hs
              have z := R4.at_ r s hs
              rw [eU r (by omega)] at z
              exact ⟨s6 _ _ z, by omega⟩
            · rw [List.getElem?_append_right (by omega)] at hs
              obtain ⟨l0, _⟩ := List.getElem?_eq_some_iff.mp hs
              have er : r = i := by
                simp at l0
                omega
              subst er
              have z : s = p6 := List.mem_singleton.mp (List.mem_of_getElem? hs)
              rw [z, hu]
              exact ⟨h6, by omega⟩
          rw [eU1 r tu.2]
          exact k7 _ _ (ne_of tu.1 hm6 fun e => nomatch e) tu.1
        · rintro σ H4 ⟨s4, F4, hD4, ⟨ss, hm4, R4⟩, v4, v5, v6, v7, v8, v9, v11, v12, v13, rfl⟩
          rw [List.length_map, lf, List.take_length] at R4
          walk_at "sx"
          refine ⟨pm, _, rfl, .inl ⟨SqL.of (hm4 trivial), fun u nu => ?_⟩⟩
          have s5 : Same H4 (upd H4 u (.tup (ss.map V.ref))) := Same.new nu
          exact k u ss _ (s4.trans s5) upd_same ⟨R4.len, fun r s hs => s5 _ _ (R4.at_ r s hs)⟩
end
end K35

set_option Elab.async false
set_option linter.all false
set_option maxRecDepth 100000
set_option maxHeartbeats 4000000
namespace K35
open PySem L2 Sx Ct
local macro_rules | `(tactic| walk_at "cond") => `(tactic| first
  | assumption
  | decide
  | exact c_mul_r (by first | decide | omega) (by first | decide | omega)
  | exact c_mul_l (by first | decide | omega) (by first | decide | omega)
  | exact c_div (by first | decide | omega) (by first | decide | omega)
  | exact c_pow (by first | decide | omega) (by first | decide | omega) (by first | decide | omega)
  | omega)
local macro_rules | `(tactic| walk_at "ne") => `(tactic| first
  | assumption
  | (refine Ne.symm ?_; assumption)
  | (refine' Flow.ne ?nh ?nn; (case nn => assumption); (case nh => walk_at "fl"))
  | (refine Ne.symm ?_; refine' Flow.ne ?nh ?nn; (case nn => assumption); (case nh => walk_at "fl"))
  | (refine' ne_of_none ?nh ?nn; (case nn => assumption); (case nh => walk_at "at"))
  | (refine Ne.symm ?_; refine' ne_of_none ?nh ?nn; (case nn => assumption); (case nh => walk_at "at")))
local macro_rules | `(tactic| walk_at "at") => `(tactic| first
  | assumption
  | (refine Same.up (by assumption) ?_; walk_at "at")
  | (refine Keep.up (by assumption) (by walk_at "ne") ?_; walk_at "at"))
local macro_rules | `(tactic| walk_at "fl") => `(tactic| first
  | assumption
  | (refine Flow.same (by assumption) ?_; walk_at "fl")
  | (refine Flow.keep (by assumption) (by walk_at "ne") ?_; walk_at "fl"))
local macro_rules | `(tactic| walk_at "fr") => `(tactic| first
  | assumption
  | (refine same_free (by assumption) ?_; walk_at "fr")
  | (refine Keep.free (by assumption) (by walk_at "ne") ?_; walk_at "fr"))
local macro_rules | `(tactic| walk_at "kp") => `(tactic| first
  | assumption
  | exact Keep.refl _ _
  | (refine Keep.trans ?_ (by assumption); walk_at "kp")
  | (refine Keep.trans ?_ (Keep.same (by assumption)); walk_at "kp"))
local macro_rules | `(tactic| walk_at "sm") => `(tactic| first
  | assumption
  | exact L2.Same.refl _
  | (refine L2.Same.trans ?_ (by assumption); walk_at "sm"))
local macro_rules | `(tactic| walk_at "sz") => `(tactic| first | exact Nat.le_of_ble_eq_true rfl | omega)
local macro_rules | `(tactic| walk_at "new") => `(tactic| (intro p np; generalize hE : upd _ p _ = H2; have s2 := new_same np hE; have h2 := new_at hE; clear hE))
local macro_rules | `(tactic| walk_at "newx") => `(tactic| (intro e d na nd hda; generalize hE : upd (upd _ d _) e _ = H2; have s2 := newx_same na nd hE; have h2 := newx_at hE; have h3 := newx_d hda hE; clear hE))
local macro_rules | `(tactic| walk_at "s1") => `(tactic| first
  | with_reducible refine s_seq ?_
  | with_reducible refine s_asg ?_
  | with_reducible refine s_name ?_
  | with_reducible refine s_ret ?_
  | with_reducible refine s_c ?_
  | ((with_reducible refine' s_var ?hv ?_); (case hv => rfl))
  | with_reducible refine s_op ?_
  | with_reducible refine s_un ?_
  | with_reducible refine s_ifS ?_
  | with_reducible refine s_cb ?_
  | with_reducible refine s_cons ?_
  | with_reducible refine s_nil ?_
  | with_reducible refine s_call ?_
  | with_reducible refine s_test ?_
  | with_reducible refine s_tB ?_
  | with_reducible refine s_bl ?_
  | with_reducible refine s_and ?_
  | with_reducible refine s_or ?_
  | with_reducible refine s_not ?_
  | with_reducible refine s_andV ?_
  | with_reducible refine s_orV ?_
  | with_reducible refine s_notV ?_
  | with_reducible refine s_blV ?_
  | with_reducible refine s_if ?_
  | with_reducible refine s_tup ?_
  | with_reducible refine s_lst ?_
  | with_reducible refine s_drop ?_
  | with_reducible refine s_next ?_
  | with_reducible refine s_sub ?_
  | with_reducible refine s_bm ?_
  | with_reducible refine s_callK ?_
  | with_reducible refine s_brk ?_
  | with_reducible refine s_cont ?_
  | with_reducible refine r_I0 ?_
  | with_reducible refine r_U ?_
  | with_reducible refine r_eqI ?_
  | with_reducible refine r_neI ?_
  | with_reducible refine r_isB ?_
  | with_reducible refine r_notB ?_
  | with_reducible refine i_t ?_
  | with_reducible refine i_f ?_
  | with_reducible refine i_nt ?_
  | with_reducible refine i_nf ?_
  | ((with_reducible refine' r_I ?hc ?_); (case hc => walk_at "cond"))
  | (with_reducible refine .inl ⟨_, rfl, ?_⟩)
  | (with_reducible refine ⟨_, rfl, ?_⟩)
  | ((with_reducible refine' r_ixL ?hx ?ha ?_); (case hx => walk_at "at"); (case ha => rfl))
  | ((with_reducible refine' r_ixT ?hx ?ha ?_); (case hx => walk_at "at"); (case ha => rfl))
  | ((with_reducible refine' r_setL ?hx ?ha ?_); (case hx => walk_at "at"); (case ha => rfl); intro H2 k2 h2; (try dsimp only [List.set, Int.toNat] at h2))
  | ((with_reducible refine' r_app ?hx ?hl ?_); (case hx => walk_at "at"); (case hl => first | exact Nat.lt_of_ble_eq_true rfl | omega); intro H2 k2 h2)
  | ((with_reducible refine' ty_list ?hx ?_); (case hx => walk_at "at"))
  | (refine And.intro (by (with_reducible show _ ≤ sizeLine); walk_at "sz") ?_; walk_at "new")
  | with_reducible refine s_exv ?_
  | walk_at "newx")
local macro_rules | `(tactic| walk_at "sx") => `(tactic| repeat (walk_at "s1"))
local macro_rules | `(tactic| walk_at "s2") => `(tactic| first
  | ((with_reducible refine' r_ixG ?hx ?hn ?_); (case hx => walk_at "at"); (case hn => omega))
  | ((with_reducible refine' r_ixGT ?hx ?hn ?_); (case hx => walk_at "at"); (case hn => omega))
  | (with_reducible refine ig_cons (fun hix => ?_) (fun hix => ?_))
  | ((with_reducible refine ig_nil ?_); omega)
  | ((with_reducible refine' i_T ?hc ?_); (case hc => omega))
  | ((with_reducible refine' i_F ?hc ?_); (case hc => omega))
  | (with_reducible refine i_2 (fun hc => ?_) (fun hc => ?_))
  | (with_reducible refine i_n2 (fun hc => ?_) (fun hc => ?_)))
local macro_rules | `(tactic| walk_at "go") => `(tactic| repeat' (first | walk_at "s1" | walk_at "s2"))

local macro_rules | `(tactic| walk_at "s1") => `(tactic| first
  | with_reducible refine s_chain ?_
  | with_reducible refine s_fldS ?_
  | with_reducible refine s_fld ?_
  | with_reducible refine s_dIn ?_
  | with_reducible refine s_dNotIn ?_
  | with_reducible refine s_sl ?_
  | with_reducible refine s_noPart ?_
  | with_reducible refine s_part ?_
  | with_reducible refine s_meth ?_
  | with_reducible refine s_make ?_)

section
variable {P : Program} {w : World} {K : PySem.W.Frag} {mg : Str → Option Value} {base : Heap} {A : Ad}
/-! values one may ask of -/
theorem al_kn {H : Hp} {d : Nat} {x y : V} (h : Al H d x y) : Kn K H All x := by
  cases h with
  | non => exact .non
  | bl b => exact .bl b
  | int i => exact .int i
  | str s => exact .str s
  | tup hp _ _ _ _ => exact .tup hp trivial
  | lst hp _ _ _ _ => exact .lst hp trivial
theorem nt_isT {H : Hp} {x : V} (h : NT H x) : isT H x = false := by
  cases x with
  | ref p =>
    obtain ⟨o, h1, h2⟩ := h p rfl
    show tO (H p) = false
    rw [h1]
    exact h2
  | _ => rfl
theorem in_no {H : Hp} {d : Nat} {x : V} (al : Al H d x x) (nt : NT H x) : IsIn K H x "tuple" false := by
  have z := in_tK (K := K) (B := All) (al_kn al)
  rw [nt_isT nt] at z
  exact z
theorem al_tup {H : Hp} {d : Nat} {p : Addr} {xs : List V} (h : H p = some (.tup xs)) (sz : xs.length < 1000) (e : ∀ x ∈ xs, Al H d x x) : Al H (d + 1) (.ref p) (.ref p) := by
  refine .tup h h rfl sz fun i x y hx hy => ?_
  rw [hx] at hy
  cases hy
  exact e x (List.mem_of_getElem? hx)
theorem al_lst {H : Hp} {d : Nat} {p : Addr} {xs : List V} (h : H p = some (.lst xs)) (sz : xs.length < 1000) (e : ∀ x ∈ xs, Al H d x x) : Al H (d + 1) (.ref p) (.ref p) := by
  refine .lst h h rfl sz fun i x y hx hy => ?_
  rw [hx] at hy
  cases hy
  exact e x (List.mem_of_getElem? hx)
/-- a member of a pair -/
inductive Sc (H : Hp) : V → Prop where
  | non : Sc H .non
  | bl (b : Bool) : Sc H (.bl b)
  | int {i : Int} (h : Sm 50 i) : Sc H (.int i)
  | str (s : Str) : Sc H (.str s)
  | tup {p : Addr} {ns : List Int} (h : H p = some (.tup (ns.map V.int))) (sz : ns.length < 1000) : Sc H (.ref p)
theorem Sc.up {H H' : Hp} {y : V} (e : ∀ (p : Addr) (xs : List V), H p = some (.tup xs) → H' p = some (.tup xs)) (h : Sc H y) : Sc H' y := by
  cases h with
  | non => exact .non
  | bl b => exact .bl b
  | int h => exact .int h
  | str s => exact .str s
  | tup h sz => exact .tup (e _ _ h) sz
theorem Sc.al {H : Hp} {y : V} (h : Sc H y) : Al H 1 y y := by
  cases h with
  | non => exact .non
  | bl b => exact .bl b
  | int h => exact .int _
  | str s => exact .str s
  | tup h sz => exact al_ints h h sz
theorem Sc.sm {H : Hp} {y : V} (h : Sc H y) : ∀ i, y = .int i → Sm 50 i := fun i e => by
  cases h with
  | int h => cases e; exact h
  | _ => cases e
/-- what may stand in a guess; a is where the flow stands -/
inductive Me (a : Addr) (H : Hp) : V → Prop where
  | non : Me a H .non
  | bl (b : Bool) : Me a H (.bl b)
  | int (i : Int) : Me a H (.int i)
  | str (s : Str) : Me a H (.str s)
  | tup {p : Addr} {ys : List V} (h : H p = some (.tup ys)) (sz : ys.length < 1000) (e : ∀ y ∈ ys, Sc H y) : Me a H (.ref p)
  | lst {p : Addr} {ys : List V} (h : H p = some (.lst ys)) (sz : ys.length < 1000) (e : ∀ y ∈ ys, Sc H y) (ne : p ≠ a) : Me a H (.ref p)
theorem Me.same {H H' : Hp} {a : Addr} {x : V} (e : Same H H') (h : Me a H x) : Me a H' x := by
  cases h with
  | non => exact .non
  | bl b => exact .bl b
  | int i => exact .int i
  | str s => exact .str s
  | tup h sz q => exact .tup (e _ _ h) sz fun y hy => (q y hy).up fun p xs => e p _
  | lst h sz q ne => exact .lst (e _ _ h) sz (fun y hy => (q y hy).up fun p xs => e p _) ne
theorem tupK {H H' : Hp} {a q : Addr} {ys : List V} (e : Keep a H H') (f : Flow H a) (h : H q = some (.tup ys)) : H' q = some (.tup ys) := by
  obtain ⟨c0, n, b, z, hf⟩ := f
  exact e _ _ (ne_of h hf fun z => nomatch z) h
theorem Me.keep {H H' : Hp} {a : Addr} {x : V} (e : Keep a H H') (f : Flow H a) (h : Me a H x) : Me a H' x := by
  cases h with
  | non => exact .non
  | bl b => exact .bl b
  | int i => exact .int i
  | str s => exact .str s
  | tup h sz q => exact .tup (tupK e f h) sz fun y hy => (q y hy).up fun p xs => tupK e f
  | lst h sz q ne => exact .lst (e _ _ ne h) sz (fun y hy => (q y hy).up fun p xs => tupK e f) ne
theorem Me.al {H : Hp} {a : Addr} {x : V} (h : Me a H x) : Al H 2 x x := by
  cases h with
  | non => exact .non
  | bl b => exact .bl b
  | int i => exact .int i
  | str s => exact .str s
  | tup h sz q => exact al_tup h sz fun y hy => (q y hy).al
  | lst h sz q ne => exact al_lst h sz fun y hy => (q y hy).al
theorem nt_sc {H : Hp} {x : V} (h : ∀ p, x ≠ .ref p) : NT H x := fun p e => absurd e (h p)
theorem Me.cv {H : Hp} {a : Addr} {x : V} (h : Me a H x) : CV K H x := by
  cases h with
  | non => exact .inl ⟨in_no (d := 1) .non (nt_sc fun _ e => nomatch e), nt_sc fun _ e => nomatch e⟩
  | bl b => exact .inl ⟨in_no (d := 1) (.bl b) (nt_sc fun _ e => nomatch e), nt_sc fun _ e => nomatch e⟩
  | int i => exact .inl ⟨in_no (d := 1) (.int i) (nt_sc fun _ e => nomatch e), nt_sc fun _ e => nomatch e⟩
  | str s => exact .inl ⟨in_no (d := 1) (.str s) (nt_sc fun _ e => nomatch e), nt_sc fun _ e => nomatch e⟩
  | tup h sz q => exact .inr ⟨_, _, rfl, h, fun y hy => ⟨ni_kn (al_kn (q y hy).al), (q y hy).sm⟩, sz⟩
  | lst h sz q ne =>
    have nt : NT H (.ref _) := fun r e => by
      cases e
      exact ⟨_, h, rfl⟩
    exact .inl ⟨in_no (al_lst h sz fun y hy => (q y hy).al) nt, nt⟩
structure Ask (K : PySem.W.Frag) (H : Hp) (v : V) : Prop where
  al : Al H 3 v v
  gv : GV K H v
theorem Ask.same {H H' : Hp} {x : V} (e : Same H H') (h : Ask K H x) : Ask K H' x := ⟨h.al.same e, h.gv.same e⟩
theorem sc_int {H : Hp} {i : Int} (h : Sm 50 i) : Sc H (.int i) := .int h
theorem sc_bl {H : Hp} (b : Bool) : Sc H (.bl b) := .bl b
theorem sc_non {H : Hp} : Sc H .non := .non
theorem sc_str {H : Hp} (s : Str) : Sc H (.str s) := .str s
theorem sc_tup {H : Hp} {p : Addr} {ns : List Int} (h : H p = some (.tup (ns.map V.int))) (sz : ns.length < 1000) : Sc H (.ref p) := .tup h sz
section
variable {a : Addr}
theorem me_int {H : Hp} (i : Int) : Me a H (.int i) := .int i
theorem me_bl {H : Hp} (i : Bool) : Me a H (.bl i) := .bl i
theorem me_non {H : Hp} : Me a H .non := .non
theorem me_str {H : Hp} (i : Str) : Me a H (.str i) := .str i
theorem me_tup {H : Hp} {p : Addr} {ys : List V} (h : H p = some (.tup ys)) (sz : ys.length < 1000) (e : ∀ y ∈ ys, Sc H y) : Me a H (.ref p) := .tup h sz e
theorem me_lst {H : Hp} {p : Addr} {ys : List V} (ne : p ≠ a) (h : H p = some (.lst ys)) (sz : ys.length < 1000) (e : ∀ y ∈ ys, Sc H y) : Me a H (.ref p) := .lst h sz e ne
end
theorem ask_no {H : Hp} {x : V} (al : Al H 3 x x) (nt : NT H x) : Ask K H x := ⟨al, .inl ⟨in_no al nt, nt⟩⟩
theorem ask_tup {H : Hp} {p : Addr} {ys : List V} (h : H p = some (.tup ys)) (sz : ys.length < 1000) {a : Addr} (e : ∀ y ∈ ys, Me a H y) : Ask K H (.ref p) :=
  ⟨al_tup h sz fun y hy => (e y hy).al, .inr ⟨p, ys, rfl, h, fun y hy => (e y hy).cv, sz⟩⟩
theorem ask_lst {H : Hp} {p : Addr} {ys : List V} (h : H p = some (.lst ys)) (sz : ys.length < 1000) {a : Addr} (e : ∀ y ∈ ys, Me a H y) : Ask K H (.ref p) := ask_no (al_lst h sz fun y hy => (e y hy).al) fun q eq => by
  cases eq
  exact ⟨_, h, rfl⟩
theorem me_ch {a : Addr} {H : Hp} {p : Addr} {q : Q2} (h : Ch H p q) : Me a H (.ref p) := me_tup h.at_ (show 2 < 1000 by decide) fun y hy => by
  rcases List.mem_cons.mp hy with rfl | hy
  · exact sc_int h.sm.1
  · rw [List.mem_singleton.mp hy]
    exact sc_int h.sm.2
theorem me_chs {a : Addr} {H : Hp} {cs : List (Addr × Q2)} (h : ChsAt H cs) : ∀ x ∈ cs.map cf, Me a H x := fun x hx => by
  obtain ⟨z, hz, rfl⟩ := List.mem_map.mp hx
  exact me_ch (h z hz)
theorem atI_mem {xs : List V} {d : Int} (h0 : 0 ≤ d) (h1 : d < xs.length) : ∃ v, v ∈ xs ∧ atI xs d = some v := by
  obtain ⟨j, rfl⟩ := Int.eq_ofNat_of_zero_le h0
  have lj : j < xs.length := by omega
  exact ⟨xs[j], List.getElem_mem _, atI_nat (List.getElem?_eq_getElem lj)⟩
theorem all_cons {Pr : V → Prop} {x : V} {xs : List V} (h : Pr x) (t : ∀ y ∈ xs, Pr y) : ∀ y ∈ x :: xs, Pr y := fun y hy => by
  rcases List.mem_cons.mp hy with rfl | hy
  · exact h
  · exact t y hy
theorem all_nil {Pr : V → Prop} : ∀ y ∈ ([] : List V), Pr y := fun y hy => nomatch hy
theorem all_app {Pr : V → Prop} {xs ys : List V} (h : ∀ y ∈ xs, Pr y) (t : ∀ y ∈ ys, Pr y) : ∀ y ∈ xs ++ ys, Pr y := fun y hy => (List.mem_append.mp hy).elim (h y) (t y)
theorem Chs.keep {H H' : Hp} {a : Addr} {cs : List (Addr × Q2)} (e : Keep a H H') (f : Flow H a) (h : ChsAt H cs) : ChsAt H' cs := fun z hz => by
  have c := h z hz
  refine ⟨e _ _ ?_ c.at_, c.po, c.g1, c.lo, c.hi, c.sm⟩
  obtain ⟨c0, n, b, q, hf⟩ := f
  exact ne_of c.at_ hf fun z => nomatch z
theorem ne_of_flow {H : Hp} {a p : Addr} (f : Flow H a) (n : H p = none) : p ≠ a := (f.ne n).symm
def spSpoilt (K : PySem.W.Frag) : Sp := fun vs H Q _ => ∃ (a p : Addr) (cs : List (Addr × Q2)), vs = [.ref a, .ref p] ∧ Flow H a ∧ H p = some (.tup (cs.map cf)) ∧ ChsAt H cs ∧ (∀ z ∈ cs, Sm 40 z.2.1 ∧ Sm 40 z.2.2) ∧ cs.length < 100 ∧
  ∀ v H', Flow H' a → Keep a H H' → Ask K H' v → Q v H'
theorem ok_spoilt (T : Txt P K mg A) : FnOk P w K mg base CX0 2 A.a__law_spoilt A.d__law_spoilt ["flow", "guess"] (spSpoilt K) := by
  refine T.F__law_spoilt.ok sc__law_spoilt (fun vs H Q E h => ?_) (fun cdv A' outer s H vs Q E hr h => ?_)
  · obtain ⟨a, p, cs, rfl, _⟩ := h
    rfl
  · obtain ⟨a, p, cs, rfl, hF, hp0, hc, h40, sz, k⟩ := h
    have G__law_take := ok_take (w := w) (base := base) T
    refine ⟨_, (pss_cons (ps_set (i := 2) sc__law_spoilt.nd rfl (Or.inl rfl) (pe_call G__law_take (hr.mono (by decide)) rfl T.g__law_take T.F__law_take.kp (B__law_take T) .nil pass0 (pa_cons (pv 0) (pa_cons pe_int pa_nil))))
  (pss_cons (ps_if (pt_cmpR op_lt (pv 2) pe_int (nomark _)) (pss_one (ps_ret (pv 1))) pss_nil)
  (pss_cons (ps_if (pt_cmpR op_eq (pv 2) pe_int (nomark _)) (pss_one (ps_ret (pe_ix ix_seq (pe_lst (pa_cons pe_non (pa_cons pe_int (pa_cons pe_bl (pa_cons pe_str (pa_cons pe_str (pa_cons (pe_lst pa_nil) (pa_cons (pe_tup (pa_cons (pv 1) pa_nil)) (pa_cons (pe_tup (pa_cons (pe_tup (pa_cons pe_int (pa_cons pe_int pa_nil))) (pa_cons pe_int pa_nil))) (pa_cons (pe_tup (pa_cons pe_int (pa_cons pe_int pa_nil))) pa_nil)))))))))) (pe_call G__law_take (hr.mono (by decide)) rfl T.g__law_take T.F__law_take.kp (B__law_take T) .nil pass0 (pa_cons (pv 0) (pa_cons pe_int pa_nil))) (fun _ _ => rfl)))) pss_nil)
  (pss_cons (ps_if (pt_cmpR op_eq (pv 2) pe_int (nomark _)) (pss_one (ps_ret (pe_callTy call_list_of (by rfl) T.n_list (by decide +kernel) (pa_cons (pv 1) pa_nil)))) pss_nil)
  (pss_cons (ps_if (PW.pt (pw_or (pt_cmpR op_eq (pv 2) pe_int (nomark _)) (pw_or1 (pt_cmpR op_eq (pe_callB call_len (by rfl) T.n_len (by decide +kernel) (pa_cons (pv 1) pa_nil)) pe_int (nomark _))))) (pss_one (ps_ret (pe_op op_catA (pv 1) (pe_tup (pa_cons (pe_ix ix_seq (pe_lst (pa_cons (pe_tup (pa_cons pe_int (pa_cons pe_int pa_nil))) (pa_cons (pe_tup (pa_cons pe_int (pa_cons pe_int pa_nil))) (pa_cons pe_int (pa_cons (pe_tup (pa_cons pe_int (pa_cons pe_int pa_nil))) pa_nil))))) (pe_call G__law_take (hr.mono (by decide)) rfl T.g__law_take T.F__law_take.kp (B__law_take T) .nil pass0 (pa_cons (pv 0) (pa_cons pe_int pa_nil))) (fun _ _ => rfl)) pa_nil))))) pss_nil)
  (pss_cons (ps_set (i := 3) sc__law_spoilt.nd rfl (Or.inl rfl) (pe_call G__law_take (hr.mono (by decide)) rfl T.g__law_take T.F__law_take.kp (B__law_take T) .nil pass0 (pa_cons (pv 0) (pa_cons (pe_callB call_len (by rfl) T.n_len (by decide +kernel) (pa_cons (pv 1) pa_nil)) pa_nil))))
  (pss_cons (ps_if (pt_cmpR op_eq (pv 2) pe_int (nomark _)) (pss_one (ps_ret (pe_op op_catA (pe_slice sl_tupA (pv 1) po_none (po_some (pv 3))) (pe_slice sl_tupA (pv 1) (po_some (pe_op op_add (pv 3) pe_int)) po_none)))) pss_nil)
  (pss_cons (ps_set (i := 4) sc__law_spoilt.nd rfl (Or.inl rfl) (pe_ix ix_seq (pe_ix ix_seq (pv 1) (pv 3) (fun _ _ => rfl)) pe_int (fun _ _ => rfl)))
  (pss_cons (ps_set (i := 5) sc__law_spoilt.nd rfl (Or.inl rfl) (pe_ix ix_seq (pe_ix ix_seq (pv 1) (pv 3) (fun _ _ => rfl)) pe_int (fun _ _ => rfl)))
  (pss_cons (ps_set (i := 6) sc__law_spoilt.nd rfl (Or.inl rfl) (pe_lst (pa_cons (pe_tup (pa_cons (pe_op op_mul pe_int (pv 4)) (pa_cons (pe_op op_mul pe_int (pv 5)) pa_nil))) (pa_cons (pe_tup (pa_cons (pe_op op_add (pv 4) (pv 5)) (pa_cons (pv 5) pa_nil))) (pa_cons (pe_tup (pa_cons (pe_op op_sub (pe_un un_neg pe_int) (pv 4)) (pa_cons (pv 5) pa_nil))) (pa_cons (pe_callTy call_list_of (by rfl) T.n_list (by decide +kernel) (pa_cons (pe_ix ix_seq (pv 1) (pv 3) (fun _ _ => rfl)) pa_nil)) (pa_cons pe_int (pa_cons pe_int (pa_cons pe_non (pa_cons (pe_tup (pa_cons (pv 4) pa_nil)) pa_nil))))))))))
  (pss_cons (ps_set (i := 6) sc__law_spoilt.nd rfl (Or.inl rfl) (pe_op op_cat (pv 6) (pe_lst (pa_cons (pe_tup (pa_cons (pv 4) (pa_cons (pv 5) (pa_cons pe_int pa_nil)))) (pa_cons (pe_tup (pa_cons pe_bl (pa_cons pe_int pa_nil))) (pa_cons (pe_tup (pa_cons (pv 4) (pa_cons pe_bl pa_nil))) (pa_cons (pe_tup (pa_cons pe_bl (pa_cons pe_int pa_nil))) (pa_cons (pe_tup (pa_cons (pv 4) (pa_cons pe_int pa_nil))) (pa_cons (pe_tup (pa_cons (pe_un un_neg (pv 4)) (pa_cons (pe_un un_neg (pv 5)) pa_nil))) (pa_cons pe_str (pa_cons (pe_tup (pa_cons pe_int (pa_cons pe_int pa_nil))) pa_nil)))))))))))
  (pss_cons (ps_set (i := 6) sc__law_spoilt.nd rfl (Or.inl rfl) (pe_op op_cat (pv 6) (pe_lst (pa_cons (pe_tup (pa_cons (pe_tup (pa_cons (pv 4) (pa_cons (pv 5) pa_nil))) pa_nil)) (pa_cons (pe_tup (pa_cons pe_non (pa_cons pe_int pa_nil))) (pa_cons (pe_tup (pa_cons pe_str (pa_cons pe_int pa_nil))) (pa_cons (pe_tup (pa_cons (pe_op op_add (pv 5) pe_int) (pa_cons (pv 5) pa_nil))) (pa_cons pe_bl (pa_cons (pe_tup (pa_cons pe_int (pa_cons pe_int pa_nil))) (pa_cons (pe_tup (pa_cons pe_int (pa_cons (pe_un un_neg pe_int) pa_nil))) (pa_cons (pe_tup (pa_cons (pv 4) (pa_cons (pe_un un_neg (pv 5)) pa_nil))) pa_nil)))))))))))
  (pss_one (ps_ret (pe_op op_catA (pe_op op_catA (pe_slice sl_tupA (pv 1) po_none (po_some (pv 3))) (pe_tup (pa_cons (pe_ix ix_seq (pv 6) (pe_call G__law_take (hr.mono (by decide)) rfl T.g__law_take T.F__law_take.kp (B__law_take T) .nil pass0 (pa_cons (pv 0) (pa_cons (pe_callB call_len (by rfl) T.n_len (by decide +kernel) (pa_cons (pv 6) pa_nil)) pa_nil))) (fun _ _ => rfl)) pa_nil))) (pe_slice sl_tupA (pv 1) (po_some (pe_op op_add (pv 3) pe_int)) po_none)))))))))))))))), ?_⟩
    have hp : True → H p = some (.tup (cs.map cf)) := fun _ => hp0
    have npa : p ≠ a := by
      obtain ⟨c0, n, b, q, hf⟩ := hF
      exact ne_of hp0 hf fun z => nomatch z
    clear hp0
    walk_at "sx"
    refine c_take hF (by decide) (by decide) (fun d1 H1 l1 u1 F1 K1 => ?_)
    have hp1 : True → H1 p = some (.tup (cs.map cf)) := fun _ => K1 _ _ npa (hp trivial)
    have hc1 := Chs.keep K1 hF hc
    have lcs : (cs.map cf).length < 1000 := by rw [List.length_map]; omega
    walk_at "sx"
    refine i_2 (fun c0 => ?_) (fun c0 => ?_)
    · walk_at "sx"
      exact k _ H1 F1 K1 (ask_tup (a := a) (hp1 trivial) lcs (me_chs hc1))
    walk_at "sx"
    refine i_2 (fun c2 => ?_) (fun c2 => ?_)
    · walk_at "sx"
      rename_i p1 n1 G1 t1 g1 p2 n2 G2 t2 g2 p3 n3 G3 t3 g3 p4 n4 G4 t4 g4 p5 n5 G5 t5 g5 p6 n6 G6 t6 g6
      have f0 := F1.same (t1.trans (t2.trans (t3.trans (t4.trans (t5.trans t6)))))
      have tt := t1.trans (t2.trans (t3.trans (t4.trans (t5.trans t6))))
      refine c_take f0 (by decide) (by decide) (fun d2 H2 l2 u2 F2 K2 => ?_)
      have kt : ∀ {q : Addr} {ys : List V}, G6 q = some (.tup ys) → H2 q = some (.tup ys) := fun h => tupK K2 f0 h
      have n61 : p1 ≠ a := (F1.ne n1).symm
      have n66 : p6 ≠ a := ((F1.same (t1.trans (t2.trans (t3.trans (t4.trans t5))))).ne n6).symm
      have ms : ∀ v ∈ [V.non, V.int 0, V.bl true, V.str (Str.ofString "0"), V.str (Str.ofString ""), V.ref p1, V.ref p2, V.ref p4, V.ref p5], Ask K H2 v := by
        refine all_cons (ask_no .non (nt_sc fun _ e => nomatch e)) (all_cons (ask_no (.int _) (nt_sc fun _ e => nomatch e)) (all_cons (ask_no (.bl _) (nt_sc fun _ e => nomatch e)) (all_cons (ask_no (.str _) (nt_sc fun _ e => nomatch e)) (all_cons (ask_no (.str _) (nt_sc fun _ e => nomatch e)) (all_cons ?_ (all_cons ?_ (all_cons ?_ (all_cons ?_ all_nil))))))))
        · exact ask_lst (a := a) (K2 _ _ n61 ((t2.trans (t3.trans (t4.trans (t5.trans t6)))) _ _ g1)) (show 0 < 1000 by decide) all_nil
        · refine ask_tup (a := a) (kt ((t3.trans (t4.trans (t5.trans t6))) _ _ g2)) (show 1 < 1000 by decide) (all_cons (me_tup (kt (tt _ _ (hp1 trivial))) lcs fun y hy => ?_) all_nil)
          obtain ⟨z, hz, rfl⟩ := List.mem_map.mp hy
          exact sc_tup (ns := [z.2.1, z.2.2]) (kt (tt _ _ (hc1 z hz).at_)) (show 2 < 1000 by decide)
        · exact ask_tup (a := a) (kt ((t5.trans t6) _ _ g4)) (show 2 < 1000 by decide) (all_cons (me_tup (kt ((t4.trans (t5.trans t6)) _ _ g3)) (show 2 < 1000 by decide) (all_cons (sc_int (by unfold Sm; decide)) (all_cons (sc_int (by unfold Sm; decide)) all_nil))) (all_cons (me_int _) all_nil))
        · exact ask_tup (a := a) (kt (t6 _ _ g5)) (show 2 < 1000 by decide) (all_cons (me_int _) (all_cons (me_int _) all_nil))
      obtain ⟨v, mv, ev⟩ := atI_mem (xs := [V.non, V.int 0, V.bl true, V.str (Str.ofString "0"), V.str (Str.ofString ""), V.ref p1, V.ref p2, V.ref p4, V.ref p5]) l2 u2
      refine r_ixL (K2 _ _ n66 g6) ev ?_
      exact k v H2 F2 (K1.trans ((Keep.same tt).trans K2)) (ms v mv)
    walk_at "sx"
    refine i_2 (fun c3 => ?_) (fun c3 => ?_)
    · walk_at "sx"
      refine ⟨p, _, rfl, .inr (SqT.of (hp1 trivial)), fun l nl => ?_⟩
      have sl : Same H1 (upd H1 l (.lst (cs.map cf))) := Same.new nl
      exact k _ _ (F1.same sl) (K1.trans (Keep.same sl)) (ask_lst (a := a) upd_same lcs fun x hx => (me_chs hc1 x hx).same sl)
    walk_at "sx"
    refine i_2 (fun c4 => i_t ?_) (fun c4 => ?_)
    · walk_at "sx"
      rename_i p1 n1 G1 t1 g1 p2 n2 G2 t2 g2 p3 n3 G3 t3 g3 p4 n4 G4 t4 g4
      have tt := t1.trans (t2.trans (t3.trans t4))
      have f0 := F1.same tt
      refine c_take f0 (by decide) (by decide) (fun d2 H2 l2 u2 F2 K2 => ?_)
      have kt : ∀ {q : Addr} {ys : List V}, G4 q = some (.tup ys) → H2 q = some (.tup ys) := fun h => tupK K2 f0 h
      have n44 : p4 ≠ a := ((F1.same (t1.trans (t2.trans t3))).ne n4).symm
      have ms : ∀ v ∈ [V.ref p1, V.ref p2, V.int 0, V.ref p3], Me a H2 v := by
        refine all_cons ?_ (all_cons ?_ (all_cons (me_int _) (all_cons ?_ all_nil)))
        · exact me_tup (kt ((t2.trans (t3.trans t4)) _ _ g1)) (show 2 < 1000 by decide) (all_cons (sc_int (by unfold Sm; decide)) (all_cons (sc_int (by unfold Sm; decide)) all_nil))
        · exact me_tup (kt ((t3.trans t4) _ _ g2)) (show 2 < 1000 by decide) (all_cons (sc_int (by unfold Sm; decide)) (all_cons (sc_int (by unfold Sm; decide)) all_nil))
        · exact me_tup (kt (t4 _ _ g3)) (show 2 < 1000 by decide) (all_cons (sc_int (by unfold Sm; decide)) (all_cons (sc_int (by unfold Sm; decide)) all_nil))
      obtain ⟨v, mv, ev⟩ := atI_mem (xs := [V.ref p1, V.ref p2, V.int 0, V.ref p3]) l2 u2
      have hc2 := Chs.keep K2 f0 (hc1.same tt)
      refine r_ixL (K2 _ _ n44 g4) ev ?_
      walk_at "sx"
      rename_i pt mt Gt st gt
      refine r_cat (st _ _ (kt (tt _ _ (hp1 trivial)))) gt (by rw [sizeLine_eq]; show _ + 1 ≤ _; omega) fun p8 H3 s3 h3 => ?_
      exact k _ _ ((F2.same st).same s3) (K1.trans ((Keep.same tt).trans (K2.trans (Keep.same (st.trans s3))))) (ask_tup (a := a) h3 (by rw [List.length_append, List.length_map]; show cs.length + 1 < _; omega) (all_app (fun x hx => (me_chs hc2 x hx).same (st.trans s3)) (all_cons ((ms v mv).same (st.trans s3)) all_nil)))
    walk_at "sx"
    refine ⟨_, _, rfl, .inr ⟨_, SqT.of (hp1 trivial), rfl⟩, ?_⟩
    walk_at "sx"
    refine i_2 (fun c5 => ?_) (fun c5 => ?_)
    · walk_at "sx"
      rename_i p1 n1 G1 t1 g1 p2 n2 G2 t2 g2 p3 n3 G3 t3 g3 p4 n4 G4 t4 g4
      have tt := t1.trans (t2.trans (t3.trans t4))
      have f0 := F1.same tt
      refine c_take f0 (by decide) (by decide) (fun d2 H2 l2 u2 F2 K2 => ?_)
      have kt : ∀ {q : Addr} {ys : List V}, G4 q = some (.tup ys) → H2 q = some (.tup ys) := fun h => tupK K2 f0 h
      have n44 : p4 ≠ a := ((F1.same (t1.trans (t2.trans t3))).ne n4).symm
      have ms : ∀ v ∈ [V.ref p1, V.ref p2, V.int 0, V.ref p3], Me a H2 v := by
        refine all_cons ?_ (all_cons ?_ (all_cons (me_int _) (all_cons ?_ all_nil)))
        · exact me_tup (kt ((t2.trans (t3.trans t4)) _ _ g1)) (show 2 < 1000 by decide) (all_cons (sc_int (by unfold Sm; decide)) (all_cons (sc_int (by unfold Sm; decide)) all_nil))
        · exact me_tup (kt ((t3.trans t4) _ _ g2)) (show 2 < 1000 by decide) (all_cons (sc_int (by unfold Sm; decide)) (all_cons (sc_int (by unfold Sm; decide)) all_nil))
        · exact me_tup (kt (t4 _ _ g3)) (show 2 < 1000 by decide) (all_cons (sc_int (by unfold Sm; decide)) (all_cons (sc_int (by unfold Sm; decide)) all_nil))
      obtain ⟨v, mv, ev⟩ := atI_mem (xs := [V.ref p1, V.ref p2, V.int 0, V.ref p3]) l2 u2
      have hc2 := Chs.keep K2 f0 (hc1.same tt)
      refine r_ixL (K2 _ _ n44 g4) ev ?_
      walk_at "sx"
      rename_i pt mt Gt st gt
      refine r_cat (st _ _ (kt (tt _ _ (hp1 trivial)))) gt (by rw [sizeLine_eq]; show _ + 1 ≤ _; omega) fun p8 H3 s3 h3 => ?_
      exact k _ _ ((F2.same st).same s3) (K1.trans ((Keep.same tt).trans (K2.trans (Keep.same (st.trans s3))))) (ask_tup (a := a) h3 (by rw [List.length_append, List.length_map]; show cs.length + 1 < _; omega) (all_app (fun x hx => (me_chs hc2 x hx).same (st.trans s3)) (all_cons ((ms v mv).same (st.trans s3)) all_nil)))
    walk_at "sx"
    refine ⟨_, _, rfl, .inr ⟨_, SqT.of (hp1 trivial), rfl⟩, ?_⟩
    walk_at "sx"
    rw [List.length_map] at c5
    rw [List.length_map]
    refine c_take F1 (by omega) (by omega) fun d Hd ld ud Fd Kd => ?_
    obtain ⟨j, rfl⟩ : ∃ j : Nat, d = (j : Int) := ⟨d.toNat, by omega⟩
    have lj : j < (cs.map cf).length := by rw [List.length_map]; omega
    obtain ⟨z, hz⟩ : ∃ z, cs[j]? = some z := ⟨_, List.getElem?_eq_getElem (by omega)⟩
    have az : atI (cs.map cf) (j : Int) = some (.ref z.1) := atI_nat (by rw [List.getElem?_map, hz]; rfl)
    have hpd : True → Hd p = some (.tup (cs.map cf)) := fun _ => Kd _ _ npa (hp1 trivial)
    have Kd0 : Keep a H Hd := K1.trans Kd
    have hcd := Chs.keep Kd F1 hc1
    have zc := hcd z (List.mem_of_getElem? hz)
    have z40 := h40 z (List.mem_of_getElem? hz)
    have et : ∀ {H' : Hp}, Same Hd H' → ∀ x ∈ (cs.map cf).take j, Me a H' x := fun {H'} s x hx => (me_chs hcd x (List.mem_of_mem_take hx)).same s
    have ed : ∀ {H' : Hp}, Same Hd H' → ∀ x ∈ (cs.map cf).drop (j + 1), Me a H' x := fun {H'} s x hx => (me_chs hcd x (List.mem_of_mem_drop hx)).same s
    have lt : ((cs.map cf).take j).length ≤ 100 := by rw [List.length_take, List.length_map]; omega
    have le : ((cs.map cf).drop (j + 1)).length ≤ 100 := by rw [List.length_drop, List.length_map]; omega
    walk_at "sx"
    refine i_2 (fun c6 => ?_) (fun c6 => ?_)
    · walk_at "sx"
      refine r_take (hpd trivial) lj fun p1 H2 n2 s2 h2 => ?_
      walk_at "sx"
      refine r_drop (s2 _ _ (hpd trivial)) lj fun p3 H3 n3 s3 h3 => ?_
      refine r_cat (s3 _ _ h2) h3 (by rw [sizeLine_eq]; omega) fun p4 H4 s4 h4 => ?_
      have s24 := s2.trans (s3.trans s4)
      exact k _ _ (((Fd.same s2).same s3).same s4) (Kd0.trans (Keep.same s24)) (ask_tup (a := a) h4 (by rw [List.length_append]; omega) (all_app (et s24) (ed s24)))
    have zat : True → Hd z.1 = some (.tup [.int z.2.1, .int z.2.2]) := fun _ => zc.at_
    refine s_seq (s_asg (s_op (s_op (s_var rfl (s_var rfl (r_ixT (hpd trivial) az (s_c (r_ixT (zat trivial) (v := .int z.2.1) rfl (s_name ?_)))))))))
    refine s_seq (s_asg (s_op (s_op (s_var rfl (s_var rfl (r_ixT (hpd trivial) az (s_c (r_ixT (zat trivial) (v := .int z.2.2) rfl (s_name ?_)))))))))
    obtain ⟨u, lw, eu⟩ : ∃ u lw, (u, lw) = z.2 := ⟨_, _, rfl⟩
    rw [← eu] at z40 zat zc ⊢
    dsimp only at z40 zat zc ⊢
    walk_at "sx"
    rename_i p1 n1 G1 t1 g1 p2 n2 G2 t2 g2 p3 n3 G3 t3 g3
    have t13 := t1.trans (t2.trans t3)
    refine r_ixT (t13 _ _ (hpd trivial)) az ?_
    refine s_nil ⟨z.1, _, rfl, .inr (SqT.of (t13 _ _ (zat trivial))), fun l4 n4 => ?_⟩
    generalize hE : upd G3 l4 _ = G4
    have t4 := new_same n4 hE
    have g4 := new_at hE
    clear hE
    have two : Sm 2 (2 : Int) := by unfold Sm; decide
    have uu := z40.1
    have ww := z40.2
    have u50 : Sm 50 u := uu.mono (by decide)
    have w50 : Sm 50 lw := ww.mono (by decide)
    have c1 : ∀ {H' : Hp}, Sc H' (.int 1) := fun {H'} => sc_int (by unfold Sm; decide)
    have c0' : ∀ {H' : Hp}, Sc H' (.int 0) := fun {H'} => sc_int (by unfold Sm; decide)
    have c2' : ∀ {H' : Hp}, Sc H' (.int 2) := fun {H'} => sc_int (by unfold Sm; decide)
    have tp : ∀ {H' : Hp} {q : Addr} {x y : V}, H' q = some (.tup [x, y]) → Sc H' x → Sc H' y → Me a H' (.ref q) := fun h hx hy => me_tup h (show 2 < 1000 by decide) (all_cons hx (all_cons hy all_nil))
    have M1 : Me a G4 (.ref p1) ∧ Me a G4 (.ref p2) ∧ Me a G4 (.ref p3) ∧ Me a G4 (.ref l4) := by
      refine ⟨tp ((t2.trans (t3.trans t4)) _ _ g1) (sc_int ((two.mul uu).mono (by decide))) (sc_int ((two.mul ww).mono (by decide))), tp ((t3.trans t4) _ _ g2) (sc_int ((uu.add ww).mono (by decide))) (sc_int w50), tp (t4 _ _ g3) (sc_int ((Sm.sub (sm_1.neg) uu).mono (by decide))) (sc_int w50), me_lst (ne_of_flow (Fd.same t13) n4) g4 (show 2 < 1000 by decide) (all_cons (sc_int u50) (all_cons (sc_int w50) all_nil))⟩
    have tD4 : Same Hd G4 := t13.trans t4
    clear g1 g2 g3 g4 t1 t2 t3 t4 t13 n1 n2 n3 n4
    walk_at "sx"
    rename_i p5 n5 G5 t5 g5 p6 n6 G6 t6 g6 p7 n7 G7 t7 g7 p8 n8 G8 t8 g8 p9 n9 G9 t9 g9 p10 n10 G10 t10 g10 p11 n11 G11 t11 g11 p12 n12 G12 t12 g12 p13 n13 G13 t13 g13 p14 n14 G14 t14 g14
    have t514 := t5.trans (t6.trans (t7.trans (t8.trans (t9.trans (t10.trans (t11.trans (t12.trans (t13.trans t14))))))))
    have M2 : ∀ v ∈ [V.ref p1, V.ref p2, V.ref p3, V.ref l4, V.int 0, V.int 1, V.non, V.ref p5] ++ [V.ref p7, V.ref p8, V.ref p9, V.ref p10, V.ref p11, V.ref p12, V.str (Str.ofString "1/2"), V.ref p13], Me a G14 v := by
      refine all_app (all_cons (M1.1.same t514) (all_cons (M1.2.1.same t514) (all_cons (M1.2.2.1.same t514) (all_cons (M1.2.2.2.same t514) (all_cons (me_int _) (all_cons (me_int _) (all_cons me_non (all_cons ?_ all_nil)))))))) (all_cons ?_ (all_cons ?_ (all_cons ?_ (all_cons ?_ (all_cons ?_ (all_cons ?_ (all_cons (me_str _) (all_cons ?_ all_nil))))))))
      · exact me_tup ((t6.trans (t7.trans (t8.trans (t9.trans (t10.trans (t11.trans (t12.trans (t13.trans t14)))))))) _ _ g5) (show 1 < 1000 by decide) (all_cons (sc_int u50) all_nil)
      · exact me_tup ((t8.trans (t9.trans (t10.trans (t11.trans (t12.trans (t13.trans t14)))))) _ _ g7) (show 3 < 1000 by decide) (all_cons (sc_int u50) (all_cons (sc_int w50) (all_cons c1 all_nil)))
      · exact tp ((t9.trans (t10.trans (t11.trans (t12.trans (t13.trans t14))))) _ _ g8) (sc_bl _) c1
      · exact tp ((t10.trans (t11.trans (t12.trans (t13.trans t14)))) _ _ g9) (sc_int u50) (sc_bl _)
      · exact tp ((t11.trans (t12.trans (t13.trans t14))) _ _ g10) (sc_bl _) c1
      · exact tp ((t12.trans (t13.trans t14)) _ _ g11) (sc_int u50) c0'
      · exact tp ((t13.trans t14) _ _ g12) (sc_int u50.neg) (sc_int w50.neg)
      · exact tp ((t14) _ _ g13) c0' c2'
    have g6' := ((t7.trans (t8.trans (t9.trans (t10.trans (t11.trans (t12.trans (t13.trans t14))))))) _ _ g6)
    refine ⟨p6, p14, _, _, rfl, rfl, g6', g14, show 16 ≤ sizeLine by rw [sizeLine_eq]; decide, fun p15 n15 => ?_⟩
    generalize hE : upd G14 p15 _ = G15
    have t15 := new_same n15 hE
    have g15 := new_at hE
    clear hE
    have t415 : Same Hd G15 := tD4.trans (t514.trans t15)
    have M3 : ∀ v ∈ _, Me a G15 v := fun v hv => (M2 v hv).same t15
    clear M1 M2 g5 g6 g7 g8 g9 g10 g11 g12 g13 g14 g6' n5 n6 n7 n8 n9 n10 n11 n12 n13 n14 t5 t6 t7 t8 t9 t10 t11 t12 t13 t514 t15
    walk_at "sx"
    rename_i p16 n16 G16 t16 g16 p17 n17 G17 t17 g17 p18 n18 G18 t18 g18 p19 n19 G19 t19 g19 p20 n20 G20 t20 g20 p21 n21 G21 t21 g21 p22 n22 G22 t22 g22 p23 n23 G23 t23 g23 p24 n24 G24 t24 g24
    have t1624 := t16.trans (t17.trans (t18.trans (t19.trans (t20.trans (t21.trans (t22.trans (t23.trans t24)))))))
    have M4 := all_app (fun v hv => (M3 v hv).same t1624) (show ∀ v ∈ [V.ref p17, V.ref p18, V.ref p19, V.ref p20, V.bl true, V.ref p21, V.ref p22, V.ref p23], Me a G24 v from by
      refine all_cons ?_ (all_cons ?_ (all_cons ?_ (all_cons ?_ (all_cons (me_bl _) (all_cons ?_ (all_cons ?_ (all_cons ?_ all_nil)))))))
      · exact me_tup ((t18.trans (t19.trans (t20.trans (t21.trans (t22.trans (t23.trans t24)))))) _ _ g17) (show 1 < 1000 by decide) (all_cons (sc_tup (ns := [u, lw]) ((t17.trans (t18.trans (t19.trans (t20.trans (t21.trans (t22.trans (t23.trans t24))))))) _ _ g16) (show 2 < 1000 by decide)) all_nil)
      · exact tp ((t19.trans (t20.trans (t21.trans (t22.trans (t23.trans t24))))) _ _ g18) sc_non c2'
      · exact tp ((t20.trans (t21.trans (t22.trans (t23.trans t24)))) _ _ g19) (sc_str _) c2'
      · exact tp ((t21.trans (t22.trans (t23.trans t24))) _ _ g20) (sc_int ((ww.add sm_1).mono (by decide))) (sc_int w50)
      · exact tp ((t22.trans (t23.trans t24)) _ _ g21) c1 c0'
      · exact tp ((t23.trans t24) _ _ g22) c0' (sc_int (by unfold Sm; decide))
      · exact tp ((t24) _ _ g23) (sc_int u50) (sc_int w50.neg))
    refine ⟨p15, p24, _, _, rfl, rfl, t1624 _ _ g15, g24, show 24 ≤ sizeLine by rw [sizeLine_eq]; decide, fun p25 n25 => ?_⟩
    generalize hE : upd G24 p25 _ = G25
    have t25 := new_same n25 hE
    have g25 := new_at hE
    clear hE
    have n25a : p25 ≠ a := ((Fd.same (t415.trans t1624)).ne n25).symm
    have tD : Same Hd G25 := t415.trans (t1624.trans t25)
    have M5 := fun v hv => (M4 v hv).same t25
    clear M3 M4 g15 g16 g17 g18 g19 g20 g21 g22 g23 g24 n15 n16 n17 n18 n19 n20 n21 n22 n23 n24 n25 t16 t17 t18 t19 t20 t21 t22 t23 t24 t1624 t25 t415
    have F25 := Fd.same tD
    have lall : ([V.ref p1, V.ref p2, V.ref p3, V.ref l4, V.int 0, V.int 1, V.non, V.ref p5] ++ [V.ref p7, V.ref p8, V.ref p9, V.ref p10, V.ref p11, V.ref p12, V.str (Str.ofString "1/2"), V.ref p13] ++ [V.ref p17, V.ref p18, V.ref p19, V.ref p20, V.bl true, V.ref p21, V.ref p22, V.ref p23]).length = 24 := rfl
    generalize [V.ref p1, V.ref p2, V.ref p3, V.ref l4, V.int 0, V.int 1, V.non, V.ref p5] ++ [V.ref p7, V.ref p8, V.ref p9, V.ref p10, V.ref p11, V.ref p12, V.str (Str.ofString "1/2"), V.ref p13] ++ [V.ref p17, V.ref p18, V.ref p19, V.ref p20, V.bl true, V.ref p21, V.ref p22, V.ref p23] = bad at *
    have g25' : True → G25 p25 = some (.lst bad) := fun _ => g25
    clear g25
    refine s_name ?_
    walk_at "sx"
    refine r_take (tD _ _ (hpd trivial)) lj fun q1 H2 m2 s2 h2 => ?_
    walk_at "sx"
    refine ⟨_, _, rfl, .inl ⟨_, SqL.of (s2 _ _ (g25' trivial)), rfl⟩, ?_⟩
    walk_at "sx"
    rw [lall]
    have F2 := F25.same s2
    refine c_take F2 (by decide) (by decide) fun d9 H9 l9 u9 F9 K9 => ?_
    obtain ⟨v, mv, ev⟩ := atI_mem (xs := bad) l9 (by rw [lall]; exact u9)
    have h29 := tupK K9 F2 h2
    have hp9 : True → H9 p = some (.tup (cs.map cf)) := fun _ => tupK K9 F2 (s2 _ _ (tD _ _ (hpd trivial)))
    have mev := ((M5 v mv).same s2).keep K9 F2
    have et9 : ∀ x ∈ (cs.map cf).take j, Me a H9 x := fun x hx => (((et (L2.Same.refl _) x hx).same tD).same s2).keep K9 F2
    have ed9 : ∀ x ∈ (cs.map cf).drop (j + 1), Me a H9 x := fun x hx => (((ed (L2.Same.refl _) x hx).same tD).same s2).keep K9 F2
    refine r_ixL (K9 _ _ n25a (s2 _ _ (g25' trivial))) ev ?_
    have K29 : Keep a H H9 := Kd0.trans ((Keep.same (tD.trans s2)).trans K9)
    clear M5 g25' et ed
    walk_at "sx"
    rename_i pt mt Gt st gt
    refine r_cat (st _ _ h29) gt (by rw [sizeLine_eq]; show _ + 1 ≤ _; omega) fun q4 H4 s4 h4 => ?_
    walk_at "sx"
    have st4 := st.trans s4
    refine r_drop (st4 _ _ (hp9 trivial)) lj fun q5 H5 m5 s5 h5 => ?_
    refine r_cat (s5 _ _ h4) h5 (by rw [sizeLine_eq, List.length_append]; show (_ + 1) + _ ≤ _; omega) fun q6 H6 s6 h6 => ?_
    have sF := st4.trans (s5.trans s6)
    exact k _ _ (F9.same sF) (K29.trans (Keep.same sF)) (ask_tup (a := a) h6 (by rw [List.length_append, List.length_append]; show (_ + 1) + _ < _; omega) (all_app (all_app (fun x hx => (et9 x hx).same sF) (all_cons (mev.same sF) all_nil)) (fun x hx => (ed9 x hx).same sF)))
end
end K35

set_option Elab.async false
set_option linter.all false
set_option maxRecDepth 100000
set_option maxHeartbeats 4000000
namespace K35
open PySem L2 Sx Ct
local macro_rules | `(tactic| walk_at "cond") => `(tactic| first
  | assumption
  | decide
  | exact c_mul_r (by first | decide | omega) (by first | decide | omega)
  | exact c_mul_l (by first | decide | omega) (by first | decide | omega)
  | exact c_div (by first | decide | omega) (by first | decide | omega)
  | exact c_pow (by first | decide | omega) (by first | decide | omega) (by first | decide | omega)
  | omega)
local macro_rules | `(tactic| walk_at "ne") => `(tactic| first
  | assumption
  | (refine Ne.symm ?_; assumption)
  | (refine' Flow.ne ?nh ?nn; (case nn => assumption); (case nh => walk_at "fl"))
  | (refine Ne.symm ?_; refine' Flow.ne ?nh ?nn; (case nn => assumption); (case nh => walk_at "fl"))
  | (refine' ne_of_none ?nh ?nn; (case nn => assumption); (case nh => walk_at "at"))
  | (refine Ne.symm ?_; refine' ne_of_none ?nh ?nn; (case nn => assumption); (case nh => walk_at "at")))
local macro_rules | `(tactic| walk_at "at") => `(tactic| first
  | assumption
  | (refine Same.up (by assumption) ?_; walk_at "at")
  | (refine Keep.up (by assumption) (by walk_at "ne") ?_; walk_at "at"))
local macro_rules | `(tactic| walk_at "fl") => `(tactic| first
  | assumption
  | (refine Flow.same (by assumption) ?_; walk_at "fl")
  | (refine Flow.keep (by assumption) (by walk_at "ne") ?_; walk_at "fl"))
local macro_rules | `(tactic| walk_at "fr") => `(tactic| first
  | assumption
  | (refine same_free (by assumption) ?_; walk_at "fr")
  | (refine Keep.free (by assumption) (by walk_at "ne") ?_; walk_at "fr"))
local macro_rules | `(tactic| walk_at "kp") => `(tactic| first
  | assumption
  | exact Keep.refl _ _
  | (refine Keep.trans ?_ (by assumption); walk_at "kp")
  | (refine Keep.trans ?_ (Keep.same (by assumption)); walk_at "kp"))
local macro_rules | `(tactic| walk_at "sm") => `(tactic| first
  | assumption
  | exact L2.Same.refl _
  | (refine L2.Same.trans ?_ (by assumption); walk_at "sm"))
local macro_rules | `(tactic| walk_at "sz") => `(tactic| first | exact Nat.le_of_ble_eq_true rfl | omega)
local macro_rules | `(tactic| walk_at "new") => `(tactic| (intro p np; generalize hE : upd _ p _ = H2; have s2 := new_same np hE; have h2 := new_at hE; clear hE))
local macro_rules | `(tactic| walk_at "newx") => `(tactic| (intro e d na nd hda; generalize hE : upd (upd _ d _) e _ = H2; have s2 := newx_same na nd hE; have h2 := newx_at hE; have h3 := newx_d hda hE; clear hE))
local macro_rules | `(tactic| walk_at "s1") => `(tactic| first
  | with_reducible refine s_seq ?_
  | with_reducible refine s_asg ?_
  | with_reducible refine s_name ?_
  | with_reducible refine s_ret ?_
  | with_reducible refine s_c ?_
  | ((with_reducible refine' s_var ?hv ?_); (case hv => rfl))
  | with_reducible refine s_op ?_
  | with_reducible refine s_un ?_
  | with_reducible refine s_ifS ?_
  | with_reducible refine s_cb ?_
  | with_reducible refine s_cons ?_
  | with_reducible refine s_nil ?_
  | with_reducible refine s_call ?_
  | with_reducible refine s_test ?_
  | with_reducible refine s_tB ?_
  | with_reducible refine s_bl ?_
  | with_reducible refine s_and ?_
  | with_reducible refine s_or ?_
  | with_reducible refine s_not ?_
  | with_reducible refine s_andV ?_
  | with_reducible refine s_orV ?_
  | with_reducible refine s_notV ?_
  | with_reducible refine s_blV ?_
  | with_reducible refine s_if ?_
  | with_reducible refine s_tup ?_
  | with_reducible refine s_lst ?_
  | with_reducible refine s_drop ?_
  | with_reducible refine s_next ?_
  | with_reducible refine s_sub ?_
  | with_reducible refine s_bm ?_
  | with_reducible refine s_callK ?_
  | with_reducible refine s_brk ?_
  | with_reducible refine s_cont ?_
  | with_reducible refine r_I0 ?_
  | with_reducible refine r_U ?_
  | with_reducible refine r_eqI ?_
  | with_reducible refine r_neI ?_
  | with_reducible refine r_isB ?_
  | with_reducible refine r_notB ?_
  | with_reducible refine i_t ?_
  | with_reducible refine i_f ?_
  | with_reducible refine i_nt ?_
  | with_reducible refine i_nf ?_
  | ((with_reducible refine' r_I ?hc ?_); (case hc => walk_at "cond"))
  | (with_reducible refine .inl ⟨_, rfl, ?_⟩)
  | (with_reducible refine ⟨_, rfl, ?_⟩)
  | ((with_reducible refine' r_ixL ?hx ?ha ?_); (case hx => walk_at "at"); (case ha => rfl))
  | ((with_reducible refine' r_ixT ?hx ?ha ?_); (case hx => walk_at "at"); (case ha => rfl))
  | ((with_reducible refine' r_setL ?hx ?ha ?_); (case hx => walk_at "at"); (case ha => rfl); intro H2 k2 h2; (try dsimp only [List.set, Int.toNat] at h2))
  | ((with_reducible refine' r_app ?hx ?hl ?_); (case hx => walk_at "at"); (case hl => first | exact Nat.lt_of_ble_eq_true rfl | omega); intro H2 k2 h2)
  | ((with_reducible refine' ty_list ?hx ?_); (case hx => walk_at "at"))
  | (refine And.intro (by (with_reducible show _ ≤ sizeLine); walk_at "sz") ?_; walk_at "new")
  | with_reducible refine s_exv ?_
  | walk_at "newx")
local macro_rules | `(tactic| walk_at "sx") => `(tactic| repeat (walk_at "s1"))
local macro_rules | `(tactic| walk_at "s2") => `(tactic| first
  | ((with_reducible refine' r_ixG ?hx ?hn ?_); (case hx => walk_at "at"); (case hn => omega))
  | ((with_reducible refine' r_ixGT ?hx ?hn ?_); (case hx => walk_at "at"); (case hn => omega))
  | (with_reducible refine ig_cons (fun hix => ?_) (fun hix => ?_))
  | ((with_reducible refine ig_nil ?_); omega)
  | ((with_reducible refine' i_T ?hc ?_); (case hc => omega))
  | ((with_reducible refine' i_F ?hc ?_); (case hc => omega))
  | (with_reducible refine i_2 (fun hc => ?_) (fun hc => ?_))
  | (with_reducible refine i_n2 (fun hc => ?_) (fun hc => ?_)))
local macro_rules | `(tactic| walk_at "go") => `(tactic| repeat' (first | walk_at "s1" | walk_at "s2"))

local macro_rules | `(tactic| walk_at "s1") => `(tactic| first
  | with_reducible refine s_chain ?_
  | with_reducible refine s_fldS ?_
  | with_reducible refine s_fld ?_
  | with_reducible refine s_dIn ?_
  | with_reducible refine s_dNotIn ?_
  | with_reducible refine s_sl ?_
  | with_reducible refine s_noPart ?_
  | with_reducible refine s_part ?_
  | with_reducible refine s_meth ?_
  | with_reducible refine s_make ?_)

theorem s_callS2 {σ : L2.St} {H : Hp} {Q : VK} {sp : Sp} {E : L2.St → XK} {t : TA} (h : t σ H fun vs H1 => sp vs H1 Q (E σ)) : tCallS sp E t σ H Q := h
theorem s_callKS2 {σ : L2.St} {H : Hp} {Q : VK} {sp : Sp} {gV : List V → List V → List V} {E : L2.St → XK} {tk : TA} (h : tk σ H fun zs H2 => sp (gV [] zs) H2 Q (E σ)) : tCallKS sp gV E tk σ H Q := h
local macro_rules | `(tactic| walk_at "s1") => `(tactic| first
  | with_reducible refine s_callS2 ?_
  | with_reducible refine s_callKS2 ?_)
section
variable {P : Program} {w : World} {K : PySem.W.Frag} {mg : Str → Option Value} {base : Heap} {A : Ad}
/-- what one asks of: a list of rules made of the rows of numbers, the numbers and the ties -/
structure Had (C : Addr) (H : Hp) (x l t : Addr) (n : Nat) (ns : List Nat) (L : List (List Int)) (qs : List (Addr × List Int)) : Prop where
  o : Of1 C H x n ns L
  hl : H l = some (.lst (ns.map nv))
  ht : H t = some (.lst (qs.map rf))
  tq : TupsAt H qs
  eq : qs.map (·.2) = L.map pr
  f12 : ns.length ≤ 12
  sq : qs.length < 1000
theorem Had.same {C : Addr} {H H' : Hp} {x l t : Addr} {n : Nat} {ns : List Nat} {L : List (List Int)} {qs : List (Addr × List Int)} (e : Same H H') (h : Had C H x l t n ns L qs) : Had C H' x l t n ns L qs := ⟨h.o.same e, e _ _ h.hl, e _ _ h.ht, h.tq.same e, h.eq, h.f12, h.sq⟩
theorem al_red {H : Hp} {t u : Addr} {ss rs : List Addr} {U : List Q2} {d : Nat → Nat} (ht : H t = some (.tup (ss.map V.ref))) (hu : H u = some (.tup (rs.map V.ref))) (S : Ss H ss U d) (R : Red H rs U) (sz : U.length < 1000) : Al H 2 (.ref t) (.ref u) := by
  refine .tup ht hu (by rw [List.length_map, List.length_map, S.len, R.len]) (by rw [List.length_map, R.len]; exact sz) fun i x y hx hy => ?_
  rw [List.getElem?_map] at hx hy
  obtain ⟨p, hp, rfl⟩ := Option.map_eq_some_iff.mp hx
  obtain ⟨q, hq, rfl⟩ := Option.map_eq_some_iff.mp hy
  exact al_ints (ns := [_, _]) (S.at_ i p hp).at_ (R.at_ i q hq) (show 2 < 1000 by decide)
theorem cf_inj {cs ds : List (Addr × Q2)} {H : Hp} (e : cs.map cf = ds.map cf) (hc : ChsAt H cs) (hd : ChsAt H ds) : cs = ds := by
  refine List.ext_getElem? fun i => ?_
  have z := congrArg (fun l => l[i]?) e
  simp only [List.getElem?_map] at z
  cases h1 : cs[i]? with
  | none =>
    rw [h1] at z
    cases h2 : ds[i]? with
    | none => rfl
    | some b => rw [h2] at z; cases z
  | some a =>
    rw [h1] at z
    cases h2 : ds[i]? with
    | none => rw [h2] at z; cases z
    | some b =>
      rw [h2] at z
      have ea : a.1 = b.1 := V.ref.inj (Option.some.inj z)
      have ha := (hc a (List.mem_of_getElem? h1)).at_
      have hb := (hd b (List.mem_of_getElem? h2)).at_
      rw [ea, hb] at ha
      obtain ⟨a1, a2, a3⟩ := a
      obtain ⟨b1, b2, b3⟩ := b
      simp at ha ea ⊢
      exact ⟨ea, ha.1.symm, ha.2.symm⟩
def spAsk (K : PySem.W.Frag) (C : Addr) : Sp := fun vs H Q _ => ∃ (x l t : Addr) (v : V) (b : Bool) (n : Nat) (ns : List Nat) (L : List (List Int)) (qs : List (Addr × List Int)), vs = [.ref x, .ref l, .ref t, v, .bl b] ∧ Had C H x l t n ns L qs ∧ Ask K H v ∧ ∀ H', Same H H' → Q (.bl true) H'
theorem ok_ask (T : Txt P K mg A) : FnOk P w K mg base CX0 10 A.a__law_asked A.d__law_asked ["rules", "numbers", "ties", "value", "named"] (spAsk K A.c_Rules) := by
  refine T.F__law_asked.ok sc__law_asked (fun vs H Q E h => ?_) (fun cdv A' outer s H vs Q E hr h => ?_)
  · obtain ⟨x, l, t, v, b, n, ns, L, qs, rfl, _⟩ := h
    rfl
  · obtain ⟨x, l, t, v, b, n, ns, L, qs, rfl, h0, al, k⟩ := h
    have G__law_is_guess := ok_LG (w := w) (base := base) T
    have G__law_means := ok_LM (w := w) (base := base) T
    have G_means_of := ok_means (w := w) (base := base) T
    have G__law_same := ok_same (w := w) (base := base) T 2
    have GH__law_same := ok_sameH (w := w) (base := base) T 3
    have hd : True → Had A.c_Rules H x l t n ns L qs := fun _ => h0
    have N := h0.o.N
    have f12 := h0.f12
    have sn := h0.o.sn
    have sq := h0.sq
    have lL : qs.length = L.length := by simpa using congrArg List.length h0.eq
    clear h0
    refine ⟨_, (pss_cons (ps_if (pt_val (pe_call G__law_is_guess (hr.mono (by decide)) rfl T.g__law_is_guess T.F__law_is_guess.kp (B__law_is_guess T) .nil pass0 (pa_cons (pv 3) (pa_cons (pe_callB call_len (by rfl) T.n_len (by decide +kernel) (pa_cons (pv 2) pa_nil)) pa_nil)))) (pss_cons (ps_if (pt_val (pv 4)) (pss_one (ps_set (i := 5) sc__law_asked.nd rfl (Or.inl rfl) (pe_kw0 G_means_of (hr.mono (by decide)) rfl T.g_means_of T.F_means_of.kp (KB_means_of_drawn_rules T) passN (pk_cons (pv 3) (pk_cons (pv 0) pk_nil))))) (pss_one (ps_set (i := 5) sc__law_asked.nd rfl (Or.inl rfl) (pe_call G_means_of (hr.mono (by decide)) rfl T.g_means_of T.F_means_of.kp (B_means_of T) .nil passN (pa_cons (pv 0) (pa_cons (pv 3) pa_nil))))))
  (pss_one (ps_ret (pe_call G__law_same (hr.mono (by decide)) rfl T.g__law_same T.F__law_same.kp (B__law_same T) .nil pass0 (pa_cons (pv 5) (pa_cons (pe_call G__law_means (hr.mono (by decide)) rfl T.g__law_means T.F__law_means.kp (B__law_means T) .nil pass0 (pa_cons (pv 1) (pa_cons (pv 2) (pa_cons (pv 3) pa_nil)))) pa_nil)))))) pss_nil)
  (pss_cons (L2N.ps_try_as (i := 6) rfl rfl sc__law_asked.nd rfl rfl ⟨rfl, by decide, .inl T.g_InvalidGuess⟩ takesN0 (fun W pn xe tk _ => (pss_one (ps_expr (pe_callS G_means_of (hr.mono (by decide)) rfl T.g_means_of T.F_means_of.kp (B_means_of T) (fun σ => L2N.passAt tk σ) (pa_cons (pv 0) (pa_cons (pv 3) pa_nil))))))
  (fun a oe cls d pn hz hf => (pss_one (ps_ret (L2H.pe_callH GH__law_same (roomS (hr.mono (by decide))) (hotS hz hf) rfl T.g__law_same T.F__law_same.kp (B__law_same T) (fun _ => L2.passH (E := E0)) (pa_cons (pe_xf T.X_InvalidGuess.xf T.X_InvalidGuess.noN hz.zc hf (pv 6)) (pa_cons (pv 3) pa_nil)))))))
  (pss_one (ps_ret pe_bl)))), ?_⟩
    walk_at "sx"
    refine ⟨_, _, rfl, .inl ⟨_, SqL.of (hd trivial).ht, rfl⟩, ?_⟩
    walk_at "sx"
    rw [List.length_map, lL]
    refine ⟨v, L.length, rfl, al.gv, fun H0 s0 => ?_⟩
    have al0 := al.same s0
    have d0 : True → Had A.c_Rules H0 x l t n ns L qs := fun _ => (hd trivial).same s0
    have eb : gb H L.length v = gb H0 L.length v := (gb_same s0 al.gv).symm
    rw [eb]
    clear eb hd
    have k0 : ∀ H', Same H0 H' → Q (.bl true) H' := fun H' s => k H' (s0.trans s)
    refine ⟨_, rfl, ?_⟩
    refine i_b2 (fun gT => ?_) (fun gF => ?_)
    · obtain ⟨p, cs, rfl, hp0, hc0, lc⟩ := gb_is gT al0.gv
      have hp : True → H0 p = some (.tup (cs.map cf)) := fun _ => hp0
      clear hp0
      have mk : ∀ (Q1 : VK), (∀ (tt : Addr) (ss : List Addr) H1, Same H0 H1 → H1 tt = some (.tup (ss.map V.ref)) → Ss H1 ss (UU ns.length L (Chq cs) L.length) (fun r => deg r L) → Q1 (.ref tt) H1) →
          ∀ E : XK, spMeans K A.c_Rules A.c_InvalidGuess [.ref x, .ref p] H0 Q1 E := fun Q1 q1 E => by
        refine ⟨x, .ref p, n, ns, L, rfl, (d0 trivial).o, al0.gv, fun e => ?_, fun p' cs' e h' hc' lc' tt ss H1 s1 ht1 S1 => ?_⟩
        · rw [gT] at e
          cases e
        · cases e
          have hb := (hp trivial).symm.trans h'
          have e1 : cs' = cs := by
            injection hb with e
            injection e with e
            exact cf_inj e.symm hc' hc0
          subst e1
          exact q1 tt ss H1 s1 ht1 S1
      have fin : ∀ (tt : Addr) (ss : List Addr) H1, Same H0 H1 → H1 tt = some (.tup (ss.map V.ref)) → Ss H1 ss (UU ns.length L (Chq cs) L.length) (fun r => deg r L) → ∀ (Q1 : VK), (∀ u H2, Same H1 H2 → Al H2 2 (.ref tt) (.ref u) → Q1 (.ref u) H2) →
          ∀ E : XK, spLM [.ref l, .ref t, .ref p] H1 Q1 E := fun tt ss H1 s1 ht1 S1 Q1 q1 E => by
        have d1 := (d0 trivial).same s1
        refine ⟨l, t, p, n, ns, L, qs, cs, rfl, d1.hl, d1.ht, d1.tq, d1.o.t, d1.eq, N, f12, sn, sq, s1 _ _ (hp trivial), hc0.same s1, lc, fun u rs H2 s2 hu R2 => ?_⟩
        exact q1 u H2 s2 (al_red (s2 _ _ ht1) hu (S1.same s2) R2 (by rw [UU_len]; omega))
      walk_at "sx"
      refine i_b2 (fun hb => ?_) (fun hb => ?_)
      · walk_at "sx"
        refine mk _ (fun tt ss H1 s1 ht1 S1 => ?_) _
        walk_at "sx"
        refine fin tt ss H1 s1 ht1 S1 _ (fun u H2 s2 al2 => ?_) _
        walk_at "sx"
        exact ⟨_, _, rfl, al2, fun H3 s3 => k0 H3 ((s1.trans s2).trans s3)⟩
      · walk_at "sx"
        refine mk _ (fun tt ss H1 s1 ht1 S1 => ?_) _
        walk_at "sx"
        refine fin tt ss H1 s1 ht1 S1 _ (fun u H2 s2 al2 => ?_) _
        walk_at "sx"
        exact ⟨_, _, rfl, al2, fun H3 s3 => k0 H3 ((s1.trans s2).trans s3)⟩
    · walk_at "sx"
      have lk : List.lookup ("value" : Str) [(("value" : Str), v)] = some v := by simp [List.lookup]
      refine ⟨x, v, n, ns, L, rfl, (d0 trivial).o, al0.gv, fun _ e H1 s1 he => ?_, fun p' cs' e h' hc' lc' => ?_⟩
      · refine ⟨true, T.X_InvalidGuess.te, fun _ z hz => ?_, fun z => Bool.noConfusion z⟩
        walk_at "sx"
        refine ⟨_, rfl, rfl, rfl, e, _, _, rfl, upd_same, lk, ?_⟩
        walk_at "sx"
        have s2 : Same H0 (upd H1 e (.xd [("value", v)])) := s1.trans (Same.new he)
        refine ⟨_, _, rfl, (al0.same s2).al, fun H2 s3 => k0 H2 (s2.trans s3)⟩
      · rw [e, gb_tup h', List.length_map, lc', decide_eq_true rfl, Bool.true_and] at gF
        have : (cs'.map cf).all (chB H0) = true := by
          rw [List.all_eq_true]
          intro y hy
          obtain ⟨z, hz, rfl⟩ := List.mem_map.mp hy
          have c := hc' z hz
          rw [chB_at c.at_]
          show (sh2 _ _ && bt2 _ _) = true
          show ((decide (0 < z.2.2) && decide (((Nat.gcd z.2.1.natAbs z.2.2.natAbs : Nat) : Int) = 1)) && (decide (0 ≤ z.2.1) && decide (z.2.1 ≤ z.2.2))) = true
          rw [decide_eq_true c.po, c.g1, decide_eq_true c.lo, decide_eq_true c.hi]
          rfl
        rw [this] at gF
        cases gF
def spObj (C : Addr) : Sp := fun vs H Q _ => ∃ (x : Addr) (n : Nat) (ns : List Nat) (L : List (List Int)), vs = [.ref x] ∧ Of1 C H x n ns L ∧ ∀ H', Same H H' → Q (.bl true) H'
theorem ok_obj (T : Txt P K mg A) : FnOk P w K mg base CX0 10 A.a__law_object_refused A.d__law_object_refused ["rules"] (spObj A.c_Rules) := by
  refine T.F__law_object_refused.ok sc__law_object_refused (fun vs H Q E h => ?_) (fun cdv A' outer s H vs Q E hr h => ?_)
  · obtain ⟨x, n, ns, L, rfl, _⟩ := h
    rfl
  · obtain ⟨x, n, ns, L, rfl, o, k⟩ := h
    have G_means_of := ok_means (w := w) (base := base) T
    have GH_Rules____eq__ := ok_eqH (w := w) (base := base) T
    obtain ⟨ks, ru, ek⟩ := id o.R
    obtain ⟨dx, t, kn, h1, _⟩ := id ru
    have g : GV K H (.ref x) := .inl ⟨T.o_Rules.isin h1 T.o_Rules.nt (by decide +kernel), fun p e => by
      cases e
      exact ⟨_, h1, rfl⟩⟩
    have lk : List.lookup ("value" : Str) [(("value" : Str), V.ref x)] = some (V.ref x) := by simp [List.lookup]
    refine ⟨_, (pss_cons (L2N.ps_try_as (i := 1) rfl rfl sc__law_object_refused.nd rfl rfl ⟨rfl, by decide, .inl T.g_InvalidGuess⟩ takesN0 (fun W pn xe tk _ => (pss_one (ps_expr (pe_callS G_means_of (hr.mono (by decide)) rfl T.g_means_of T.F_means_of.kp (B_means_of T) (fun σ => L2N.passAt tk σ) (pa_cons (pv 0) (pa_cons (pv 0) pa_nil))))))
  (fun a oe cls d pn hz hf => (pss_one (ps_ret (pe_and (pe_callB (id := "isinstance") (r := rIsiV K) call_isiV (by rfl) T.n_isinstance (by decide +kernel) (pa_cons (pe_xf T.X_InvalidGuess.xf T.X_InvalidGuess.noN hz.zc hf (pv 1)) (pa_cons (pe_glob (v := .ref A.c_Rules) rfl T.g_Rules rfl) pa_nil))) (pe_one (pe_cmpR (op_eqOwnH GH_Rules____eq__ (roomS (hr.mono (by decide))) (hotS hz hf) T.sp_Rules___eq__.1 T.sp_Rules___eq__.2 (B_Rules____eq__ T) (fun _ => passH (E := E0))) (pe_xf T.X_InvalidGuess.xf T.X_InvalidGuess.noN hz.zc hf (pv 1)) (pv 0) (nomark _))))))))
  (pss_one (ps_ret pe_bl))), ?_⟩
    walk_at "sx"
    refine ⟨x, .ref x, n, ns, L, rfl, o, g, fun _ e H1 s1 he => ?_, fun p' cs' e h' _ _ => ?_⟩
    · have s2 : Same H (upd H1 e (.xd [("value", .ref x)])) := s1.trans (Same.new he)
      refine ⟨true, T.X_InvalidGuess.te, fun _ z hz => ?_, fun z => Bool.noConfusion z⟩
      walk_at "sx"
      refine ⟨_, rfl, rfl, rfl, e, _, _, rfl, upd_same, lk, ?_⟩
      walk_at "sx"
      refine T.o_Rules.own (s2 _ _ h1) ?_
      walk_at "sx"
      refine ⟨_, rfl, rfl, rfl, e, _, _, rfl, upd_same, lk, ?_⟩
      walk_at "sx"
      refine ⟨x, x, dx, dx, _, _, rfl, rfl, s2 _ _ h1, s2 _ _ h1, x, n, ks, rfl, ru.same s2, fun H2 s3 => ⟨rfl, k H2 (s2.trans s3)⟩⟩
    · cases e
      rw [h1] at h'
      cases h'
end
end K35

set_option Elab.async false
set_option linter.all false
set_option maxRecDepth 100000
set_option maxHeartbeats 4000000
namespace K35
open PySem L2 Sx Ct
local macro_rules | `(tactic| walk_at "cond") => `(tactic| first
  | assumption
  | decide
  | exact c_mul_r (by first | decide | omega) (by first | decide | omega)
  | exact c_mul_l (by first | decide | omega) (by first | decide | omega)
  | exact c_div (by first | decide | omega) (by first | decide | omega)
  | exact c_pow (by first | decide | omega) (by first | decide | omega) (by first | decide | omega)
  | omega)
local macro_rules | `(tactic| walk_at "ne") => `(tactic| first
  | assumption
  | (refine Ne.symm ?_; assumption)
  | (refine' Flow.ne ?nh ?nn; (case nn => assumption); (case nh => walk_at "fl"))
  | (refine Ne.symm ?_; refine' Flow.ne ?nh ?nn; (case nn => assumption); (case nh => walk_at "fl"))
  | (refine' ne_of_none ?nh ?nn; (case nn => assumption); (case nh => walk_at "at"))
  | (refine Ne.symm ?_; refine' ne_of_none ?nh ?nn; (case nn => assumption); (case nh => walk_at "at")))
local macro_rules | `(tactic| walk_at "at") => `(tactic| first
  | assumption
  | (refine Same.up (by assumption) ?_; walk_at "at")
  | (refine Keep.up (by assumption) (by walk_at "ne") ?_; walk_at "at"))
local macro_rules | `(tactic| walk_at "fl") => `(tactic| first
  | assumption
  | (refine Flow.same (by assumption) ?_; walk_at "fl")
  | (refine Flow.keep (by assumption) (by walk_at "ne") ?_; walk_at "fl"))
local macro_rules | `(tactic| walk_at "fr") => `(tactic| first
  | assumption
  | (refine same_free (by assumption) ?_; walk_at "fr")
  | (refine Keep.free (by assumption) (by walk_at "ne") ?_; walk_at "fr"))
local macro_rules | `(tactic| walk_at "kp") => `(tactic| first
  | assumption
  | exact Keep.refl _ _
  | (refine Keep.trans ?_ (by assumption); walk_at "kp")
  | (refine Keep.trans ?_ (Keep.same (by assumption)); walk_at "kp"))
local macro_rules | `(tactic| walk_at "sm") => `(tactic| first
  | assumption
  | exact L2.Same.refl _
  | (refine L2.Same.trans ?_ (by assumption); walk_at "sm"))
local macro_rules | `(tactic| walk_at "sz") => `(tactic| first | exact Nat.le_of_ble_eq_true rfl | omega)
local macro_rules | `(tactic| walk_at "new") => `(tactic| (intro p np; generalize hE : upd _ p _ = H2; have s2 := new_same np hE; have h2 := new_at hE; clear hE))
local macro_rules | `(tactic| walk_at "newx") => `(tactic| (intro e d na nd hda; generalize hE : upd (upd _ d _) e _ = H2; have s2 := newx_same na nd hE; have h2 := newx_at hE; have h3 := newx_d hda hE; clear hE))
local macro_rules | `(tactic| walk_at "s1") => `(tactic| first
  | with_reducible refine s_seq ?_
  | with_reducible refine s_asg ?_
  | with_reducible refine s_name ?_
  | with_reducible refine s_ret ?_
  | with_reducible refine s_c ?_
  | ((with_reducible refine' s_var ?hv ?_); (case hv => rfl))
  | with_reducible refine s_op ?_
  | with_reducible refine s_un ?_
  | with_reducible refine s_ifS ?_
  | with_reducible refine s_cb ?_
  | with_reducible refine s_cons ?_
  | with_reducible refine s_nil ?_
  | with_reducible refine s_call ?_
  | with_reducible refine s_test ?_
  | with_reducible refine s_tB ?_
  | with_reducible refine s_bl ?_
  | with_reducible refine s_and ?_
  | with_reducible refine s_or ?_
  | with_reducible refine s_not ?_
  | with_reducible refine s_andV ?_
  | with_reducible refine s_orV ?_
  | with_reducible refine s_notV ?_
  | with_reducible refine s_blV ?_
  | with_reducible refine s_if ?_
  | with_reducible refine s_tup ?_
  | with_reducible refine s_lst ?_
  | with_reducible refine s_drop ?_
  | with_reducible refine s_next ?_
  | with_reducible refine s_sub ?_
  | with_reducible refine s_bm ?_
  | with_reducible refine s_callK ?_
  | with_reducible refine s_brk ?_
  | with_reducible refine s_cont ?_
  | with_reducible refine r_I0 ?_
  | with_reducible refine r_U ?_
  | with_reducible refine r_eqI ?_
  | with_reducible refine r_neI ?_
  | with_reducible refine r_isB ?_
  | with_reducible refine r_notB ?_
  | with_reducible refine i_t ?_
  | with_reducible refine i_f ?_
  | with_reducible refine i_nt ?_
  | with_reducible refine i_nf ?_
  | ((with_reducible refine' r_I ?hc ?_); (case hc => walk_at "cond"))
  | (with_reducible refine .inl ⟨_, rfl, ?_⟩)
  | (with_reducible refine ⟨_, rfl, ?_⟩)
  | ((with_reducible refine' r_ixL ?hx ?ha ?_); (case hx => walk_at "at"); (case ha => rfl))
  | ((with_reducible refine' r_ixT ?hx ?ha ?_); (case hx => walk_at "at"); (case ha => rfl))
  | ((with_reducible refine' r_setL ?hx ?ha ?_); (case hx => walk_at "at"); (case ha => rfl); intro H2 k2 h2; (try dsimp only [List.set, Int.toNat] at h2))
  | ((with_reducible refine' r_app ?hx ?hl ?_); (case hx => walk_at "at"); (case hl => first | exact Nat.lt_of_ble_eq_true rfl | omega); intro H2 k2 h2)
  | ((with_reducible refine' ty_list ?hx ?_); (case hx => walk_at "at"))
  | (refine And.intro (by (with_reducible show _ ≤ sizeLine); walk_at "sz") ?_; walk_at "new")
  | with_reducible refine s_exv ?_
  | walk_at "newx")
local macro_rules | `(tactic| walk_at "sx") => `(tactic| repeat (walk_at "s1"))
local macro_rules | `(tactic| walk_at "s2") => `(tactic| first
  | ((with_reducible refine' r_ixG ?hx ?hn ?_); (case hx => walk_at "at"); (case hn => omega))
  | ((with_reducible refine' r_ixGT ?hx ?hn ?_); (case hx => walk_at "at"); (case hn => omega))
  | (with_reducible refine ig_cons (fun hix => ?_) (fun hix => ?_))
  | ((with_reducible refine ig_nil ?_); omega)
  | ((with_reducible refine' i_T ?hc ?_); (case hc => omega))
  | ((with_reducible refine' i_F ?hc ?_); (case hc => omega))
  | (with_reducible refine i_2 (fun hc => ?_) (fun hc => ?_))
  | (with_reducible refine i_n2 (fun hc => ?_) (fun hc => ?_)))
local macro_rules | `(tactic| walk_at "go") => `(tactic| repeat' (first | walk_at "s1" | walk_at "s2"))

local macro_rules | `(tactic| walk_at "s1") => `(tactic| first
  | with_reducible refine s_chain ?_
  | with_reducible refine s_fldS ?_
  | with_reducible refine s_fld ?_
  | with_reducible refine s_dIn ?_
  | with_reducible refine s_dNotIn ?_
  | with_reducible refine s_sl ?_
  | with_reducible refine s_noPart ?_
  | with_reducible refine s_part ?_
  | with_reducible refine s_meth ?_
  | with_reducible refine s_make ?_)

section
variable {P : Program} {w : World} {K : PySem.W.Frag} {mg : Str → Option Value} {base : Heap} {A : Ad}
theorem ties_few {n : Nat} {ns : List Nat} {L : List (List Int)} (N : Nums n ns) (few : ns.length ≤ 24) (t : Ties n ns L) : L.length < 64 := by
  have nd : ns.Nodup := N.asc.imp fun h => Nat.ne_of_lt h
  have p : L.Perm (rawT n ns ns.length) := (List.perm_ext_iff_of_nodup t.nd (raw_nodup n ns ns.length)).mpr fun x => (t.mem x).trans (raw_mem nd x).symm
  rw [p.length_eq]
  exact raw_few N few
theorem c_makeR {C l : Addr} {n : Nat} {ks : List (Addr × List Int)} {H : Hp} {R : Addr → Hp → Prop} {E : XK} (hl : H l = some (.lst (ks.map rf))) (ne : ks ≠ []) (sz : ks.length < 64) (sn : n < 1000) (rows : RowsAt H n ks)
    (q : ∀ x H' ks', Same H H' → Of ks ks' → RuAt C H' x n ks' → R x H') : ∀ x dx, H x = none → H dx = none → dx ≠ x → spMake C (.ref x :: ([.int n, .ref l] ++ [])) (upd (upd H dx (.own x)) x (.ins C dx [])) (fun v H2 => v = .non ∧ R x H2) E := by
  intro x dx nx nd hd
  have s := newx_same (H := H) (a := x) (d := dx) (o := .ins C dx []) (u := .own x) nx nd rfl
  refine ⟨x, dx, l, n, ks, rfl, upd_same, s _ _ hl, ne, sz, sn, rows.same s, fun p hp e => ?_, fun H' ks' k o r => ⟨rfl, q x H' ks' (Keep.toSame s nx k) o r⟩⟩
  have z := (rows p hp).1
  rw [e, nx] at z
  cases z
theorem ls_ne {n : Nat} {ns : List Nat} {ls : List (Addr × List Int)} (N : Nums n ns) (e : ls.map (·.2) = ns.map (bitsOf n)) : ls ≠ [] := fun z => by
  subst z
  exact N.ne (List.map_eq_nil_iff.mp e.symm)
theorem ls_few {n : Nat} {ns : List Nat} {ls : List (Addr × List Int)} (N : Nums n ns) (e : ls.map (·.2) = ns.map (bitsOf n)) : ls.length < 64 := by
  have z := congrArg List.length e
  rw [List.length_map, List.length_map] at z
  rw [z]
  exact N.few
theorem ru_asc {C : Addr} {H : Hp} {x : Addr} {n : Nat} {ks : List (Addr × List Int)} (h : RuAt C H x n ks) : Asc ks := by
  obtain ⟨_, _, _, _, _, _, _, a, _⟩ := h
  exact a
/-- a list made of the rows of numbers is one of these numbers -/
theorem rn_of {C : Addr} {H : Hp} {x : Addr} {n : Nat} {ns : List Nat} {ls ks : List (Addr × List Int)} (N : Nums n ns) (e : ls.map (·.2) = ns.map (bitsOf n)) (o : Of ls ks) (r : RuAt C H x n ks) : Rn C H x n ns := by
  refine ⟨ks, r, ?_⟩
  have ndr : (ns.map (bitsOf n)).Nodup := List.pairwise_map.mpr (List.Pairwise.imp_of_mem (fun {a b} ha hb hlt h => Nat.ne_of_lt hlt (bits_inj (N.lt a ha) (N.lt b hb) h)) N.asc)
  have mem : ∀ r, r ∈ ks.map (·.2) ↔ r ∈ ns.map (bitsOf n) := fun r => by
    rw [← e]
    exact ⟨fun h => (List.mem_map.mp h).elim fun p hp => List.mem_map.mpr ⟨p, o.1 p hp.1, hp.2⟩, fun h => (List.mem_map.mp h).elim fun p hp => hp.2 ▸ o.2.1 p hp.1⟩
  have perm := (List.perm_ext_iff_of_nodup (ru_asc r).1 ndr).mpr mem
  refine List.Perm.eq_of_pairwise (le := fun a b => TS.code 2 a ≤ TS.code 2 b) (fun a b ha hb h1 h2 => ?_) (List.pairwise_map.mpr (ru_asc r).2) (List.pairwise_map.mpr (List.Pairwise.imp_of_mem (fun {a b} ha hb h => ?_) N.asc)) perm
  · obtain ⟨c, hc, rfl⟩ := List.mem_map.mp ((mem a).mp ha)
    obtain ⟨d, hd, rfl⟩ := List.mem_map.mp hb
    rw [code_bits n c (N.lt c hc), code_bits n d (N.lt d hd)] at h1 h2
    have : c = d := by omega
    rw [this]
  · show TS.code 2 (bitsOf n a) ≤ TS.code 2 (bitsOf n b)
    rw [code_bits n a (N.lt a ha), code_bits n b (N.lt b hb)]
    omega
theorem c_tup {l : Addr} {xs : List V} {H : Hp} {Q : VK} (h : H l = some (.lst xs)) (q : ∀ p H', Same H H' → H p = none → H' p = some (.tup xs) → Q (.ref p) H') : ∃ p ys, [V.ref l] = [.ref p] ∧ ((SqL K H p ys ∧ ∀ l, H l = none → Q (.ref l) (upd H l (.tup ys))) ∨ (SqT K H p ys ∧ Q (.ref p) H)) :=
  ⟨l, xs, rfl, .inl ⟨SqL.of h, fun p np => q p _ (Same.new np) np upd_same⟩⟩
theorem free_of {H H' : Hp} (s : Same H H') {p : Addr} (h : H' p = none) : H p = none := by
  cases e : H p with
  | none => rfl
  | some o =>
    rw [s p o e] at h
    cases h
theorem al_rows {H : Hp} {n : Nat} {t u : Addr} {ks ls : List (Addr × List Int)} (ht : H t = some (.tup (ks.map rf))) (hu : H u = some (.tup (ls.map rf))) (rk : RowsAt H n ks) (rl : RowsAt H n ls) (e : ks.map (·.2) = ls.map (·.2)) (sz : ls.length < 1000) (sn : n < 1000) : Al H 2 (.ref t) (.ref u) := by
  have le := congrArg List.length e
  rw [List.length_map, List.length_map] at le
  refine .tup ht hu (by rw [List.length_map, List.length_map, le]) (by rw [List.length_map]; exact sz) fun i x y hx hy => ?_
  rw [List.getElem?_map] at hx hy
  obtain ⟨p, hp, rfl⟩ := Option.map_eq_some_iff.mp hx
  obtain ⟨q, hq, rfl⟩ := Option.map_eq_some_iff.mp hy
  have e2 : p.2 = q.2 := by
    have z := congrArg (fun l => l[i]?) e
    simp only [List.getElem?_map, hp, hq, Option.map_some] at z
    injection z
  have a := (rk p (List.mem_of_getElem? hp)).1
  have b := rl q (List.mem_of_getElem? hq)
  rw [e2] at a
  exact al_ints a b.1 (by rw [b.2.1]; exact sn)
theorem Chs.keepL {H H' : Hp} {a : Addr} {xs : List V} {cs : List (Addr × Q2)} (e : Keep a H H') (hl : H a = some (.lst xs)) (h : ChsAt H cs) : ChsAt H' cs := fun z hz => by
  have c := h z hz
  exact ⟨e _ _ (ne_of c.at_ hl fun e => nomatch e) c.at_, c.po, c.g1, c.lo, c.hi, c.sm⟩
def spAll (K : PySem.W.Frag) : Sp := fun vs H Q _ => ∃ (l : Addr) (ns : List Int), vs = [.ref l] ∧ SqL K H l (ns.map V.int) ∧ ∀ H', Q (.bl true) H'
theorem ok_all (T : Txt P K mg A) : FnOk P w K mg base CX0 12 A.a__law_all A.d__law_all ["script"] (spAll K) := by
  refine T.F__law_all.ok sc__law_all (fun vs H Q E h => ?_) (fun cdv A' outer s H vs Q E hr h => ?_)
  · obtain ⟨l, ns, rfl, _⟩ := h
    rfl
  · obtain ⟨l, ns, rfl, hl, k⟩ := h
    have G__law_flow := ok_flow (w := w) (base := base) T
    have G__law_take := ok_take (w := w) (base := base) T
    have G__law_numbers := ok_nums (w := w) (base := base) T
    have G__law_row := ok_rowOf (w := w) (base := base) T
    have G_Rules____init__ := ok_make (w := w) (base := base) T
    have G__law_ties := ok_LT (w := w) (base := base) T
    have G__law_chance := ok_chance (w := w) (base := base) T
    have G__law_spoilt := ok_spoilt (w := w) (base := base) T
    have G__law_asked := ok_ask (w := w) (base := base) T
    have G__law_object_refused := ok_obj (w := w) (base := base) T
    have G__law_same := ok_same (w := w) (base := base) T 2
    refine ⟨_, (pss_cons (ps_set (i := 1) sc__law_all.nd rfl (Or.inr rfl) (pe_call G__law_numbers (hr.mono (by decide)) rfl T.g__law_numbers T.F__law_numbers.kp (B__law_numbers T) .nil pass0 (pa_cons (pe_call G__law_flow (hr.mono (by decide)) rfl T.g__law_flow T.F__law_flow.kp (B__law_flow T) .nil pass0 (pa_cons (pv 0) (pa_cons pe_int pa_nil))) pa_nil)))
  (pss_cons (ps_set (i := 2) sc__law_all.nd rfl (Or.inr rfl) (pe_call G__law_numbers (hr.mono (by decide)) rfl T.g__law_numbers T.F__law_numbers.kp (B__law_numbers T) .nil pass0 (pa_cons (pe_call G__law_flow (hr.mono (by decide)) rfl T.g__law_flow T.F__law_flow.kp (B__law_flow T) .nil pass0 (pa_cons (pv 0) (pa_cons pe_int pa_nil))) pa_nil)))
  (pss_cons (ps_set (i := 3) sc__law_all.nd rfl (Or.inl rfl) (pe_make T.mk_Rules G_Rules____init__ (hr.mono (by decide)) rfl T.g_Rules (B_Rules____init__ T) .nil pass0 (pa_cons (pe_ix (r := rIx K) ix_seq (pv 1) pe_int (fun _ _ => rfl)) (pa_cons (pe_lc (own := [("number", 15)]) (g := (gName 15)) (by rfl) sc__law_all.nd (pi_list (pe_ix ix_seq (pv 1) pe_int (fun _ _ => rfl))) (blkOk_by (own := [("number", 15)]) (N := ["script", "one", "other", "first", "second", "ties", "other_ties", "asked", "k", "flow", "great", "guess", "turn", "value", "due", "number", "tie"]) (sc := defScope s__law_all) (by decide +kernel)) (fun _ _ _ _ _ => (pg_name (i := 15) sc__law_all.nd rfl (Or.inl rfl))) (fun _ _ _ _ _ => pts_nil) (fun _ _ _ _ _ => (pe_call G__law_row (hr.mono (by decide)) rfl T.g__law_row T.F__law_row.kp (B__law_row T) .nil pass0 (pa_cons (pv 15) (pa_cons (pe_ix (r := rIx K) ix_seq (pv 1) pe_int (fun _ _ => rfl)) pa_nil))))) pa_nil))))
  (pss_cons (ps_set (i := 4) sc__law_all.nd rfl (Or.inl rfl) (pe_make T.mk_Rules G_Rules____init__ (hr.mono (by decide)) rfl T.g_Rules (B_Rules____init__ T) .nil pass0 (pa_cons (pe_ix (r := rIx K) ix_seq (pv 2) pe_int (fun _ _ => rfl)) (pa_cons (pe_lc (own := [("number", 15)]) (g := (gName 15)) (by rfl) sc__law_all.nd (pi_list (pe_ix ix_seq (pv 2) pe_int (fun _ _ => rfl))) (blkOk_by (own := [("number", 15)]) (N := ["script", "one", "other", "first", "second", "ties", "other_ties", "asked", "k", "flow", "great", "guess", "turn", "value", "due", "number", "tie"]) (sc := defScope s__law_all) (by decide +kernel)) (fun _ _ _ _ _ => (pg_name (i := 15) sc__law_all.nd rfl (Or.inl rfl))) (fun _ _ _ _ _ => pts_nil) (fun _ _ _ _ _ => (pe_call G__law_row (hr.mono (by decide)) rfl T.g__law_row T.F__law_row.kp (B__law_row T) .nil pass0 (pa_cons (pv 15) (pa_cons (pe_ix (r := rIx K) ix_seq (pv 2) pe_int (fun _ _ => rfl)) pa_nil))))) pa_nil))))
  (pss_cons (ps_set (i := 5) sc__law_all.nd rfl (Or.inl rfl) (pe_call G__law_ties (hr.mono (by decide)) rfl T.g__law_ties T.F__law_ties.kp (B__law_ties T) .nil pass0 (pa_cons (pe_ix (r := rIx K) ix_seq (pv 1) pe_int (fun _ _ => rfl)) (pa_cons (pe_ix ix_seq (pv 1) pe_int (fun _ _ => rfl)) pa_nil))))
  (pss_cons (ps_set (i := 6) sc__law_all.nd rfl (Or.inl rfl) (pe_call G__law_ties (hr.mono (by decide)) rfl T.g__law_ties T.F__law_ties.kp (B__law_ties T) .nil pass0 (pa_cons (pe_ix (r := rIx K) ix_seq (pv 2) pe_int (fun _ _ => rfl)) (pa_cons (pe_ix ix_seq (pv 2) pe_int (fun _ _ => rfl)) pa_nil))))
  (pss_cons (ps_set (i := 7) sc__law_all.nd rfl (Or.inl rfl) (pe_lst pa_nil))
  (pss_cons (ps_for PassesOwn.never rfl (pi_range2 rfl T.n_range (pa_cons pe_int (pa_cons pe_int pa_nil))) (pg_name (i := 8) sc__law_all.nd rfl (Or.inl rfl))
  (pss_cons (ps_set (i := 9) sc__law_all.nd rfl (Or.inr rfl) (pe_call G__law_flow (hr.mono (by decide)) rfl T.g__law_flow T.F__law_flow.kp (B__law_flow T) .nil pass0 (pa_cons (pv 0) (pa_cons (pv 8) pa_nil))))
  (pss_cons (ps_set (i := 10) sc__law_all.nd rfl (Or.inr rfl) (pe_cmpR op_eq (pe_call G__law_take (hr.mono (by decide)) rfl T.g__law_take T.F__law_take.kp (B__law_take T) .nil pass0 (pa_cons (pv 9) (pa_cons pe_int pa_nil))) pe_int (nomark _)))
  (pss_cons (ps_set (i := 11) sc__law_all.nd rfl (Or.inl rfl) (pe_callTy call_tuple_of (by rfl) T.n_tuple (by decide +kernel) (pa_cons (pe_lc (own := [("tie", 16)]) (g := (gName 16)) (by rfl) sc__law_all.nd (pi_list (pv 5)) (blkOk_by (own := [("tie", 16)]) (N := ["script", "one", "other", "first", "second", "ties", "other_ties", "asked", "k", "flow", "great", "guess", "turn", "value", "due", "number", "tie"]) (sc := defScope s__law_all) (by decide +kernel)) (fun _ _ _ _ _ => (pg_name (i := 16) sc__law_all.nd rfl (Or.inl rfl))) (fun _ _ _ _ _ => pts_nil) (fun _ _ _ _ _ => (pe_call G__law_chance (hr.mono (by decide)) rfl T.g__law_chance T.F__law_chance.kp (B__law_chance T) .nil pass0 (pa_cons (pv 9) (pa_cons (pv 10) pa_nil))))) pa_nil)))
  (pss_one (ps_set (i := 7) sc__law_all.nd rfl (Or.inl rfl) (pe_op op_cat (pv 7) (pe_lst (pa_cons (pv 11) (pa_cons (pe_call G__law_spoilt (hr.mono (by decide)) rfl T.g__law_spoilt T.F__law_spoilt.kp (B__law_spoilt T) .nil pass0 (pa_cons (pv 9) (pa_cons (pv 11) pa_nil))) pa_nil))))))))))
  (pss_cons (ps_set (i := 9) sc__law_all.nd rfl (Or.inr rfl) (pe_call G__law_flow (hr.mono (by decide)) rfl T.g__law_flow T.F__law_flow.kp (B__law_flow T) .nil pass0 (pa_cons (pv 0) (pa_cons pe_int pa_nil))))
  (pss_cons (ps_expr (pe_bm PySem.F.plainAttrs_list PySem.F.slot_list_append PySem.F.type_list_append mt_append (pv 7) (pa_cons (pe_callTy call_tuple_of (by rfl) T.n_tuple (by decide +kernel) (pa_cons (pe_lc (own := [("tie", 16)]) (g := (gName 16)) (by rfl) sc__law_all.nd (pi_list (pv 6)) (blkOk_by (own := [("tie", 16)]) (N := ["script", "one", "other", "first", "second", "ties", "other_ties", "asked", "k", "flow", "great", "guess", "turn", "value", "due", "number", "tie"]) (sc := defScope s__law_all) (by decide +kernel)) (fun _ _ _ _ _ => (pg_name (i := 16) sc__law_all.nd rfl (Or.inl rfl))) (fun _ _ _ _ _ => pts_nil) (fun _ _ _ _ _ => (pe_call G__law_chance (hr.mono (by decide)) rfl T.g__law_chance T.F__law_chance.kp (B__law_chance T) .nil pass0 (pa_cons (pv 9) (pa_cons pe_bl pa_nil))))) pa_nil)) pa_nil)))
  (pss_cons (ps_for PassesOwn.never rfl (pi_range1 rfl T.n_range (pa_cons pe_int pa_nil)) (pg_name (i := 12) sc__law_all.nd rfl (Or.inl rfl))
  (pss_one (ps_for PassesOwn.never rfl (pi_list (pe_slice sl_list (pv 7) (po_some (pe_op op_mul (pv 12) pe_int)) po_none)) (pg_name (i := 13) sc__law_all.nd rfl (Or.inl rfl))
  (pss_cons (ps_if (pt_not (pt_val (pe_call G__law_asked (hr.mono (by decide)) rfl T.g__law_asked T.F__law_asked.kp (B__law_asked T) .nil pass0 (pa_cons (pv 3) (pa_cons (pe_ix ix_seq (pv 1) pe_int (fun _ _ => rfl)) (pa_cons (pv 5) (pa_cons (pv 13) (pa_cons (pe_cmpR op_eq (pv 12) pe_int (nomark _)) pa_nil)))))))) (pss_one (ps_ret pe_bl)) pss_nil)
  (pss_one (ps_if (PW.pt (pw_and (pt_cmpR op_eq (pv 12) pe_int (nomark _)) (pw_and1 (pt_not (pt_val (pe_call G__law_asked (hr.mono (by decide)) rfl T.g__law_asked T.F__law_asked.kp (B__law_asked T) .nil pass0 (pa_cons (pv 4) (pa_cons (pe_ix ix_seq (pv 2) pe_int (fun _ _ => rfl)) (pa_cons (pv 6) (pa_cons (pv 13) (pa_cons pe_bl pa_nil))))))))))) (pss_one (ps_ret pe_bl)) pss_nil))))))
  (pss_cons (ps_set (i := 14) sc__law_all.nd rfl (Or.inl rfl) (pe_callTy call_tuple_of (by rfl) T.n_tuple (by decide +kernel) (pa_cons (pe_lc (own := [("number", 15)]) (g := (gName 15)) (by rfl) sc__law_all.nd (pi_list (pe_ix ix_seq (pv 1) pe_int (fun _ _ => rfl))) (blkOk_by (own := [("number", 15)]) (N := ["script", "one", "other", "first", "second", "ties", "other_ties", "asked", "k", "flow", "great", "guess", "turn", "value", "due", "number", "tie"]) (sc := defScope s__law_all) (by decide +kernel)) (fun _ _ _ _ _ => (pg_name (i := 15) sc__law_all.nd rfl (Or.inl rfl))) (fun _ _ _ _ _ => pts_nil) (fun _ _ _ _ _ => (pe_call G__law_row (hr.mono (by decide)) rfl T.g__law_row T.F__law_row.kp (B__law_row T) .nil pass0 (pa_cons (pv 15) (pa_cons (pe_ix (r := rIx K) ix_seq (pv 1) pe_int (fun _ _ => rfl)) pa_nil))))) pa_nil)))
  (pss_cons (ps_if (PW.pt (pw_or (pt_not (pt_val (pe_call G__law_object_refused (hr.mono (by decide)) rfl T.g__law_object_refused T.F__law_object_refused.kp (B__law_object_refused T) .nil pass0 (pa_cons (pv 3) pa_nil)))) (pw_or1 (pt_not (pt_val (pe_call G__law_object_refused (hr.mono (by decide)) rfl T.g__law_object_refused T.F__law_object_refused.kp (B__law_object_refused T) .nil pass0 (pa_cons (pv 4) pa_nil))))))) (pss_one (ps_ret pe_bl)) pss_nil)
  (pss_one (ps_ret (pe_and (pe_call G__law_same (hr.mono (by decide)) rfl T.g__law_same T.F__law_same.kp (B__law_same T) .nil pass0 (pa_cons (pe_fld (pv 3) rfl) (pa_cons (pv 14) pa_nil))) (pe_one (pe_call G__law_same (hr.mono (by decide)) rfl T.g__law_same T.F__law_same.kp (B__law_same T) .nil pass0 (pa_cons (pe_fld (pv 3) rfl) (pa_cons (pe_ix (r := rIx K) ix_seq (pv 1) pe_int (fun _ _ => rfl)) pa_nil)))))))))))))))))))), ?_⟩
    walk_at "sx"
    refine c_flow (by decide) hl fun f0 H1 n0 s1 F0 => ?_
    walk_at "sx"
    refine ⟨f0, rfl, F0, fun q1 l1 n1 ns1 H2 F0' K2 hq1 hl1 N1 few1 sn1 => ?_⟩
    walk_at "sx"
    have s02 : Same H H2 := Keep.toSame s1 n0 K2
    refine c_flow (by decide) (s02.seq hl) fun f1 H3 n3 s3 F3 => ?_
    walk_at "sx"
    refine ⟨f1, rfl, F3, fun q2 l2 n2 ns2 H4 F4' K4 hq2 hl2 N2 few2 sn2 => ?_⟩
    have s24 : Same H2 H4 := Keep.toSame s3 n3 K4
    have hq1' := s24 _ _ hq1
    have hl1' := s24 _ _ hl1
    clear hq1 hl1
    walk_at "sx"
    refine ⟨_, rfl, .inl ⟨q1, _, 1, .ref l1, rfl, rfl, SqL.of hq1', rfl, l1, rfl, ⟨_, SqL.of hl1'⟩, fun D hD => lc_list (K := K) (a := l1) (xs := ns1.map nv) (fun i H' => Same H4 H' ∧ ∃ ls : List (Addr × List Int), H' D = some (.lst (ls.map rf)) ∧ RowsAt H' n1 ls ∧ ls.map (·.2) = (ns1.take i).map (bitsOf n1))
      ⟨Same.new hD, [], upd_same, rows_nil, rfl⟩ (fun i H' _ ⟨s, _⟩ => SqL.of (s _ _ hl1')) ?_ ?_⟩⟩
    · rintro i y H' hy ⟨s', ls, hD', rl, el⟩
      obtain ⟨m, hm, rfl⟩ : ∃ m, ns1[i]? = some m ∧ nv m = y := by
        rw [List.getElem?_map] at hy
        exact Option.map_eq_some_iff.mp hy
      refine s_name ⟨rfl, ?_⟩
      refine s_yes (i_t ?_)
      have hqx := s' _ _ hq1'
      walk_at "sx"
      refine ⟨m, n1, rfl, by omega, fun p H2 s2 hp2 => ?_⟩
      exact rows_step hD hD' s' s2 rl hp2 (bitsOf_bits n1 m) (by
        have e := congrArg List.length el
        simp only [List.length_map, List.length_take] at e
        have := N1.few
        omega) (by rw [el, List.take_succ, hm]; simp)
    rintro Ha ⟨sa, lsa, hDa, rla, ela⟩
    rw [List.length_map, List.take_length] at ela
    refine s_nil (c_makeR hDa (ls_ne N1 ela) (ls_few N1 ela) (by omega) rla fun xa Ga ksa ta oa ra => ?_)
    have rna := rn_of N1 ela oa ra
    have ua : Same H4 Ga := sa.trans ta
    have hq2a := ua _ _ hq2
    have hl2a := ua _ _ hl2
    walk_at "sx"
    refine ⟨_, rfl, .inl ⟨q2, _, 1, .ref l2, rfl, rfl, SqL.of hq2a, rfl, l2, rfl, ⟨_, SqL.of hl2a⟩, fun D hD => lc_list (K := K) (a := l2) (xs := ns2.map nv) (fun i H' => Same Ga H' ∧ ∃ ls : List (Addr × List Int), H' D = some (.lst (ls.map rf)) ∧ RowsAt H' n2 ls ∧ ls.map (·.2) = (ns2.take i).map (bitsOf n2))
      ⟨Same.new hD, [], upd_same, rows_nil, rfl⟩ (fun i H' _ ⟨s, _⟩ => SqL.of (s _ _ hl2a)) ?_ ?_⟩⟩
    · rintro i y H' hy ⟨s', ls, hD', rl, el⟩
      obtain ⟨m, hm, rfl⟩ : ∃ m, ns2[i]? = some m ∧ nv m = y := by
        rw [List.getElem?_map] at hy
        exact Option.map_eq_some_iff.mp hy
      refine s_name ⟨rfl, ?_⟩
      refine s_yes (i_t ?_)
      have hqx := s' _ _ hq2a
      walk_at "sx"
      refine ⟨m, n2, rfl, by omega, fun p H2 s2 hp2 => ?_⟩
      exact rows_step hD hD' s' s2 rl hp2 (bitsOf_bits n2 m) (by
        have e := congrArg List.length el
        simp only [List.length_map, List.length_take] at e
        have := N2.few
        omega) (by rw [el, List.take_succ, hm]; simp)
    rintro Hb ⟨sb, lsb, hDb, rlb, elb⟩
    rw [List.length_map, List.take_length] at elb
    refine s_nil (c_makeR hDb (ls_ne N2 elb) (ls_few N2 elb) (by omega) rlb fun xb Gb ksb tb ob rb => ?_)
    have rnb := rn_of N2 elb ob rb
    have ub : Same Ga Gb := sb.trans tb
    have ra' := rna.same ub
    have hq1b := ub _ _ (ua _ _ hq1')
    have hl1b := ub _ _ (ua _ _ hl1')
    have hq2b := ub _ _ hq2a
    have hl2b := ub _ _ hl2a
    have hlb : SqL K Gb l (ns.map V.int) := ((s02.trans s24).trans (ua.trans ub)).seq hl
    clear hq1' hl1' hq2 hl2 hq2a hl2a hDa hDb
    walk_at "sx"
    refine ⟨n1, l1, ns1, rfl, hl1b, N1, few1, sn1, fun t1 qs1 M1 H5 s5 nt1 ht1 tq1 tt1 eq1 => ?_⟩
    have c2 := s5 _ _ hq2b
    walk_at "sx"
    refine ⟨n2, l2, ns2, rfl, s5 _ _ hl2b, N2, few2, sn2, fun t2 qs2 M2 H6 s6 nt2 ht2 tq2 tt2 eq2 => ?_⟩
    have s56 := s5.trans s6
    have w1 := ties_few N1 (by omega) tt1
    have w2 := ties_few N2 (by omega) tt2
    have z1 : qs1.length = M1.length := by simpa using congrArg List.length eq1
    have z2 : qs2.length = M2.length := by simpa using congrArg List.length eq2
    have A1 : True → Had A.c_Rules H6 xa l1 t1 n1 ns1 M1 qs1 := fun _ => ⟨⟨ra'.same s56, N1, by omega, sn1, tt1⟩, s56 _ _ hl1b, s6 _ _ ht1, tq1.same s6, eq1, few1, by omega⟩
    have A2 : True → Had A.c_Rules H6 xb l2 t2 n2 ns2 M2 qs2 := fun _ => ⟨⟨rnb.same s56, N2, by omega, sn2, tt2⟩, s56 _ _ hl2b, ht2, tq2, eq2, few2, by omega⟩
    have hl6 : SqL K H6 l (ns.map V.int) := s56.seq hlb
    have hq16 := s56 _ _ hq1b
    have hq26 := s56 _ _ hq2b
    clear hq1b hl1b hq2b hl2b c2 ht1 ht2 hlb
    walk_at "sx"
    rename_i pl ml Hl tl gl
    refine ⟨_, _, rfl, by decide, for_range (lo := 2) (n := 5) (fun i σ H' => Same H6 H' ∧ ∃ (a7 : Addr) (vs : List V) (Hb : Hp), Same H6 Hb ∧ Hb a7 = none ∧ Same Hb H' ∧ (True → H' a7 = some (.lst vs)) ∧ (∀ v ∈ vs, Ask K Hb v) ∧ vs.length = 2 * i ∧ ∃ v8 v9 v10 v11 v12 v13 v14 v15 v16 : Option V, σ = [some (.ref l), some (.ref q1), some (.ref q2), some (.ref xa), some (.ref xb), some (.ref t1), some (.ref t2), some (.ref a7), v8, v9, v10, v11, v12, v13, v14, v15, v16]) ⟨tl, pl, _, H6, L2.Same.refl _, ml, tl, fun _ => gl, (fun v hv => nomatch hv), rfl, _, _, _, _, _, _, _, _, _, rfl⟩ ?_ ?_⟩
    · rintro i σ H' hi ⟨s', a7, vs, Hb', sHb, nb7, sb', ha7, al7, len7, v8, v9, v10, v11, v12, v13, v14, v15, v16, rfl⟩
      walk_at "sx"
      refine c_flow (by omega) (s'.seq hl6) fun f H1' nf s1' Ff => ?_
      walk_at "sx"
      refine c_take Ff (by decide) (by decide) (fun dg Hg lg ug Fg Kg => ?_)
      walk_at "sx"
      have hT := ((A1 trivial).same s').ht
      have nT : t1 ≠ f := ne_of_none hT nf
      have hT1 := Kg _ _ nT (s1' _ _ hT)
      refine ⟨_, rfl, t1, rfl, ⟨_, SqL.of hT1⟩, fun D hD => lc_list (K := K) (a := t1) (xs := qs1.map rf) (fun i H2 => Flow H2 f ∧ Keep f Hg H2 ∧ ∃ cs : List (Addr × Q2), (True → H2 D = some (.lst (cs.map cf))) ∧ ChsAt H2 cs ∧ (∀ z ∈ cs, Sm 40 z.2.1 ∧ Sm 40 z.2.2) ∧ cs.length = i) ⟨Fg.same (Same.new hD), Keep.same (Same.new hD), [], fun _ => upd_same, (fun z hz => nomatch hz), (fun z hz => nomatch hz), rfl⟩ (fun i H2 _ h => SqL.of (h.2.1 _ _ nT hT1)) ?_ ?_⟩
      · rintro i x H2 hx ⟨F', K', cs, hm, hcs, h40, lb⟩
        have hDf : f ≠ D := Fg.ne hD
        have li := (List.getElem?_eq_some_iff.mp hx).1
        rw [List.length_map] at li
        refine s_name ⟨rfl, ?_⟩
        refine s_yes (i_t ?_)
        walk_at "sx"
        refine ⟨f, _, rfl, F', fun p q H7 ch c1 c2 F7 K7 => ?_⟩
        have hm7 := K7 _ _ hDf.symm (hm trivial)
        have hc7 := Chs.keep K7 F' hcs
        refine ⟨_, hm7, by rw [List.length_map, sizeLine_eq]; omega, F7.keep (put_keep rfl) hDf, keep_new (K'.trans K7) hD (put_keep rfl), cs ++ [(p, q)], fun _ => by rw [upd_same, List.map_append]; rfl, ?_, ?_, by rw [List.length_append, lb]; rfl⟩
        · refine Chs.keepL (put_keep rfl) hm7 fun z hz => ?_
          rcases List.mem_append.mp hz with h | h
          · exact hc7 z h
          · rw [List.mem_singleton.mp h]
            exact ch
        · intro z hz
          rcases List.mem_append.mp hz with h | h
          · exact h40 z h
          · rw [List.mem_singleton.mp h]
            exact ⟨c1, c2⟩
      rintro H2 ⟨F2, Kf2, cs, hm, hcs, h40, lb⟩
      rw [List.length_map] at lb
      walk_at "sx"
      refine ⟨_, _, rfl, .inl ⟨SqL.of (hm trivial), fun p np => ?_⟩⟩
      obtain ⟨H3, e3, s3', h3⟩ : ∃ H3, upd H2 p (.tup (cs.map cf)) = H3 ∧ Same H2 H3 ∧ H3 p = some (.tup (cs.map cf)) := ⟨_, rfl, Same.new np, upd_same⟩
      rw [e3]
      have npf : f ≠ p := F2.ne np
      have F3' := F2.same s3'
      have Kf3 := Kf2.trans (Keep.same s3')
      have hcs3 := hcs.same s3'
      have h3' : True → H3 p = _ := fun _ => h3
      clear h3 e3 hm hcs
      walk_at "sx"
      refine ⟨f, p, cs, rfl, F3', h3' trivial, hcs3, h40, by omega, fun v H4' F4 Kf4 al4 => ?_⟩
      have h4 := Kf4 _ _ npf.symm (h3' trivial)
      have hcs4 := Chs.keep Kf4 F3' hcs3
      clear h3'
      walk_at "sx"
      rename_i pn mn H5 s5' g5
      have Kf5 := Kg.trans ((Kf3.trans Kf4).trans (Keep.same s5'))
      have S5 : Same H' H5 := Keep.toSame s1' nf Kf5
      refine ⟨a7, pn, vs, _, rfl, rfl, S5 _ _ (ha7 trivial), g5, by rw [sizeLine_eq, len7]; show _ + 2 ≤ _; omega, fun pq npq => ?_⟩
      have S6 : Same H5 (upd H5 pq (.lst (vs ++ [.ref p, v]))) := Same.new npq
      refine ⟨s'.trans (S5.trans S6), pq, _, H5, s'.trans S5, npq, S6, fun _ => upd_same, fun x hx => ?_, by rw [List.length_append, len7]; show _ + 2 = _; omega, _, _, _, _, _, _, _, _, _, rfl⟩
      rcases List.mem_append.mp hx with hx | hx
      · exact (al7 x hx).same (sb'.trans S5)
      rcases List.mem_cons.mp hx with rfl | hx
      · exact ask_tup (a := f) (s5' _ _ h4) (by rw [List.length_map]; omega) fun y hy => (me_chs hcs4 y hy).same s5'
      · rw [List.mem_singleton.mp hx]
        exact al4.same s5'
    · rintro σ H' ⟨s', a7, vs, Hb', sHb, nb7, sb', ha7, al7, len7, v8, v9, v10, v11, v12, v13, v14, v15, v16, rfl⟩
      walk_at "sx"
      refine c_flow (by decide) (s'.seq hl6) fun f H1' nf s1' Ff => ?_
      walk_at "sx"
      refine ty_list (s1' _ _ (ha7 trivial)) ?_
      walk_at "sx"
      have hT := ((A2 trivial).same s').ht
      have nT : t2 ≠ f := ne_of_none hT nf
      have hT1 := s1' _ _ hT
      refine ⟨_, rfl, t2, rfl, ⟨_, SqL.of hT1⟩, fun D hD => lc_list (K := K) (a := t2) (xs := qs2.map rf) (fun i H2 => Flow H2 f ∧ Keep f H1' H2 ∧ ∃ cs : List (Addr × Q2), (True → H2 D = some (.lst (cs.map cf))) ∧ ChsAt H2 cs ∧ cs.length = i) ⟨Ff.same (Same.new hD), Keep.same (Same.new hD), [], fun _ => upd_same, (fun z hz => nomatch hz), rfl⟩ (fun i H2 _ h => SqL.of (h.2.1 _ _ nT hT1)) ?_ ?_⟩
      · rintro i x H2 hx ⟨F', K', cs, hm, hcs, lb⟩
        have hDf : f ≠ D := Ff.ne hD
        have li := (List.getElem?_eq_some_iff.mp hx).1
        rw [List.length_map] at li
        refine s_name ⟨rfl, ?_⟩
        refine s_yes (i_t ?_)
        walk_at "sx"
        refine ⟨f, _, rfl, F', fun p q H7 ch c1 c2 F7 K7 => ?_⟩
        have hm7 := K7 _ _ hDf.symm (hm trivial)
        have hc7 := Chs.keep K7 F' hcs
        refine ⟨_, hm7, by rw [List.length_map, sizeLine_eq]; omega, F7.keep (put_keep rfl) hDf, keep_new (K'.trans K7) hD (put_keep rfl), cs ++ [(p, q)], fun _ => by rw [upd_same, List.map_append]; rfl, ?_, by rw [List.length_append, lb]; rfl⟩
        refine Chs.keepL (put_keep rfl) hm7 fun z hz => ?_
        rcases List.mem_append.mp hz with h | h
        · exact hc7 z h
        · rw [List.mem_singleton.mp h]
          exact ch
      rintro H2 ⟨F2, Kf2, cs, hm, hcs, lb⟩
      rw [List.length_map] at lb
      walk_at "sx"
      refine ⟨_, _, rfl, .inl ⟨SqL.of (hm trivial), fun p np => ?_⟩⟩
      obtain ⟨H3, e3, s3', h3⟩ : ∃ H3, upd H2 p (.tup (cs.map cf)) = H3 ∧ Same H2 H3 ∧ H3 p = some (.tup (cs.map cf)) := ⟨_, rfl, Same.new np, upd_same⟩
      rw [e3]
      have npf : f ≠ p := F2.ne np
      have F3' := F2.same s3'
      have Kf3 := Kf2.trans (Keep.same s3')
      have hcs3 := hcs.same s3'
      have h3' : True → H3 p = _ := fun _ => h3
      clear h3 e3 hm hcs
      walk_at "sx"
      have S3 : Same H' H3 := Keep.toSame s1' nf Kf3
      refine r_app (S3 _ _ (ha7 trivial)) (by rw [sizeLine_eq, len7]; omega) fun H4' k4 h4 => ?_
      have Sb4 : Same Hb' H4' := Keep.toSame (sb'.trans S3) nb7 k4
      have S64 : Same H6 H4' := sHb.trans Sb4
      have pa7 : p ≠ a7 := fun e => by
        have z := (Kf2 _ _ (ne_of_none (ha7 trivial) nf) (s1' _ _ (ha7 trivial)))
        rw [← e, np] at z
        cases z
      have AL : ∀ v ∈ vs ++ [V.ref p], Ask K H4' v := fun v hv => by
        rcases List.mem_append.mp hv with hv | hv
        · exact (al7 v hv).same Sb4
        · rw [List.mem_singleton.mp hv]
          exact ask_tup (a := a7) (k4 _ _ pa7 (h3' trivial)) (by rw [List.length_map]; omega) (me_chs (Chs.keepL k4 (S3 _ _ (ha7 trivial)) hcs3))
      have h4' : True → H4' a7 = _ := fun _ => h4
      clear h4 h3' ha7
      refine ⟨_, rfl, by decide, by decide, for_range (lo := 0) (n := 2) (fun i σ G => Same H4' G ∧ ∃ v8 v9 v10 v11 v12 v13 v14 v15 v16 : Option V, σ = [some (.ref l), some (.ref q1), some (.ref q2), some (.ref xa), some (.ref xb), some (.ref t1), some (.ref t2), some (.ref a7), v8, v9, v10, v11, v12, v13, v14, v15, v16]) ⟨L2.Same.refl _, _, _, _, _, _, _, _, _, _, rfl⟩ ?_ ?_⟩
      · rintro i σ G hi ⟨sG, v8, v9, v10, v11, v12, v13, v14, v15, v16, rfl⟩
        refine s_name ?_
        unfold tFor iList
        walk_at "sx"
        refine ⟨a7, _, rfl, SqL.of (sG _ _ (h4' trivial)), fun p8 np8 => ?_⟩
        have sub : ∀ y ∈ cutV (vs ++ [V.ref p]) (some ((0 + (i : Int)) * 5)) none, y ∈ vs ++ [V.ref p] := fun y hy => List.mem_of_mem_drop (List.mem_of_mem_take hy)
        generalize cutV (vs ++ [V.ref p]) (some ((0 + (i : Int)) * 5)) none = cut at *
        generalize hE : upd G p8 _ = G0
        have sG0 := new_same np8 hE
        have g0 := new_at hE
        clear hE
        have sG' := sG.trans sG0
        refine ⟨p8, rfl, ⟨_, SqL.of g0⟩, for_list (K := K) (a := p8) (xs := cut) (fun j σ G1 => Same G0 G1 ∧ ∃ v13 v14 v15 v16 : Option V, σ = [some (.ref l), some (.ref q1), some (.ref q2), some (.ref xa), some (.ref xb), some (.ref t1), some (.ref t2), some (.ref a7), v8, v9, v10, v11, some (.int (0 + (i : Int))), v13, v14, v15, v16]) ⟨L2.Same.refl _, _, _, _, _, rfl⟩ (fun j σ G1 _ h => SqL.of (h.1 _ _ g0)) ?_ ?_⟩
        · rintro j x σ G1 hx ⟨sG1, v13, v14, v15, v16, rfl⟩
          have s41 := sG'.trans sG1
          have alx := (AL x (sub x (List.mem_of_getElem? hx))).same s41
          have b1 := s41 _ _ (S64 _ _ hq16)
          walk_at "sx"
          refine ⟨xa, l1, t1, x, _, n1, ns1, M1, qs1, rfl, (A1 trivial).same (S64.trans s41), alx, fun G2 sG2 => ?_⟩
          have s3x := s41.trans sG2
          have b2 := s3x _ _ (S64 _ _ hq26)
          clear b1
          walk_at "sx"
          refine i_2 (fun t0 => ?_) (fun t0 => ?_)
          · walk_at "sx"
            refine ⟨xb, l2, t2, x, _, n2, ns2, M2, qs2, rfl, (A2 trivial).same (S64.trans s3x), alx.same sG2, fun G3 sG3 => ?_⟩
            walk_at "sx"
            exact ⟨(sG1.trans sG2).trans sG3, _, _, _, _, rfl⟩
          · walk_at "sx"
            exact ⟨sG1.trans sG2, _, _, _, _, rfl⟩
        · rintro σ G1 ⟨sG1, v13, v14, v15, v16, rfl⟩
          exact ⟨sG'.trans sG1, _, _, _, _, _, _, _, _, _, rfl⟩
      · rintro σ G' ⟨sG, v8, v9, v10, v11, v12, v13, v14, v15, v16, rfl⟩
        have SG := S64.trans sG
        have Hq' := SG _ _ hq16
        have Hl' := ((A1 trivial).same SG).hl
        walk_at "sx"
        refine ⟨_, rfl, .inl ⟨q1, _, 1, .ref l1, rfl, rfl, SqL.of Hq', rfl, l1, rfl, ⟨_, SqL.of Hl'⟩, fun D hD => lc_list (K := K) (a := l1) (xs := ns1.map nv) (fun i H' => Same G' H' ∧ ∃ ls : List (Addr × List Int), H' D = some (.lst (ls.map rf)) ∧ RowsAt H' n1 ls ∧ ls.map (·.2) = (ns1.take i).map (bitsOf n1))
          ⟨Same.new hD, [], upd_same, rows_nil, rfl⟩ (fun i H' _ ⟨s, _⟩ => SqL.of (s _ _ Hl')) ?_ ?_⟩⟩
        · rintro i y H' hy ⟨s', ls, hD', rl, el⟩
          obtain ⟨m, hm, rfl⟩ : ∃ m, ns1[i]? = some m ∧ nv m = y := by
            rw [List.getElem?_map] at hy
            exact Option.map_eq_some_iff.mp hy
          refine s_name ⟨rfl, ?_⟩
          refine s_yes (i_t ?_)
          have hqx := s' _ _ Hq'
          walk_at "sx"
          refine ⟨m, n1, rfl, by omega, fun p H2 s2 hp2 => ?_⟩
          exact rows_step hD hD' s' s2 rl hp2 (bitsOf_bits n1 m) (by
            have e := congrArg List.length el
            simp only [List.length_map, List.length_take] at e
            have := N1.few
            omega) (by rw [el, List.take_succ, hm]; simp)
        rintro Hr ⟨sr, lsr, hDr, rlr, elr⟩
        rw [List.length_map, List.take_length] at elr
        have hDr' : True → Hr _ = _ := fun _ => hDr
        clear hDr Hq'
        walk_at "sx"
        refine ⟨_, _, rfl, .inl ⟨SqL.of (hDr' trivial), fun p9 np9 => ?_⟩⟩
        obtain ⟨H9', e9', s9', h9'⟩ : ∃ H9', upd Hr p9 (.tup (lsr.map rf)) = H9' ∧ Same Hr H9' ∧ H9' p9 = some (.tup (lsr.map rf)) := ⟨_, rfl, Same.new np9, upd_same⟩
        rw [e9']
        have h9'' : True → H9' p9 = _ := fun _ => h9'
        have SR : Same H6 H9' := SG.trans (sr.trans s9')
        have rlr9 := rlr.same s9'
        clear e9' h9' hDr'
        walk_at "sx"
        refine ⟨xa, n1, ns1, _, rfl, ((A1 trivial).same SR).o, fun G1 sG1 => ?_⟩
        walk_at "sx"
        refine ⟨xb, n2, ns2, _, rfl, ((A2 trivial).same (SR.trans sG1)).o, fun G2 sG2 => ?_⟩
        have SE := (SR.trans sG1).trans sG2
        have sE9 := sG1.trans sG2
        obtain ⟨kz, ⟨dz, tz, knz, z1, z2, z3, rz, az, nz, lz⟩, ez⟩ := ((A1 trivial).same SE).o.R
        walk_at "sx"
        refine r_get rfl z1 T.cl_Rules T.no_Rules_rows rfl ?_
        walk_at "sx"
        refine ⟨_, _, rfl, al_rows z2 (sE9 _ _ (h9'' trivial)) rz (rlr9.same sE9) (ez.trans elr.symm) (by
          have e := congrArg List.length elr
          rw [List.length_map, List.length_map] at e
          omega) (by omega), fun G3 sG3 => ?_⟩
        have hq3 := sG3 _ _ (SE _ _ hq16)
        have z1' := sG3 _ _ z1
        walk_at "sx"
        refine r_get rfl z1' T.cl_Rules T.no_Rules_size rfl ?_
        walk_at "sx"
        exact ⟨_, _, rfl, .int _, fun G4 _ => k G4⟩
end
end K35

set_option Elab.async false
set_option linter.all false
set_option maxRecDepth 100000
set_option maxHeartbeats 4000000
namespace K35
open PySem L2 Sx Ct
local macro_rules | `(tactic| walk_at "cond") => `(tactic| first
  | assumption
  | decide
  | exact c_mul_r (by first | decide | omega) (by first | decide | omega)
  | exact c_mul_l (by first | decide | omega) (by first | decide | omega)
  | exact c_div (by first | decide | omega) (by first | decide | omega)
  | exact c_pow (by first | decide | omega) (by first | decide | omega) (by first | decide | omega)
  | omega)
local macro_rules | `(tactic| walk_at "ne") => `(tactic| first
  | assumption
  | (refine Ne.symm ?_; assumption)
  | (refine' Flow.ne ?nh ?nn; (case nn => assumption); (case nh => walk_at "fl"))
  | (refine Ne.symm ?_; refine' Flow.ne ?nh ?nn; (case nn => assumption); (case nh => walk_at "fl"))
  | (refine' ne_of_none ?nh ?nn; (case nn => assumption); (case nh => walk_at "at"))
  | (refine Ne.symm ?_; refine' ne_of_none ?nh ?nn; (case nn => assumption); (case nh => walk_at "at")))
local macro_rules | `(tactic| walk_at "at") => `(tactic| first
  | assumption
  | (refine Same.up (by assumption) ?_; walk_at "at")
  | (refine Keep.up (by assumption) (by walk_at "ne") ?_; walk_at "at"))
local macro_rules | `(tactic| walk_at "fl") => `(tactic| first
  | assumption
  | (refine Flow.same (by assumption) ?_; walk_at "fl")
  | (refine Flow.keep (by assumption) (by walk_at "ne") ?_; walk_at "fl"))
local macro_rules | `(tactic| walk_at "fr") => `(tactic| first
  | assumption
  | (refine same_free (by assumption) ?_; walk_at "fr")
  | (refine Keep.free (by assumption) (by walk_at "ne") ?_; walk_at "fr"))
local macro_rules | `(tactic| walk_at "kp") => `(tactic| first
  | assumption
  | exact Keep.refl _ _
  | (refine Keep.trans ?_ (by assumption); walk_at "kp")
  | (refine Keep.trans ?_ (Keep.same (by assumption)); walk_at "kp"))
local macro_rules | `(tactic| walk_at "sm") => `(tactic| first
  | assumption
  | exact L2.Same.refl _
  | (refine L2.Same.trans ?_ (by assumption); walk_at "sm"))
local macro_rules | `(tactic| walk_at "sz") => `(tactic| first | exact Nat.le_of_ble_eq_true rfl | omega)
local macro_rules | `(tactic| walk_at "new") => `(tactic| (intro p np; generalize hE : upd _ p _ = H2; have s2 := new_same np hE; have h2 := new_at hE; clear hE))
local macro_rules | `(tactic| walk_at "newx") => `(tactic| (intro e d na nd hda; generalize hE : upd (upd _ d _) e _ = H2; have s2 := newx_same na nd hE; have h2 := newx_at hE; have h3 := newx_d hda hE; clear hE))
local macro_rules | `(tactic| walk_at "s1") => `(tactic| first
  | with_reducible refine s_seq ?_
  | with_reducible refine s_asg ?_
  | with_reducible refine s_name ?_
  | with_reducible refine s_ret ?_
  | with_reducible refine s_c ?_
  | ((with_reducible refine' s_var ?hv ?_); (case hv => rfl))
  | with_reducible refine s_op ?_
  | with_reducible refine s_un ?_
  | with_reducible refine s_ifS ?_
  | with_reducible refine s_cb ?_
  | with_reducible refine s_cons ?_
  | with_reducible refine s_nil ?_
  | with_reducible refine s_call ?_
  | with_reducible refine s_test ?_
  | with_reducible refine s_tB ?_
  | with_reducible refine s_bl ?_
  | with_reducible refine s_and ?_
  | with_reducible refine s_or ?_
  | with_reducible refine s_not ?_
  | with_reducible refine s_andV ?_
  | with_reducible refine s_orV ?_
  | with_reducible refine s_notV ?_
  | with_reducible refine s_blV ?_
  | with_reducible refine s_if ?_
  | with_reducible refine s_tup ?_
  | with_reducible refine s_lst ?_
  | with_reducible refine s_drop ?_
  | with_reducible refine s_next ?_
  | with_reducible refine s_sub ?_
  | with_reducible refine s_bm ?_
  | with_reducible refine s_callK ?_
  | with_reducible refine s_brk ?_
  | with_reducible refine s_cont ?_
  | with_reducible refine r_I0 ?_
  | with_reducible refine r_U ?_
  | with_reducible refine r_eqI ?_
  | with_reducible refine r_neI ?_
  | with_reducible refine r_isB ?_
  | with_reducible refine r_notB ?_
  | with_reducible refine i_t ?_
  | with_reducible refine i_f ?_
  | with_reducible refine i_nt ?_
  | with_reducible refine i_nf ?_
  | ((with_reducible refine' r_I ?hc ?_); (case hc => walk_at "cond"))
  | (with_reducible refine .inl ⟨_, rfl, ?_⟩)
  | (with_reducible refine ⟨_, rfl, ?_⟩)
  | ((with_reducible refine' r_ixL ?hx ?ha ?_); (case hx => walk_at "at"); (case ha => rfl))
  | ((with_reducible refine' r_ixT ?hx ?ha ?_); (case hx => walk_at "at"); (case ha => rfl))
  | ((with_reducible refine' r_setL ?hx ?ha ?_); (case hx => walk_at "at"); (case ha => rfl); intro H2 k2 h2; (try dsimp only [List.set, Int.toNat] at h2))
  | ((with_reducible refine' r_app ?hx ?hl ?_); (case hx => walk_at "at"); (case hl => first | exact Nat.lt_of_ble_eq_true rfl | omega); intro H2 k2 h2)
  | ((with_reducible refine' ty_list ?hx ?_); (case hx => walk_at "at"))
  | (refine And.intro (by (with_reducible show _ ≤ sizeLine); walk_at "sz") ?_; walk_at "new")
  | with_reducible refine s_exv ?_
  | walk_at "newx")
local macro_rules | `(tactic| walk_at "sx") => `(tactic| repeat (walk_at "s1"))
local macro_rules | `(tactic| walk_at "s2") => `(tactic| first
  | ((with_reducible refine' r_ixG ?hx ?hn ?_); (case hx => walk_at "at"); (case hn => omega))
  | ((with_reducible refine' r_ixGT ?hx ?hn ?_); (case hx => walk_at "at"); (case hn => omega))
  | (with_reducible refine ig_cons (fun hix => ?_) (fun hix => ?_))
  | ((with_reducible refine ig_nil ?_); omega)
  | ((with_reducible refine' i_T ?hc ?_); (case hc => omega))
  | ((with_reducible refine' i_F ?hc ?_); (case hc => omega))
  | (with_reducible refine i_2 (fun hc => ?_) (fun hc => ?_))
  | (with_reducible refine i_n2 (fun hc => ?_) (fun hc => ?_)))
local macro_rules | `(tactic| walk_at "go") => `(tactic| repeat' (first | walk_at "s1" | walk_at "s2"))

local macro_rules | `(tactic| walk_at "s1") => `(tactic| first
  | with_reducible refine s_chain ?_
  | with_reducible refine s_fldS ?_
  | with_reducible refine s_fld ?_
  | with_reducible refine s_dIn ?_
  | with_reducible refine s_dNotIn ?_
  | with_reducible refine s_sl ?_
  | with_reducible refine s_noPart ?_
  | with_reducible refine s_part ?_
  | with_reducible refine s_meth ?_
  | with_reducible refine s_make ?_)

section
variable {P : Program} {w : World} {K : PySem.W.Frag} {mg : Str → Option Value} {base : Heap} {A : Ad}
def spLaw (K : PySem.W.Frag) : Sp := fun vs H Q _ => ∃ (a : Addr) (ns : List Int), vs = [.ref a] ∧ SqL K H a (ns.map V.int) ∧ ns.length ≤ 63 ∧ ∀ H', Q (.bl true) H'
theorem ok_law (T : Txt P K mg A) : FnOk P w K mg base CX0 14 A.a_law A.d_law ["script"] (spLaw K) := by
  refine T.F_law.ok sc_law (fun vs H Q E h => ?_) (fun cdv A' outer s H vs Q E hr h => ?_)
  · obtain ⟨a, ns, rfl, _⟩ := h
    rfl
  · obtain ⟨a, ns, rfl, hS, hn, k⟩ := h
    have G__law_all := ok_all (w := w) (base := base) T
    refine ⟨_, (pss_one (ps_try_thru0 (pss_one (ps_ret (pe_call G__law_all (hr.mono (by decide)) rfl T.g__law_all T.F__law_all.kp (B__law_all T) .nil pass0 (pa_cons (pv 0) pa_nil)))))), ?_⟩
    walk_at "sx"
    exact ⟨a, ns, rfl, hS, k⟩
end
abbrev sI_InvalidGuess : Stmt := inClass (top 11) 0
theorem all_mk {l : PySem.W.OpenLaw} {w : World} {K : PySem.W.Frag} {h : Heap} {mg : Str → Option Value} {fa : Addr} (X : K.In h) (G : h.Ns mainGlobals mg) (hfa : mg "law" = some (.ref fa))
    {C_Rules : Addr} {f0 : Addr} {od0 an0 : Option Addr} {sl0 : Array (Option Value)} {oc0 kV0 dc0 pm0 cd0 ct0 : Value} {f1 : Addr} {od1 an1 : Option Addr} {sl1 : Array (Option Value)} {oc1 kV1 dc1 pm1 cd1 ct1 : Value} {f2 : Addr} {od2 an2 : Option Addr} {sl2 : Array (Option Value)} {oc2 kV2 dc2 pm2 cd2 ct2 : Value} {f3 : Addr} {od3 an3 : Option Addr} {sl3 : Array (Option Value)} {oc3 kV3 dc3 pm3 cd3 ct3 : Value} {f4 : Addr} {od4 an4 : Option Addr} {sl4 : Array (Option Value)} {oc4 kV4 dc4 pm4 cd4 ct4 : Value} {f5 : Addr} {od5 an5 : Option Addr} {sl5 : Array (Option Value)} {oc5 kV5 dc5 pm5 cd5 ct5 : Value} {f6 : Addr} {od6 an6 : Option Addr} {sl6 : Array (Option Value)} {oc6 kV6 dc6 pm6 cd6 ct6 : Value} {f7 : Addr} {od7 an7 : Option Addr} {sl7 : Array (Option Value)} {oc7 kV7 dc7 pm7 cd7 ct7 : Value} {f8 : Addr} {od8 an8 : Option Addr} {sl8 : Array (Option Value)} {oc8 kV8 dc8 pm8 cd8 ct8 : Value} {f9 : Addr} {od9 an9 : Option Addr} {sl9 : Array (Option Value)} {oc9 kV9 dc9 pm9 cd9 ct9 : Value} {f10 : Addr} {od10 an10 : Option Addr} {sl10 : Array (Option Value)} {oc10 kV10 dc10 pm10 cd10 ct10 : Value} {f11 : Addr} {od11 an11 : Option Addr} {sl11 : Array (Option Value)} {oc11 kV11 dc11 pm11 cd11 ct11 : Value} {f12 : Addr} {od12 an12 : Option Addr} {sl12 : Array (Option Value)} {oc12 kV12 dc12 pm12 cd12 ct12 : Value} {f13 : Addr} {od13 an13 : Option Addr} {sl13 : Array (Option Value)} {oc13 kV13 dc13 pm13 cd13 ct13 : Value} {f14 : Addr} {od14 an14 : Option Addr} {sl14 : Array (Option Value)} {oc14 kV14 dc14 pm14 cd14 ct14 : Value} {f15 : Addr} {od15 an15 : Option Addr} {sl15 : Array (Option Value)} {oc15 kV15 dc15 pm15 cd15 ct15 : Value} {f16 : Addr} {od16 an16 : Option Addr} {sl16 : Array (Option Value)} {oc16 kV16 dc16 pm16 cd16 ct16 : Value} {f17 : Addr} {od17 an17 : Option Addr} {sl17 : Array (Option Value)} {oc17 kV17 dc17 pm17 cd17 ct17 : Value} {f18 : Addr} {od18 an18 : Option Addr} {sl18 : Array (Option Value)} {oc18 kV18 dc18 pm18 cd18 ct18 : Value} {f19 : Addr} {od19 an19 : Option Addr} {sl19 : Array (Option Value)} {oc19 kV19 dc19 pm19 cd19 ct19 : Value} {f20 : Addr} {od20 an20 : Option Addr} {sl20 : Array (Option Value)} {oc20 kV20 dc20 pm20 cd20 ct20 : Value} {f21 : Addr} {od21 an21 : Option Addr} {sl21 : Array (Option Value)} {oc21 kV21 dc21 pm21 cd21 ct21 : Value} {f22 : Addr} {od22 an22 : Option Addr} {sl22 : Array (Option Value)} {oc22 kV22 dc22 pm22 cd22 ct22 : Value} {f23 : Addr} {od23 an23 : Option Addr} {sl23 : Array (Option Value)} {oc23 kV23 dc23 pm23 cd23 ct23 : Value} {f24 : Addr} {od24 an24 : Option Addr} {sl24 : Array (Option Value)} {oc24 kV24 dc24 pm24 cd24 ct24 : Value} {f25 : Addr} {od25 an25 : Option Addr} {sl25 : Array (Option Value)} {oc25 kV25 dc25 pm25 cd25 ct25 : Value} {f26 : Addr} {od26 an26 : Option Addr} {sl26 : Array (Option Value)} {oc26 kV26 dc26 pm26 cd26 ct26 : Value} {f27 : Addr} {od27 an27 : Option Addr} {sl27 : Array (Option Value)} {oc27 kV27 dc27 pm27 cd27 ct27 : Value} {f28 : Addr} {od28 an28 : Option Addr} {sl28 : Array (Option Value)} {oc28 kV28 dc28 pm28 cd28 ct28 : Value} {f29 : Addr} {od29 an29 : Option Addr} {sl29 : Array (Option Value)} {oc29 kV29 dc29 pm29 cd29 ct29 : Value} {f30 : Addr} {od30 an30 : Option Addr} {sl30 : Array (Option Value)} {oc30 kV30 dc30 pm30 cd30 ct30 : Value} {f31 : Addr} {od31 an31 : Option Addr} {sl31 : Array (Option Value)} {oc31 kV31 dc31 pm31 cd31 ct31 : Value} {f32 : Addr} {od32 an32 : Option Addr} {sl32 : Array (Option Value)} {oc32 kV32 dc32 pm32 cd32 ct32 : Value} {f33 : Addr} {od33 an33 : Option Addr} {sl33 : Array (Option Value)} {oc33 kV33 dc33 pm33 cd33 ct33 : Value} {f34 : Addr} {od34 an34 : Option Addr} {sl34 : Array (Option Value)} {oc34 kV34 dc34 pm34 cd34 ct34 : Value} {f35 : Addr} {od35 an35 : Option Addr} {sl35 : Array (Option Value)} {oc35 kV35 dc35 pm35 cd35 ct35 : Value} {f36 : Addr} {od36 an36 : Option Addr} {sl36 : Array (Option Value)} {oc36 kV36 dc36 pm36 cd36 ct36 : Value} {f37 : Addr} {od37 an37 : Option Addr} {sl37 : Array (Option Value)} {oc37 kV37 dc37 pm37 cd37 ct37 : Value} {f38 : Addr} {od38 an38 : Option Addr} {sl38 : Array (Option Value)} {oc38 kV38 dc38 pm38 cd38 ct38 : Value} {f39 : Addr} {od39 an39 : Option Addr} {sl39 : Array (Option Value)} {oc39 kV39 dc39 pm39 cd39 ct39 : Value} {C_InvalidGuess I_InvalidGuess : Addr} {nm_InvalidGuess q_InvalidGuess : Str} {N_InvalidGuess : Addr} {bs_InvalidGuess bm_InvalidGuess sub_InvalidGuess : List Value} {sn_InvalidGuess : List Str} {ab_InvalidGuess : Bool} {col_InvalidGuess : Option Bool} {dd_InvalidGuess : Option Addr} {k0_InvalidGuess k1_InvalidGuess k2_InvalidGuess k3_InvalidGuess k5_InvalidGuess : Option Value} {oi_InvalidGuess ci_InvalidGuess pi_InvalidGuess di_InvalidGuess : Value} {oo_InvalidGuess ai_InvalidGuess : Option Addr} {ca_InvalidGuess cc_InvalidGuess : Addr} {si2_InvalidGuess sj_InvalidGuess sk_InvalidGuess : Array (Option Value)} {cl1_InvalidGuess cl2_InvalidGuess : Value} {cd1_InvalidGuess cd2_InvalidGuess : Option Addr} {vs_InvalidGuess : Array Value} {tf_InvalidGuess : Tok} {file_InvalidGuess : Str}
    (a0 : PySem.W.nsIn K mainGlobals "is_an_integer" = some (some (.ref f0)))
    (l0 : K.lookup f0 = some ⟨oc0, od0, .func (PySem.W.fnOf "is_an_integer" "is_an_integer" (defArgs s_is_an_integer) (defBody s_is_an_integer) (defScope s_is_an_integer) .none kV0 dc0 pm0 an0 cd0 ct0), sl0⟩)
    (c0 : PySem.W.codeIn K cd0 "is_an_integer" = true)
    (k0 : PySem.W.keepIn K (.ref f0) = true)
    (a1 : PySem.W.nsIn K mainGlobals "is_number" = some (some (.ref f1)))
    (l1 : K.lookup f1 = some ⟨oc1, od1, .func (PySem.W.fnOf "is_number" "is_number" (defArgs s_is_number) (defBody s_is_number) (defScope s_is_number) .none kV1 dc1 pm1 an1 cd1 ct1), sl1⟩)
    (c1 : PySem.W.codeIn K cd1 "is_number" = true)
    (k1 : PySem.W.keepIn K (.ref f1) = true)
    (a2 : PySem.W.nsIn K mainGlobals "is_value" = some (some (.ref f2)))
    (l2 : K.lookup f2 = some ⟨oc2, od2, .func (PySem.W.fnOf "is_value" "is_value" (defArgs s_is_value) (defBody s_is_value) (defScope s_is_value) .none kV2 dc2 pm2 an2 cd2 ct2), sl2⟩)
    (c2 : PySem.W.codeIn K cd2 "is_value" = true)
    (k2 : PySem.W.keepIn K (.ref f2) = true)
    (a3 : PySem.W.nsIn K mainGlobals "is_pair" = some (some (.ref f3)))
    (l3 : K.lookup f3 = some ⟨oc3, od3, .func (PySem.W.fnOf "is_pair" "is_pair" (defArgs s_is_pair) (defBody s_is_pair) (defScope s_is_pair) .none kV3 dc3 pm3 an3 cd3 ct3), sl3⟩)
    (c3 : PySem.W.codeIn K cd3 "is_pair" = true)
    (k3 : PySem.W.keepIn K (.ref f3) = true)
    (a4 : PySem.W.nsIn K mainGlobals "is_share" = some (some (.ref f4)))
    (l4 : K.lookup f4 = some ⟨oc4, od4, .func (PySem.W.fnOf "is_share" "is_share" (defArgs s_is_share) (defBody s_is_share) (defScope s_is_share) .none kV4 dc4 pm4 an4 cd4 ct4), sl4⟩)
    (c4 : PySem.W.codeIn K cd4 "is_share" = true)
    (k4 : PySem.W.keepIn K (.ref f4) = true)
    (a5 : PySem.W.nsIn K mainGlobals "is_chance" = some (some (.ref f5)))
    (l5 : K.lookup f5 = some ⟨oc5, od5, .func (PySem.W.fnOf "is_chance" "is_chance" (defArgs s_is_chance) (defBody s_is_chance) (defScope s_is_chance) .none kV5 dc5 pm5 an5 cd5 ct5), sl5⟩)
    (c5 : PySem.W.codeIn K cd5 "is_chance" = true)
    (k5 : PySem.W.keepIn K (.ref f5) = true)
    (a6 : PySem.W.nsIn K mainGlobals "are_chances" = some (some (.ref f6)))
    (l6 : K.lookup f6 = some ⟨oc6, od6, .func (PySem.W.fnOf "are_chances" "are_chances" (defArgs s_are_chances) (defBody s_are_chances) (defScope s_are_chances) .none kV6 dc6 pm6 an6 cd6 ct6), sl6⟩)
    (c6 : PySem.W.codeIn K cd6 "are_chances" = true)
    (k6 : PySem.W.keepIn K (.ref f6) = true)
    (a7 : PySem.W.nsIn K mainGlobals "share_of" = some (some (.ref f7)))
    (l7 : K.lookup f7 = some ⟨oc7, od7, .func (PySem.W.fnOf "share_of" "share_of" (defArgs s_share_of) (defBody s_share_of) (defScope s_share_of) .none kV7 dc7 pm7 an7 cd7 ct7), sl7⟩)
    (c7 : PySem.W.codeIn K cd7 "share_of" = true)
    (k7 : PySem.W.keepIn K (.ref f7) = true)
    (a8 : PySem.W.nsIn K mainGlobals "plus" = some (some (.ref f8)))
    (l8 : K.lookup f8 = some ⟨oc8, od8, .func (PySem.W.fnOf "plus" "plus" (defArgs s_plus) (defBody s_plus) (defScope s_plus) .none kV8 dc8 pm8 an8 cd8 ct8), sl8⟩)
    (c8 : PySem.W.codeIn K cd8 "plus" = true)
    (k8 : PySem.W.keepIn K (.ref f8) = true)
    (a9 : PySem.W.nsIn K mainGlobals "less" = some (some (.ref f9)))
    (l9 : K.lookup f9 = some ⟨oc9, od9, .func (PySem.W.fnOf "less" "less" (defArgs s_less) (defBody s_less) (defScope s_less) .none kV9 dc9 pm9 an9 cd9 ct9), sl9⟩)
    (c9 : PySem.W.codeIn K cd9 "less" = true)
    (k9 : PySem.W.keepIn K (.ref f9) = true)
    (a10 : PySem.W.nsIn K mainGlobals "times" = some (some (.ref f10)))
    (l10 : K.lookup f10 = some ⟨oc10, od10, .func (PySem.W.fnOf "times" "times" (defArgs s_times) (defBody s_times) (defScope s_times) .none kV10 dc10 pm10 an10 cd10 ct10), sl10⟩)
    (c10 : PySem.W.codeIn K cd10 "times" = true)
    (k10 : PySem.W.keepIn K (.ref f10) = true)
    (a11 : PySem.W.nsIn K mainGlobals "is_row" = some (some (.ref f11)))
    (l11 : K.lookup f11 = some ⟨oc11, od11, .func (PySem.W.fnOf "is_row" "is_row" (defArgs s_is_row) (defBody s_is_row) (defScope s_is_row) .none kV11 dc11 pm11 an11 cd11 ct11), sl11⟩)
    (c11 : PySem.W.codeIn K cd11 "is_row" = true)
    (k11 : PySem.W.keepIn K (.ref f11) = true)
    (a12 : PySem.W.nsIn K mainGlobals "with_value" = some (some (.ref f12)))
    (l12 : K.lookup f12 = some ⟨oc12, od12, .func (PySem.W.fnOf "with_value" "with_value" (defArgs s_with_value) (defBody s_with_value) (defScope s_with_value) .none kV12 dc12 pm12 an12 cd12 ct12), sl12⟩)
    (c12 : PySem.W.codeIn K cd12 "with_value" = true)
    (k12 : PySem.W.keepIn K (.ref f12) = true)
    (a13 : PySem.W.nsIn K mainGlobals "are_rows" = some (some (.ref f13)))
    (l13 : K.lookup f13 = some ⟨oc13, od13, .func (PySem.W.fnOf "are_rows" "are_rows" (defArgs s_are_rows) (defBody s_are_rows) (defScope s_are_rows) .none kV13 dc13 pm13 an13 cd13 ct13), sl13⟩)
    (c13 : PySem.W.codeIn K cd13 "are_rows" = true)
    (k13 : PySem.W.keepIn K (.ref f13) = true)
    (a14 : PySem.W.findIn K (.ref C_Rules) "__init__" = some (some (.ref f14)))
    (l14 : K.lookup f14 = some ⟨oc14, od14, .func (PySem.W.fnOf "__init__" "Rules.__init__" (defArgs s_Rules____init__) (defBody s_Rules____init__) (defScope s_Rules____init__) .none kV14 dc14 pm14 an14 cd14 ct14), sl14⟩)
    (c14 : PySem.W.codeIn K cd14 "Rules.__init__" = true)
    (k14 : PySem.W.keepIn K (.ref f14) = true)
    (a15 : PySem.W.findIn K (.ref C_Rules) "__eq__" = some (some (.ref f15)))
    (l15 : K.lookup f15 = some ⟨oc15, od15, .func (PySem.W.fnOf "__eq__" "Rules.__eq__" (defArgs s_Rules____eq__) (defBody s_Rules____eq__) (defScope s_Rules____eq__) .none kV15 dc15 pm15 an15 cd15 ct15), sl15⟩)
    (c15 : PySem.W.codeIn K cd15 "Rules.__eq__" = true)
    (k15 : PySem.W.keepIn K (.ref f15) = true)
    (a16 : PySem.W.findIn K (.ref C_Rules) "__len__" = some (some (.ref f16)))
    (l16 : K.lookup f16 = some ⟨oc16, od16, .func (PySem.W.fnOf "__len__" "Rules.__len__" (defArgs s_Rules____len__) (defBody s_Rules____len__) (defScope s_Rules____len__) .none kV16 dc16 pm16 an16 cd16 ct16), sl16⟩)
    (c16 : PySem.W.codeIn K cd16 "Rules.__len__" = true)
    (k16 : PySem.W.keepIn K (.ref f16) = true)
    (a17 : PySem.W.nsIn K mainGlobals "ties_of" = some (some (.ref f17)))
    (l17 : K.lookup f17 = some ⟨oc17, od17, .func (PySem.W.fnOf "ties_of" "ties_of" (defArgs s_ties_of) (defBody s_ties_of) (defScope s_ties_of) .none kV17 dc17 pm17 an17 cd17 ct17), sl17⟩)
    (c17 : PySem.W.codeIn K cd17 "ties_of" = true)
    (k17 : PySem.W.keepIn K (.ref f17) = true)
    (a18 : PySem.W.nsIn K mainGlobals "is_drawn" = some (some (.ref f18)))
    (l18 : K.lookup f18 = some ⟨oc18, od18, .func (PySem.W.fnOf "is_drawn" "is_drawn" (defArgs s_is_drawn) (defBody s_is_drawn) (defScope s_is_drawn) .none kV18 dc18 pm18 an18 cd18 ct18), sl18⟩)
    (c18 : PySem.W.codeIn K cd18 "is_drawn" = true)
    (k18 : PySem.W.keepIn K (.ref f18) = true)
    (a19 : PySem.W.nsIn K mainGlobals "demand_drawn" = some (some (.ref f19)))
    (l19 : K.lookup f19 = some ⟨oc19, od19, .func (PySem.W.fnOf "demand_drawn" "demand_drawn" (defArgs s_demand_drawn) (defBody s_demand_drawn) (defScope s_demand_drawn) .none kV19 dc19 pm19 an19 cd19 ct19), sl19⟩)
    (c19 : PySem.W.codeIn K cd19 "demand_drawn" = true)
    (k19 : PySem.W.keepIn K (.ref f19) = true)
    (a20 : PySem.W.nsIn K mainGlobals "sums_of" = some (some (.ref f20)))
    (l20 : K.lookup f20 = some ⟨oc20, od20, .func (PySem.W.fnOf "sums_of" "sums_of" (defArgs s_sums_of) (defBody s_sums_of) (defScope s_sums_of) .none kV20 dc20 pm20 an20 cd20 ct20), sl20⟩)
    (c20 : PySem.W.codeIn K cd20 "sums_of" = true)
    (k20 : PySem.W.keepIn K (.ref f20) = true)
    (a21 : PySem.W.nsIn K mainGlobals "means_of" = some (some (.ref f21)))
    (l21 : K.lookup f21 = some ⟨oc21, od21, .func (PySem.W.fnOf "means_of" "means_of" (defArgs s_means_of) (defBody s_means_of) (defScope s_means_of) .none kV21 dc21 pm21 an21 cd21 ct21), sl21⟩)
    (c21 : PySem.W.codeIn K cd21 "means_of" = true)
    (k21 : PySem.W.keepIn K (.ref f21) = true)
    (a22 : PySem.W.nsIn K mainGlobals "_law_flow" = some (some (.ref f22)))
    (l22 : K.lookup f22 = some ⟨oc22, od22, .func (PySem.W.fnOf "_law_flow" "_law_flow" (defArgs s__law_flow) (defBody s__law_flow) (defScope s__law_flow) .none kV22 dc22 pm22 an22 cd22 ct22), sl22⟩)
    (c22 : PySem.W.codeIn K cd22 "_law_flow" = true)
    (k22 : PySem.W.keepIn K (.ref f22) = true)
    (a23 : PySem.W.nsIn K mainGlobals "_law_take" = some (some (.ref f23)))
    (l23 : K.lookup f23 = some ⟨oc23, od23, .func (PySem.W.fnOf "_law_take" "_law_take" (defArgs s__law_take) (defBody s__law_take) (defScope s__law_take) .none kV23 dc23 pm23 an23 cd23 ct23), sl23⟩)
    (c23 : PySem.W.codeIn K cd23 "_law_take" = true)
    (k23 : PySem.W.keepIn K (.ref f23) = true)
    (a24 : PySem.W.nsIn K mainGlobals "_law_full" = some (some (.ref f24)))
    (l24 : K.lookup f24 = some ⟨oc24, od24, .func (PySem.W.fnOf "_law_full" "_law_full" (defArgs s__law_full) (defBody s__law_full) (defScope s__law_full) .none kV24 dc24 pm24 an24 cd24 ct24), sl24⟩)
    (c24 : PySem.W.codeIn K cd24 "_law_full" = true)
    (k24 : PySem.W.keepIn K (.ref f24) = true)
    (a25 : PySem.W.nsIn K mainGlobals "_law_row" = some (some (.ref f25)))
    (l25 : K.lookup f25 = some ⟨oc25, od25, .func (PySem.W.fnOf "_law_row" "_law_row" (defArgs s__law_row) (defBody s__law_row) (defScope s__law_row) .none kV25 dc25 pm25 an25 cd25 ct25), sl25⟩)
    (c25 : PySem.W.codeIn K cd25 "_law_row" = true)
    (k25 : PySem.W.keepIn K (.ref f25) = true)
    (a26 : PySem.W.nsIn K mainGlobals "_law_walk" = some (some (.ref f26)))
    (l26 : K.lookup f26 = some ⟨oc26, od26, .func (PySem.W.fnOf "_law_walk" "_law_walk" (defArgs s__law_walk) (defBody s__law_walk) (defScope s__law_walk) .none kV26 dc26 pm26 an26 cd26 ct26), sl26⟩)
    (c26 : PySem.W.codeIn K cd26 "_law_walk" = true)
    (k26 : PySem.W.keepIn K (.ref f26) = true)
    (a27 : PySem.W.nsIn K mainGlobals "_law_numbers" = some (some (.ref f27)))
    (l27 : K.lookup f27 = some ⟨oc27, od27, .func (PySem.W.fnOf "_law_numbers" "_law_numbers" (defArgs s__law_numbers) (defBody s__law_numbers) (defScope s__law_numbers) .none kV27 dc27 pm27 an27 cd27 ct27), sl27⟩)
    (c27 : PySem.W.codeIn K cd27 "_law_numbers" = true)
    (k27 : PySem.W.keepIn K (.ref f27) = true)
    (a28 : PySem.W.nsIn K mainGlobals "_law_divisor" = some (some (.ref f28)))
    (l28 : K.lookup f28 = some ⟨oc28, od28, .func (PySem.W.fnOf "_law_divisor" "_law_divisor" (defArgs s__law_divisor) (defBody s__law_divisor) (defScope s__law_divisor) .none kV28 dc28 pm28 an28 cd28 ct28), sl28⟩)
    (c28 : PySem.W.codeIn K cd28 "_law_divisor" = true)
    (k28 : PySem.W.keepIn K (.ref f28) = true)
    (a29 : PySem.W.nsIn K mainGlobals "_law_chance" = some (some (.ref f29)))
    (l29 : K.lookup f29 = some ⟨oc29, od29, .func (PySem.W.fnOf "_law_chance" "_law_chance" (defArgs s__law_chance) (defBody s__law_chance) (defScope s__law_chance) .none kV29 dc29 pm29 an29 cd29 ct29), sl29⟩)
    (c29 : PySem.W.codeIn K cd29 "_law_chance" = true)
    (k29 : PySem.W.keepIn K (.ref f29) = true)
    (a30 : PySem.W.nsIn K mainGlobals "_law_same" = some (some (.ref f30)))
    (l30 : K.lookup f30 = some ⟨oc30, od30, .func (PySem.W.fnOf "_law_same" "_law_same" (defArgs s__law_same) (defBody s__law_same) (defScope s__law_same) .none kV30 dc30 pm30 an30 cd30 ct30), sl30⟩)
    (c30 : PySem.W.codeIn K cd30 "_law_same" = true)
    (k30 : PySem.W.keepIn K (.ref f30) = true)
    (a31 : PySem.W.nsIn K mainGlobals "_law_ties" = some (some (.ref f31)))
    (l31 : K.lookup f31 = some ⟨oc31, od31, .func (PySem.W.fnOf "_law_ties" "_law_ties" (defArgs s__law_ties) (defBody s__law_ties) (defScope s__law_ties) .none kV31 dc31 pm31 an31 cd31 ct31), sl31⟩)
    (c31 : PySem.W.codeIn K cd31 "_law_ties" = true)
    (k31 : PySem.W.keepIn K (.ref f31) = true)
    (a32 : PySem.W.nsIn K mainGlobals "_law_is_chance" = some (some (.ref f32)))
    (l32 : K.lookup f32 = some ⟨oc32, od32, .func (PySem.W.fnOf "_law_is_chance" "_law_is_chance" (defArgs s__law_is_chance) (defBody s__law_is_chance) (defScope s__law_is_chance) .none kV32 dc32 pm32 an32 cd32 ct32), sl32⟩)
    (c32 : PySem.W.codeIn K cd32 "_law_is_chance" = true)
    (k32 : PySem.W.keepIn K (.ref f32) = true)
    (a33 : PySem.W.nsIn K mainGlobals "_law_is_guess" = some (some (.ref f33)))
    (l33 : K.lookup f33 = some ⟨oc33, od33, .func (PySem.W.fnOf "_law_is_guess" "_law_is_guess" (defArgs s__law_is_guess) (defBody s__law_is_guess) (defScope s__law_is_guess) .none kV33 dc33 pm33 an33 cd33 ct33), sl33⟩)
    (c33 : PySem.W.codeIn K cd33 "_law_is_guess" = true)
    (k33 : PySem.W.keepIn K (.ref f33) = true)
    (a34 : PySem.W.nsIn K mainGlobals "_law_means" = some (some (.ref f34)))
    (l34 : K.lookup f34 = some ⟨oc34, od34, .func (PySem.W.fnOf "_law_means" "_law_means" (defArgs s__law_means) (defBody s__law_means) (defScope s__law_means) .none kV34 dc34 pm34 an34 cd34 ct34), sl34⟩)
    (c34 : PySem.W.codeIn K cd34 "_law_means" = true)
    (k34 : PySem.W.keepIn K (.ref f34) = true)
    (a35 : PySem.W.nsIn K mainGlobals "_law_spoilt" = some (some (.ref f35)))
    (l35 : K.lookup f35 = some ⟨oc35, od35, .func (PySem.W.fnOf "_law_spoilt" "_law_spoilt" (defArgs s__law_spoilt) (defBody s__law_spoilt) (defScope s__law_spoilt) .none kV35 dc35 pm35 an35 cd35 ct35), sl35⟩)
    (c35 : PySem.W.codeIn K cd35 "_law_spoilt" = true)
    (k35 : PySem.W.keepIn K (.ref f35) = true)
    (a36 : PySem.W.nsIn K mainGlobals "_law_asked" = some (some (.ref f36)))
    (l36 : K.lookup f36 = some ⟨oc36, od36, .func (PySem.W.fnOf "_law_asked" "_law_asked" (defArgs s__law_asked) (defBody s__law_asked) (defScope s__law_asked) .none kV36 dc36 pm36 an36 cd36 ct36), sl36⟩)
    (c36 : PySem.W.codeIn K cd36 "_law_asked" = true)
    (k36 : PySem.W.keepIn K (.ref f36) = true)
    (a37 : PySem.W.nsIn K mainGlobals "_law_object_refused" = some (some (.ref f37)))
    (l37 : K.lookup f37 = some ⟨oc37, od37, .func (PySem.W.fnOf "_law_object_refused" "_law_object_refused" (defArgs s__law_object_refused) (defBody s__law_object_refused) (defScope s__law_object_refused) .none kV37 dc37 pm37 an37 cd37 ct37), sl37⟩)
    (c37 : PySem.W.codeIn K cd37 "_law_object_refused" = true)
    (k37 : PySem.W.keepIn K (.ref f37) = true)
    (a38 : PySem.W.nsIn K mainGlobals "_law_all" = some (some (.ref f38)))
    (l38 : K.lookup f38 = some ⟨oc38, od38, .func (PySem.W.fnOf "_law_all" "_law_all" (defArgs s__law_all) (defBody s__law_all) (defScope s__law_all) .none kV38 dc38 pm38 an38 cd38 ct38), sl38⟩)
    (c38 : PySem.W.codeIn K cd38 "_law_all" = true)
    (k38 : PySem.W.keepIn K (.ref f38) = true)
    (a39 : PySem.W.nsIn K mainGlobals "law" = some (some (.ref f39)))
    (l39 : K.lookup f39 = some ⟨oc39, od39, .func (PySem.W.fnOf "law" "law" (defArgs s_law) (defBody s_law) (defScope s_law) .none kV39 dc39 pm39 an39 cd39 ct39), sl39⟩)
    (c39 : PySem.W.codeIn K cd39 "law" = true)
    (k39 : PySem.W.keepIn K (.ref f39) = true)
    (gC_Rules : PySem.W.nsIn K mainGlobals "Rules" = some (some (.ref C_Rules)))
    (pg_Rules : PySem.W.plainGet K C_Rules Str.empty = true)
    (hd_Rules : PySem.W.hasDictIn K C_Rules = true)
    (po_Rules : PySem.W.plainOver K C_Rules = true)
    (sa_Rules : PySem.W.findIn K (.ref C_Rules) "__setattr__" = some (some (.builtin "object.__setattr__")))
    (mk_Rules : PySem.W.makesIn K C_Rules = true)
    (kC_Rules : PySem.W.keepIn K (.ref C_Rules) = true)
    (fn_Rules___init__ : PySem.W.isFn K (.ref f14) = true)
    (fn_Rules___len__ : PySem.W.isFn K (.ref f16) = true)
    (fn_Rules___eq__ : PySem.W.isFn K (.ref f15) = true)
    (no_Rules_size : PySem.W.findIn K (.ref C_Rules) "size" = some none)
    (no_Rules_rows : PySem.W.findIn K (.ref C_Rules) "rows" = some none)
    (no_Rules__known : PySem.W.findIn K (.ref C_Rules) "_known" = some none)
    (is_Rules : PySem.W.subIn K (.ref C_Rules) (.ref C_Rules) = some true)
    (mo_Rules : PySem.W.mroIn K C_Rules (.type "object") = some true)
    (co_Rules : PySem.W.findIn K (.ref C_Rules) "__class__" = some (some (.builtin "object.__class__")))
    (nint_Rules : PySem.W.subIn K (.ref C_Rules) (.type "int") = some false)
    (nbool_Rules : PySem.W.subIn K (.ref C_Rules) (.type "bool") = some false)
    (ntuple_Rules : PySem.W.subIn K (.ref C_Rules) (.type "tuple") = some false)
    (nstr_Rules : PySem.W.subIn K (.ref C_Rules) (.type "str") = some false)
    (nlist_Rules : PySem.W.subIn K (.ref C_Rules) (.type "list") = some false)
    (gC_InvalidGuess : PySem.W.nsIn K mainGlobals "InvalidGuess" = some (some (.ref C_InvalidGuess)))
    (iC_InvalidGuess : PySem.W.findIn K (.ref C_InvalidGuess) "__init__" = some (some (.ref I_InvalidGuess)))
    (cl_InvalidGuess : K.lookup C_InvalidGuess = some (excClassObj nm_InvalidGuess q_InvalidGuess C_InvalidGuess N_InvalidGuess bs_InvalidGuess bm_InvalidGuess true sn_InvalidGuess sub_InvalidGuess ab_InvalidGuess col_InvalidGuess dd_InvalidGuess k0_InvalidGuess k1_InvalidGuess k2_InvalidGuess k3_InvalidGuess k5_InvalidGuess "ValueError.__new__"))
    (sa_InvalidGuess : PySem.W.findIn K (.ref C_InvalidGuess) "__setattr__" = some (some (.builtin "object.__setattr__")))
    (no_InvalidGuess : PySem.W.findIn K (.ref C_InvalidGuess) "value" = some none)
    (tI_InvalidGuess : PySem.W.typeIn K (.ref I_InvalidGuess) = some (.type "function"))
    (kC_InvalidGuess : PySem.W.keepIn K (.ref C_InvalidGuess) = true)
    (ex_InvalidGuess : PySem.W.subIn K (.ref C_InvalidGuess) (.type "BaseException") = some true)
    (ve_InvalidGuess : PySem.W.subIn K (.ref C_InvalidGuess) (.type "ValueError") = some true)
    (ty_InvalidGuess : PySem.W.typeIn K (.ref C_InvalidGuess) = some (.type "type"))
    (ga_InvalidGuess : PySem.W.findIn K (.ref C_InvalidGuess) "__getattribute__" = some (some (.builtin "BaseException.__getattribute__")))
    (gg_InvalidGuess : PySem.W.findIn K (.ref C_InvalidGuess) "__getattr__" = some none)
    (hd_InvalidGuess : PySem.W.hasDictIn K C_InvalidGuess = true)
    (mr_InvalidGuess : PySem.W.mroIn K C_InvalidGuess (.ref C_InvalidGuess) = some true)
    (mo_InvalidGuess : PySem.W.mroIn K C_InvalidGuess (.type "object") = some true)
    (co_InvalidGuess : PySem.W.findIn K (.ref C_InvalidGuess) "__class__" = some (some (.builtin "object.__class__")))
    (nint_InvalidGuess : PySem.W.subIn K (.ref C_InvalidGuess) (.type "int") = some false)
    (nbool_InvalidGuess : PySem.W.subIn K (.ref C_InvalidGuess) (.type "bool") = some false)
    (ntuple_InvalidGuess : PySem.W.subIn K (.ref C_InvalidGuess) (.type "tuple") = some false)
    (nstr_InvalidGuess : PySem.W.subIn K (.ref C_InvalidGuess) (.type "str") = some false)
    (nlist_InvalidGuess : PySem.W.subIn K (.ref C_InvalidGuess) (.type "list") = some false)
    (si_InvalidGuess : PySem.W.ks_superIn K C_InvalidGuess C_InvalidGuess "__init__" = some (some (.builtin "ValueError.__init__")))
    (li_InvalidGuess : K.lookup I_InvalidGuess = some ⟨oi_InvalidGuess, oo_InvalidGuess, .func (PySem.W.ksFn "__init__" "InvalidGuess.__init__" (defArgs sI_InvalidGuess) (defBody sI_InvalidGuess) (defScope sI_InvalidGuess) .none .none di_InvalidGuess pi_InvalidGuess ai_InvalidGuess (.ref ca_InvalidGuess) ci_InvalidGuess cc_InvalidGuess), si2_InvalidGuess⟩)
    (ci2_InvalidGuess : PySem.W.codeIn K (.ref ca_InvalidGuess) "InvalidGuess.__init__" = true)
    (lc_InvalidGuess : K.lookup ca_InvalidGuess = some ⟨cl1_InvalidGuess, cd1_InvalidGuess, .fields vs_InvalidGuess, sj_InvalidGuess⟩)
    (fi_InvalidGuess : vs_InvalidGuess[2]? = some (.str file_InvalidGuess tf_InvalidGuess))
    (ff_InvalidGuess : ((l.prog.main.file : Str) == file_InvalidGuess) = true)
    (lx_InvalidGuess : K.lookup cc_InvalidGuess = some ⟨cl2_InvalidGuess, cd2_InvalidGuess, .cell (some (.ref C_InvalidGuess)), sk_InvalidGuess⟩)
    (zs : PySem.W.nsIn K mainGlobals "super" = some none)
    (op : PySem.W.nsIn K cStatics "thirdparty.any" = some none)
    (ht : (l.prog.main.scope.names.lookup ("super" : Str)).isSome = false)
    (sp1 : PySem.W.specialIn K (.builtin "object.__class__") "__get__" = some (some (.builtin "getset_descriptor.__get__")))
    (sp2 : PySem.W.takesIn K (.builtin "object.__class__") = some true)
    (z_abs : PySem.W.nsIn K mainGlobals "abs" = some none)
    (z_all : PySem.W.nsIn K mainGlobals "all" = some none)
    (z_bool : PySem.W.nsIn K mainGlobals "bool" = some none)
    (z_enumerate : PySem.W.nsIn K mainGlobals "enumerate" = some none)
    (z_int : PySem.W.nsIn K mainGlobals "int" = some none)
    (z_isinstance : PySem.W.nsIn K mainGlobals "isinstance" = some none)
    (z_len : PySem.W.nsIn K mainGlobals "len" = some none)
    (z_list : PySem.W.nsIn K mainGlobals "list" = some none)
    (z_range : PySem.W.nsIn K mainGlobals "range" = some none)
    (z_set : PySem.W.nsIn K mainGlobals "set" = some none)
    (z_sorted : PySem.W.nsIn K mainGlobals "sorted" = some none)
    (z_str : PySem.W.nsIn K mainGlobals "str" = some none)
    (z_tuple : PySem.W.nsIn K mainGlobals "tuple" = some none)
    (z_zip : PySem.W.nsIn K mainGlobals "zip" = some none)
    (m_gcd : PySem.W.nsIn K mainGlobals "gcd" = some (some (.builtin "math.gcd")))
    (rv_InvalidGuess : PySem.HandSPX.refsVE bm_InvalidGuess = true) (sb_InvalidGuess : PySem.W.subIn K (.ref C_InvalidGuess) (.ref C_InvalidGuess) = some true)
    : ∃ fd : FuncData, (∀ (s : Shared) (v : Value), BindsTo s fd ⟨[v], []⟩ [("script", v)]) ∧ ∀ base : Heap, K.In base → base.Ns mainGlobals mg → FnOk l.prog w K mg base CX0 14 fa fd ["script"] (spLaw K) := by
  have e := hfa.symm.trans (PySem.W.mg_of X G a39)
  cases e
  have gs : mg "super" = none := PySem.W.mg_none_of X G zs
  have xt_InvalidGuess : PySem.SupX_value.XTxt l.prog K mg "InvalidGuess" C_InvalidGuess I_InvalidGuess := {
    gC := PySem.W.mg_of X G gC_InvalidGuess, nm := by decide +kernel, sup := gs, cls := ⟨_, _, _, _, _, _, _, _, _, _, _, _, _, _, _, cl_InvalidGuess, by assumption⟩, sa := sa_InvalidGuess, noN := no_InvalidGuess, iC := iC_InvalidGuess, tC := tI_InvalidGuess, kC := kC_InvalidGuess, exC := ex_InvalidGuess, veC := ve_InvalidGuess, tyC := ty_InvalidGuess
    te := PySem.W.exm_ref ex_InvalidGuess hd_InvalidGuess ty_InvalidGuess sb_InvalidGuess, xf := ⟨ga_InvalidGuess, gg_InvalidGuess, ex_InvalidGuess, hd_InvalidGuess⟩, sIn := si_InvalidGuess, opq := op, mro := mr_InvalidGuess, htop := ht
    fn := ⟨_, _, _, _, _, _, _, _, _, _, _, _, _, _, _, _, _, _, _, _, _, _, _, _, _, _, _, _, _, _, _, _, _, li_InvalidGuess, ci2_InvalidGuess, by decide +kernel, lc_InvalidGuess, fi_InvalidGuess, ff_InvalidGuess, lx_InvalidGuess⟩ }
  let A : Ad := ⟨f0, (PySem.W.fnOf "is_an_integer" "is_an_integer" (defArgs s_is_an_integer) (defBody s_is_an_integer) (defScope s_is_an_integer) .none kV0 dc0 pm0 an0 cd0 ct0), f1, (PySem.W.fnOf "is_number" "is_number" (defArgs s_is_number) (defBody s_is_number) (defScope s_is_number) .none kV1 dc1 pm1 an1 cd1 ct1), f2, (PySem.W.fnOf "is_value" "is_value" (defArgs s_is_value) (defBody s_is_value) (defScope s_is_value) .none kV2 dc2 pm2 an2 cd2 ct2), f3, (PySem.W.fnOf "is_pair" "is_pair" (defArgs s_is_pair) (defBody s_is_pair) (defScope s_is_pair) .none kV3 dc3 pm3 an3 cd3 ct3), f4, (PySem.W.fnOf "is_share" "is_share" (defArgs s_is_share) (defBody s_is_share) (defScope s_is_share) .none kV4 dc4 pm4 an4 cd4 ct4), f5, (PySem.W.fnOf "is_chance" "is_chance" (defArgs s_is_chance) (defBody s_is_chance) (defScope s_is_chance) .none kV5 dc5 pm5 an5 cd5 ct5), f6, (PySem.W.fnOf "are_chances" "are_chances" (defArgs s_are_chances) (defBody s_are_chances) (defScope s_are_chances) .none kV6 dc6 pm6 an6 cd6 ct6), f7, (PySem.W.fnOf "share_of" "share_of" (defArgs s_share_of) (defBody s_share_of) (defScope s_share_of) .none kV7 dc7 pm7 an7 cd7 ct7), f8, (PySem.W.fnOf "plus" "plus" (defArgs s_plus) (defBody s_plus) (defScope s_plus) .none kV8 dc8 pm8 an8 cd8 ct8), f9, (PySem.W.fnOf "less" "less" (defArgs s_less) (defBody s_less) (defScope s_less) .none kV9 dc9 pm9 an9 cd9 ct9), f10, (PySem.W.fnOf "times" "times" (defArgs s_times) (defBody s_times) (defScope s_times) .none kV10 dc10 pm10 an10 cd10 ct10), f11, (PySem.W.fnOf "is_row" "is_row" (defArgs s_is_row) (defBody s_is_row) (defScope s_is_row) .none kV11 dc11 pm11 an11 cd11 ct11), f12, (PySem.W.fnOf "with_value" "with_value" (defArgs s_with_value) (defBody s_with_value) (defScope s_with_value) .none kV12 dc12 pm12 an12 cd12 ct12), f13, (PySem.W.fnOf "are_rows" "are_rows" (defArgs s_are_rows) (defBody s_are_rows) (defScope s_are_rows) .none kV13 dc13 pm13 an13 cd13 ct13), f14, (PySem.W.fnOf "__init__" "Rules.__init__" (defArgs s_Rules____init__) (defBody s_Rules____init__) (defScope s_Rules____init__) .none kV14 dc14 pm14 an14 cd14 ct14), f15, (PySem.W.fnOf "__eq__" "Rules.__eq__" (defArgs s_Rules____eq__) (defBody s_Rules____eq__) (defScope s_Rules____eq__) .none kV15 dc15 pm15 an15 cd15 ct15), f16, (PySem.W.fnOf "__len__" "Rules.__len__" (defArgs s_Rules____len__) (defBody s_Rules____len__) (defScope s_Rules____len__) .none kV16 dc16 pm16 an16 cd16 ct16), f17, (PySem.W.fnOf "ties_of" "ties_of" (defArgs s_ties_of) (defBody s_ties_of) (defScope s_ties_of) .none kV17 dc17 pm17 an17 cd17 ct17), f18, (PySem.W.fnOf "is_drawn" "is_drawn" (defArgs s_is_drawn) (defBody s_is_drawn) (defScope s_is_drawn) .none kV18 dc18 pm18 an18 cd18 ct18), f19, (PySem.W.fnOf "demand_drawn" "demand_drawn" (defArgs s_demand_drawn) (defBody s_demand_drawn) (defScope s_demand_drawn) .none kV19 dc19 pm19 an19 cd19 ct19), f20, (PySem.W.fnOf "sums_of" "sums_of" (defArgs s_sums_of) (defBody s_sums_of) (defScope s_sums_of) .none kV20 dc20 pm20 an20 cd20 ct20), f21, (PySem.W.fnOf "means_of" "means_of" (defArgs s_means_of) (defBody s_means_of) (defScope s_means_of) .none kV21 dc21 pm21 an21 cd21 ct21), f22, (PySem.W.fnOf "_law_flow" "_law_flow" (defArgs s__law_flow) (defBody s__law_flow) (defScope s__law_flow) .none kV22 dc22 pm22 an22 cd22 ct22), f23, (PySem.W.fnOf "_law_take" "_law_take" (defArgs s__law_take) (defBody s__law_take) (defScope s__law_take) .none kV23 dc23 pm23 an23 cd23 ct23), f24, (PySem.W.fnOf "_law_full" "_law_full" (defArgs s__law_full) (defBody s__law_full) (defScope s__law_full) .none kV24 dc24 pm24 an24 cd24 ct24), f25, (PySem.W.fnOf "_law_row" "_law_row" (defArgs s__law_row) (defBody s__law_row) (defScope s__law_row) .none kV25 dc25 pm25 an25 cd25 ct25), f26, (PySem.W.fnOf "_law_walk" "_law_walk" (defArgs s__law_walk) (defBody s__law_walk) (defScope s__law_walk) .none kV26 dc26 pm26 an26 cd26 ct26), f27, (PySem.W.fnOf "_law_numbers" "_law_numbers" (defArgs s__law_numbers) (defBody s__law_numbers) (defScope s__law_numbers) .none kV27 dc27 pm27 an27 cd27 ct27), f28, (PySem.W.fnOf "_law_divisor" "_law_divisor" (defArgs s__law_divisor) (defBody s__law_divisor) (defScope s__law_divisor) .none kV28 dc28 pm28 an28 cd28 ct28), f29, (PySem.W.fnOf "_law_chance" "_law_chance" (defArgs s__law_chance) (defBody s__law_chance) (defScope s__law_chance) .none kV29 dc29 pm29 an29 cd29 ct29), f30, (PySem.W.fnOf "_law_same" "_law_same" (defArgs s__law_same) (defBody s__law_same) (defScope s__law_same) .none kV30 dc30 pm30 an30 cd30 ct30), f31, (PySem.W.fnOf "_law_ties" "_law_ties" (defArgs s__law_ties) (defBody s__law_ties) (defScope s__law_ties) .none kV31 dc31 pm31 an31 cd31 ct31), f32, (PySem.W.fnOf "_law_is_chance" "_law_is_chance" (defArgs s__law_is_chance) (defBody s__law_is_chance) (defScope s__law_is_chance) .none kV32 dc32 pm32 an32 cd32 ct32), f33, (PySem.W.fnOf "_law_is_guess" "_law_is_guess" (defArgs s__law_is_guess) (defBody s__law_is_guess) (defScope s__law_is_guess) .none kV33 dc33 pm33 an33 cd33 ct33), f34, (PySem.W.fnOf "_law_means" "_law_means" (defArgs s__law_means) (defBody s__law_means) (defScope s__law_means) .none kV34 dc34 pm34 an34 cd34 ct34), f35, (PySem.W.fnOf "_law_spoilt" "_law_spoilt" (defArgs s__law_spoilt) (defBody s__law_spoilt) (defScope s__law_spoilt) .none kV35 dc35 pm35 an35 cd35 ct35), f36, (PySem.W.fnOf "_law_asked" "_law_asked" (defArgs s__law_asked) (defBody s__law_asked) (defScope s__law_asked) .none kV36 dc36 pm36 an36 cd36 ct36), f37, (PySem.W.fnOf "_law_object_refused" "_law_object_refused" (defArgs s__law_object_refused) (defBody s__law_object_refused) (defScope s__law_object_refused) .none kV37 dc37 pm37 an37 cd37 ct37), f38, (PySem.W.fnOf "_law_all" "_law_all" (defArgs s__law_all) (defBody s__law_all) (defScope s__law_all) .none kV38 dc38 pm38 an38 cd38 ct38), fa, (PySem.W.fnOf "law" "law" (defArgs s_law) (defBody s_law) (defScope s_law) .none kV39 dc39 pm39 an39 cd39 ct39), C_InvalidGuess, I_InvalidGuess, C_Rules⟩
  have T : Txt l.prog K mg A := ⟨PySem.W.mg_of X G a0, fun_mk (st := s_is_an_integer) l0 c0 k0, PySem.W.mg_of X G a1, fun_mk (st := s_is_number) l1 c1 k1, PySem.W.mg_of X G a2, fun_mk (st := s_is_value) l2 c2 k2, PySem.W.mg_of X G a3, fun_mk (st := s_is_pair) l3 c3 k3, PySem.W.mg_of X G a4, fun_mk (st := s_is_share) l4 c4 k4, PySem.W.mg_of X G a5, fun_mk (st := s_is_chance) l5 c5 k5, PySem.W.mg_of X G a6, fun_mk (st := s_are_chances) l6 c6 k6, PySem.W.mg_of X G a7, fun_mk (st := s_share_of) l7 c7 k7, PySem.W.mg_of X G a8, fun_mk (st := s_plus) l8 c8 k8, PySem.W.mg_of X G a9, fun_mk (st := s_less) l9 c9 k9, PySem.W.mg_of X G a10, fun_mk (st := s_times) l10 c10 k10, PySem.W.mg_of X G a11, fun_mk (st := s_is_row) l11 c11 k11, PySem.W.mg_of X G a12, fun_mk (st := s_with_value) l12 c12 k12, PySem.W.mg_of X G a13, fun_mk (st := s_are_rows) l13 c13 k13, fun_mk (st := s_Rules____init__) l14 c14 k14, fun_mk (st := s_Rules____eq__) l15 c15 k15, fun_mk (st := s_Rules____len__) l16 c16 k16, PySem.W.mg_of X G a17, fun_mk (st := s_ties_of) l17 c17 k17, PySem.W.mg_of X G a18, fun_mk (st := s_is_drawn) l18 c18 k18, PySem.W.mg_of X G a19, fun_mk (st := s_demand_drawn) l19 c19 k19, PySem.W.mg_of X G a20, fun_mk (st := s_sums_of) l20 c20 k20, PySem.W.mg_of X G a21, fun_mk (st := s_means_of) l21 c21 k21, PySem.W.mg_of X G a22, fun_mk (st := s__law_flow) l22 c22 k22, PySem.W.mg_of X G a23, fun_mk (st := s__law_take) l23 c23 k23, PySem.W.mg_of X G a24, fun_mk (st := s__law_full) l24 c24 k24, PySem.W.mg_of X G a25, fun_mk (st := s__law_row) l25 c25 k25, PySem.W.mg_of X G a26, fun_mk (st := s__law_walk) l26 c26 k26, PySem.W.mg_of X G a27, fun_mk (st := s__law_numbers) l27 c27 k27, PySem.W.mg_of X G a28, fun_mk (st := s__law_divisor) l28 c28 k28, PySem.W.mg_of X G a29, fun_mk (st := s__law_chance) l29 c29 k29, PySem.W.mg_of X G a30, fun_mk (st := s__law_same) l30 c30 k30, PySem.W.mg_of X G a31, fun_mk (st := s__law_ties) l31 c31 k31, PySem.W.mg_of X G a32, fun_mk (st := s__law_is_chance) l32 c32 k32, PySem.W.mg_of X G a33, fun_mk (st := s__law_is_guess) l33 c33 k33, PySem.W.mg_of X G a34, fun_mk (st := s__law_means) l34 c34 k34, PySem.W.mg_of X G a35, fun_mk (st := s__law_spoilt) l35 c35 k35, PySem.W.mg_of X G a36, fun_mk (st := s__law_asked) l36 c36 k36, PySem.W.mg_of X G a37, fun_mk (st := s__law_object_refused) l37 c37 k37, PySem.W.mg_of X G a38, fun_mk (st := s__law_all) l38 c38 k38, PySem.W.mg_of X G a39, fun_mk (st := s_law) l39 c39 k39, xt_InvalidGuess, ⟨⟨ga_InvalidGuess, gg_InvalidGuess, ex_InvalidGuess, hd_InvalidGuess, co_InvalidGuess, sp1, sp2, mo_InvalidGuess⟩, nint_InvalidGuess, nbool_InvalidGuess, ntuple_InvalidGuess, nstr_InvalidGuess, nlist_InvalidGuess⟩, PySem.W.mg_of X G gC_Rules, ⟨⟨pg_Rules, hd_Rules, po_Rules, sa_Rules⟩, co_Rules, sp1, sp2, mo_Rules, is_Rules, nint_Rules, nbool_Rules, ntuple_Rules, nstr_Rules, nlist_Rules⟩, ⟨mk_Rules, a14, fn_Rules___init__, kC_Rules⟩, no_Rules_size, no_Rules_rows, no_Rules__known, ⟨a16, fn_Rules___len__⟩, ⟨a15, fn_Rules___eq__⟩, PySem.W.mg_none_of X G z_abs, PySem.W.mg_none_of X G z_all, PySem.W.mg_none_of X G z_bool, PySem.W.mg_none_of X G z_enumerate, PySem.W.mg_none_of X G z_int, PySem.W.mg_none_of X G z_isinstance, PySem.W.mg_none_of X G z_len, PySem.W.mg_none_of X G z_list, PySem.W.mg_none_of X G z_range, PySem.W.mg_none_of X G z_set, PySem.W.mg_none_of X G z_sorted, PySem.W.mg_none_of X G z_str, PySem.W.mg_none_of X G z_tuple, PySem.W.mg_none_of X G z_zip, PySem.W.mg_of X G m_gcd⟩
  exact ⟨PySem.W.fnOf "law" "law" (defArgs s_law) (defBody s_law) (defScope s_law) .none kV39 dc39 pm39 an39 cd39 ct39, fun s v => .of_eq rfl, fun base _ _ => ok_law T⟩
theorem walk {l : PySem.W.OpenLaw} {q : Program} {loose : List Str} {XP : (Str → Option Value) → Heap → Prop} {YP : World → Heap → Prop} {d : DefRec} {K : Params → PySem.W.Frag} (hn : l.most = some 63) (hdf : d.params.defaults = [])
    (hY : ∀ (w : World) (h : Heap), YP w h → (K w.params).In h)
    (F : ∀ (w : World) (mg : Str → Option Value) (fa : Addr) (h : Heap), (K w.params).In h → h.Ns mainGlobals mg → mg d.name = some (.ref fa) →
      ∃ fd : FuncData, (∀ (s : Shared) (u : Value), BindsTo s fd ⟨[u], []⟩ [("script", u)]) ∧ ∀ base : Heap, (K w.params).In base → base.Ns mainGlobals mg → FnOk l.prog w (K w.params) mg base CX0 14 fa fd ["script"] (spLaw (K w.params))) :
    PySem.W.WalkO q loose XP YP l.row.toRowW d [] (fun f vs => PySem.call f vs) :=
  L2.walk_of (n := 63) (k := 14) (x := "script") (CX := fun _ => CX0) (sp := fun w => spLaw (K w.params)) hn (by decide) hdf ⟨rfl, by decide, by decide⟩ hY F (fun _ _ a ns hl _ hS => ⟨a, ns, rfl, hS, hl, fun _ => rfl⟩) fun _ _ _ _ _ z => z
end K35

set_option Elab.async false
set_option linter.all false
set_option maxRecDepth 100000
open PySem PySem.W PyProof.Rows
set_option maxRecDepth 100000 in
set_option maxHeartbeats 0 in
theorem PySem.Challenge.cw_nextguess_k35_means_holds : PySem.Challenge.rw_nextguess_k35_means.Holds := by
  w_on; o_law; k_head; (case hw => w_witness2)
  k_fill
  refine K35.walk (l := PySem.Challenge.rw_nextguess_k35_means) rfl rfl (fun w h Y => PySem.W.kIn_of Y) ?F
  case F =>
    intro w mg fa h KX G hmg
    refine' K35.all_mk KX G hmg ?a0 ?l0 ?c0 ?k0 ?a1 ?l1 ?c1 ?k1 ?a2 ?l2 ?c2 ?k2 ?a3 ?l3 ?c3 ?k3 ?a4 ?l4 ?c4 ?k4 ?a5 ?l5 ?c5 ?k5 ?a6 ?l6 ?c6 ?k6 ?a7 ?l7 ?c7 ?k7 ?a8 ?l8 ?c8 ?k8 ?a9 ?l9 ?c9 ?k9 ?a10 ?l10 ?c10 ?k10 ?a11 ?l11 ?c11 ?k11 ?a12 ?l12 ?c12 ?k12 ?a13 ?l13 ?c13 ?k13 ?a14 ?l14 ?c14 ?k14 ?a15 ?l15 ?c15 ?k15 ?a16 ?l16 ?c16 ?k16 ?a17 ?l17 ?c17 ?k17 ?a18 ?l18 ?c18 ?k18 ?a19 ?l19 ?c19 ?k19 ?a20 ?l20 ?c20 ?k20 ?a21 ?l21 ?c21 ?k21 ?a22 ?l22 ?c22 ?k22 ?a23 ?l23 ?c23 ?k23 ?a24 ?l24 ?c24 ?k24 ?a25 ?l25 ?c25 ?k25 ?a26 ?l26 ?c26 ?k26 ?a27 ?l27 ?c27 ?k27 ?a28 ?l28 ?c28 ?k28 ?a29 ?l29 ?c29 ?k29 ?a30 ?l30 ?c30 ?k30 ?a31 ?l31 ?c31 ?k31 ?a32 ?l32 ?c32 ?k32 ?a33 ?l33 ?c33 ?k33 ?a34 ?l34 ?c34 ?k34 ?a35 ?l35 ?c35 ?k35 ?a36 ?l36 ?c36 ?k36 ?a37 ?l37 ?c37 ?k37 ?a38 ?l38 ?c38 ?k38 ?a39 ?l39 ?c39 ?k39 ?gC_Rules ?pg_Rules ?hd_Rules ?po_Rules ?sa_Rules ?mk_Rules ?kC_Rules ?fn_Rules___init__ ?fn_Rules___len__ ?fn_Rules___eq__ ?no_Rules_size ?no_Rules_rows ?no_Rules__known ?is_Rules ?mo_Rules ?co_Rules ?nint_Rules ?nbool_Rules ?ntuple_Rules ?nstr_Rules ?nlist_Rules ?gC_InvalidGuess ?iC_InvalidGuess ?cl_InvalidGuess ?sa_InvalidGuess ?no_InvalidGuess ?tI_InvalidGuess ?kC_InvalidGuess ?ex_InvalidGuess ?ve_InvalidGuess ?ty_InvalidGuess ?ga_InvalidGuess ?gg_InvalidGuess ?hd_InvalidGuess ?mr_InvalidGuess ?mo_InvalidGuess ?co_InvalidGuess ?nint_InvalidGuess ?nbool_InvalidGuess ?ntuple_InvalidGuess ?nstr_InvalidGuess ?nlist_InvalidGuess ?si_InvalidGuess ?li_InvalidGuess ?ci2_InvalidGuess ?lc_InvalidGuess ?fi_InvalidGuess ?ff_InvalidGuess ?lx_InvalidGuess ?zs ?op ?ht ?sp1 ?sp2 ?z_abs ?z_all ?z_bool ?z_enumerate ?z_int ?z_isinstance ?z_len ?z_list ?z_range ?z_set ?z_sorted ?z_str ?z_tuple ?z_zip ?m_gcd ?rv_InvalidGuess ?sb_InvalidGuess
    (case gC_Rules => k_is)
    (case gC_InvalidGuess => k_is)
    (case a0 => k_is)
    (case l0 => k_is)
    (case c0 => k_is)
    (case k0 => k_is)
    (case a1 => k_is)
    (case l1 => k_is)
    (case c1 => k_is)
    (case k1 => k_is)
    (case a2 => k_is)
    (case l2 => k_is)
    (case c2 => k_is)
    (case k2 => k_is)
    (case a3 => k_is)
    (case l3 => k_is)
    (case c3 => k_is)
    (case k3 => k_is)
    (case a4 => k_is)
    (case l4 => k_is)
    (case c4 => k_is)
    (case k4 => k_is)
    (case a5 => k_is)
    (case l5 => k_is)
    (case c5 => k_is)
    (case k5 => k_is)
    (case a6 => k_is)
    (case l6 => k_is)
    (case c6 => k_is)
    (case k6 => k_is)
    (case a7 => k_is)
    (case l7 => k_is)
    (case c7 => k_is)
    (case k7 => k_is)
    (case a8 => k_is)
    (case l8 => k_is)
    (case c8 => k_is)
    (case k8 => k_is)
    (case a9 => k_is)
    (case l9 => k_is)
    (case c9 => k_is)
    (case k9 => k_is)
    (case a10 => k_is)
    (case l10 => k_is)
    (case c10 => k_is)
    (case k10 => k_is)
    (case a11 => k_is)
    (case l11 => k_is)
    (case c11 => k_is)
    (case k11 => k_is)
    (case a12 => k_is)
    (case l12 => k_is)
    (case c12 => k_is)
    (case k12 => k_is)
    (case a13 => k_is)
    (case l13 => k_is)
    (case c13 => k_is)
    (case k13 => k_is)
    (case a14 => k_is)
    (case l14 => k_is)
    (case c14 => k_is)
    (case k14 => k_is)
    (case a15 => k_is)
    (case l15 => k_is)
    (case c15 => k_is)
    (case k15 => k_is)
    (case a16 => k_is)
    (case l16 => k_is)
    (case c16 => k_is)
    (case k16 => k_is)
    (case a17 => k_is)
    (case l17 => k_is)
    (case c17 => k_is)
    (case k17 => k_is)
    (case a18 => k_is)
    (case l18 => k_is)
    (case c18 => k_is)
    (case k18 => k_is)
    (case a19 => k_is)
    (case l19 => k_is)
    (case c19 => k_is)
    (case k19 => k_is)
    (case a20 => k_is)
    (case l20 => k_is)
    (case c20 => k_is)
    (case k20 => k_is)
    (case a21 => k_is)
    (case l21 => k_is)
    (case c21 => k_is)
    (case k21 => k_is)
    (case a22 => k_is)
    (case l22 => k_is)
    (case c22 => k_is)
    (case k22 => k_is)
    (case a23 => k_is)
    (case l23 => k_is)
    (case c23 => k_is)
    (case k23 => k_is)
    (case a24 => k_is)
    (case l24 => k_is)
    (case c24 => k_is)
    (case k24 => k_is)
    (case a25 => k_is)
    (case l25 => k_is)
    (case c25 => k_is)
    (case k25 => k_is)
    (case a26 => k_is)
    (case l26 => k_is)
    (case c26 => k_is)
    (case k26 => k_is)
    (case a27 => k_is)
    (case l27 => k_is)
    (case c27 => k_is)
    (case k27 => k_is)
    (case a28 => k_is)
    (case l28 => k_is)
    (case c28 => k_is)
    (case k28 => k_is)
    (case a29 => k_is)
    (case l29 => k_is)
    (case c29 => k_is)
    (case k29 => k_is)
    (case a30 => k_is)
    (case l30 => k_is)
    (case c30 => k_is)
    (case k30 => k_is)
    (case a31 => k_is)
    (case l31 => k_is)
    (case c31 => k_is)
    (case k31 => k_is)
    (case a32 => k_is)
    (case l32 => k_is)
    (case c32 => k_is)
    (case k32 => k_is)
    (case a33 => k_is)
    (case l33 => k_is)
    (case c33 => k_is)
    (case k33 => k_is)
    (case a34 => k_is)
    (case l34 => k_is)
    (case c34 => k_is)
    (case k34 => k_is)
    (case a35 => k_is)
    (case l35 => k_is)
    (case c35 => k_is)
    (case k35 => k_is)
    (case a36 => k_is)
    (case l36 => k_is)
    (case c36 => k_is)
    (case k36 => k_is)
    (case a37 => k_is)
    (case l37 => k_is)
    (case c37 => k_is)
    (case k37 => k_is)
    (case a38 => k_is)
    (case l38 => k_is)
    (case c38 => k_is)
    (case k38 => k_is)
    (case a39 => k_is)
    (case l39 => k_is)
    (case c39 => k_is)
    (case k39 => k_is)
    (case pg_Rules => k_is)
    (case hd_Rules => k_is)
    (case po_Rules => k_is)
    (case sa_Rules => k_is)
    (case mk_Rules => k_is)
    (case kC_Rules => k_is)
    (case fn_Rules___init__ => k_is)
    (case fn_Rules___len__ => k_is)
    (case fn_Rules___eq__ => k_is)
    (case no_Rules_size => k_is)
    (case no_Rules_rows => k_is)
    (case no_Rules__known => k_is)
    (case is_Rules => k_is)
    (case mo_Rules => k_is)
    (case co_Rules => k_is)
    (case nint_Rules => k_is)
    (case nbool_Rules => k_is)
    (case ntuple_Rules => k_is)
    (case nstr_Rules => k_is)
    (case nlist_Rules => k_is)
    (case iC_InvalidGuess => k_is)
    (case cl_InvalidGuess => k_is)
    (case sa_InvalidGuess => k_is)
    (case no_InvalidGuess => k_is)
    (case tI_InvalidGuess => k_is)
    (case kC_InvalidGuess => k_is)
    (case ex_InvalidGuess => k_is)
    (case ve_InvalidGuess => k_is)
    (case ty_InvalidGuess => k_is)
    (case ga_InvalidGuess => k_is)
    (case gg_InvalidGuess => k_is)
    (case hd_InvalidGuess => k_is)
    (case mr_InvalidGuess => k_is)
    (case mo_InvalidGuess => k_is)
    (case co_InvalidGuess => k_is)
    (case nint_InvalidGuess => k_is)
    (case nbool_InvalidGuess => k_is)
    (case ntuple_InvalidGuess => k_is)
    (case nstr_InvalidGuess => k_is)
    (case nlist_InvalidGuess => k_is)
    (case si_InvalidGuess => (first | ks_is | k_is))
    (case li_InvalidGuess => k_is)
    (case ci2_InvalidGuess => k_is)
    (case lc_InvalidGuess => k_is)
    (case fi_InvalidGuess => (first | rfl | decide +kernel))
    (case ff_InvalidGuess => (first | rfl | decide +kernel))
    (case lx_InvalidGuess => k_is)
    (case zs => k_is)
    (case op => k_is)
    (case ht => (first | rfl | decide +kernel))
    (case sp1 => k_is)
    (case sp2 => k_is)
    (case z_abs => k_is)
    (case z_all => k_is)
    (case z_bool => k_is)
    (case z_enumerate => k_is)
    (case z_int => k_is)
    (case z_isinstance => k_is)
    (case z_len => k_is)
    (case z_list => k_is)
    (case z_range => k_is)
    (case z_set => k_is)
    (case z_sorted => k_is)
    (case z_str => k_is)
    (case z_tuple => k_is)
    (case z_zip => k_is)
    (case m_gcd => k_is)
    (case rv_InvalidGuess => (first | decide +kernel | rfl | k_is))
    (case sb_InvalidGuess => k_is)
