import PyProof.Rows.All
import Wide.All
import OpenK.AllK
import Wide.FinOn
import KE.KExcSuper
import HandS.ForMost
import HandS.ForExc
import HandS.ExcInit
import HandS.ExcSuper
import HandS.ExcField
import HandS.ExcIs
import HandS.HotCalls
import HandS.IsInst
import HandS.Gcd
import HandS.Wide
import HandS.Style
import HandS.DictComp
import HandS.TupSets
import PyProof.WalksMore
import HandS.SortOrd
import HandS.OwnEq
import OpenK.KOps
import HandS.TupAny
import HandS.Small
import HandS.SortInts
import HandS.More
import PySem.Challenge.RW_nextguess_k60_points_of_kinds
set_option Elab.async false
set_option linter.all false
set_option maxRecDepth 100000
set_option maxHeartbeats 2000000
/-! An own exception class under a class under ValueError, whose __init__ is: super().__init__("text"); self.f = f. -/
namespace PySem
namespace SupX_value
open PySem.W PySem.Calls PyProof.Rows PySem.HandSPX
/-! ### the text of such an __init__ -/
def iA (p1 p2 : Pos) : Arguments := { posonlyargs := [], args := [{ arg := "self", annotation := none, pos := p1 }, { arg := "value", annotation := none, pos := p2 }], vararg := none, kwonlyargs := [], kw_defaults := [], kwarg := none, defaults := [] }
def iB (m : Str) (k : Nat) (p0 p1 p2 p3 p4 p5 q1 q2 q3 q4 : Pos) : List Stmt :=
  [.Expr (.Call (.Attribute (.Call (.Name "super" p0) [] [] p1) "__init__" p2) [.Constant (.str m) k p3] [] p4) p5,
   .Assign [.Attribute (.Name "self" q1) "value" q2] (.Name "value" q3) q4]
def iS : Scope := { kind := .function, names := [(PySem.Str.ofString "self", .local), (PySem.Str.ofString "value", .local), (PySem.Str.ofString "__class__", .free), (PySem.Str.ofString "super", .globalImplicit)], isGenerator := false, isCoroutine := false, more := [] }
/-- what the written part says of such a class at C, its __init__ at fI -/
structure XTxt (P : Program) (K : Frag) (mg : Str → Option Value) (x : Str) (C fI : Addr) : Prop where
  gC : mg x = some (.ref C)
  nm : (x == ("__debug__" : Str)) = false
  sup : mg "super" = none
  cls : ∃ nm q N bs bm sn sub ab col dd k0 k1 k2 k3 k5, K.lookup C = some (excClassObj nm q C N bs bm true sn sub ab col dd k0 k1 k2 k3 k5 "ValueError.__new__") ∧ refsVE bm = true
  sa : findIn K (.ref C) "__setattr__" = some (some (.builtin "object.__setattr__"))
  noN : findIn K (.ref C) "value" = some none
  iC : findIn K (.ref C) "__init__" = some (some (.ref fI))
  tC : typeIn K (.ref fI) = some (.type "function")
  kC : keepIn K (.ref C) = true
  exC : subIn K (.ref C) (.type "BaseException") = some true
  veC : subIn K (.ref C) (.type "ValueError") = some true
  tyC : typeIn K (.ref C) = some (.type "type")
  te : exmOne K (.ref C) (.ref C) = some true
  xf : L2.XfC K C
  sIn : ks_superIn K C C "__init__" = some (some (.builtin "ValueError.__init__"))
  opq : nsIn K cStatics "thirdparty.any" = some none
  mro : mroIn K C (.ref C) = some true
  htop : (P.main.scope.names.lookup ("super" : Str)).isSome = false
  fn : ∃ (oc : Value) (od : Option Addr) (doc pm : Value) (an : Option Addr) (cda cc : Addr) (ct : Value) (osl : Array (Option Value)) (qual m : Str) (k : Nat) (r1 r2 p0 p1 p2 p3 p4 p5 q1 q2 q3 q4 : Pos)
      (ccl cl : Value) (cdd cld : Option Addr) (ccs csl : Array (Option Value)) (vs : Array Value) (file : Str) (tf : Tok),
    K.lookup fI = some ⟨oc, od, .func (ksFn "__init__" qual (iA r1 r2) (iB m k p0 p1 p2 p3 p4 p5 q1 q2 q3 q4) iS .none .none doc pm an (.ref cda) ct cc), osl⟩ ∧ codeIn K (.ref cda) qual = true ∧ (p2.endLine == p4.line) = true ∧
    K.lookup cda = some ⟨ccl, cdd, .fields vs, ccs⟩ ∧ vs[2]? = some (.str file tf) ∧ ((P.main.file : Str) == file) = true ∧ K.lookup cc = some ⟨cl, cld, .cell (some (.ref C)), csl⟩
/-- what __init__ leaves of a fresh exception at x -/
structure InitEnd (h h' : Heap) (x C dx : Addr) (v : Value) : Prop where
  keep : ∀ b o, b ≠ x → h.get? b = some o → h'.get? b = some o
  obj : ∃ t1 : Addr, h'.get? x = some { cls := .ref C, dict := some dx, data := .fields #[.ref t1, .none, .none, .none, .bool false, .none] }
  dbig : h.objs.size ≤ dx
  dne : dx ≠ x
  ns : h'.Ns1 dx (fun y => if y = "value" then some v else none)
theorem kept_but {K : Frag} {h h' : Heap} {x : Addr} (X : K.In h) (hx : K.lookup x = none) (k : ∀ b o, b ≠ x → h.get? b = some o → h'.get? b = some o) : K.In h' := fun a o e =>
  k a o (fun z => by rw [z, hx] at e; cases e) (X a o e)
theorem two_size (v : Value) : [v].length ≤ sizeLine := by
  rw [sizeLine_eq]
  exact (by decide : 1 ≤ 16777216)
section
variable {prog : Program} {w : World} {A : Around} {E : Value → Shared → Prop} {h : Heap} {g : Array GenState} {d : Drawn} {t : Nat} {os : OsState}
variable {nm q : Str} {C N : Addr} {bs bm : List Value} {hdct : Bool} {sn : List Str} {sub : List Value} {ab : Bool} {col : Option Bool} {dd : Option Addr} {k0 k1 k2 k3 k5 : Option Value}
/-- the bound ValueError.__init__, called -/
theorem call_bw {u e t0 : Addr} {rest : List Value} {Q : Value → Shared → Prop}
    (hC : h.get? C = some (excClassObj nm q C N bs bm hdct sn sub ab col dd k0 k1 k2 k3 k5 "ValueError.__new__")) (he : h.get? e = some (excO C t0)) (hu : h.get? u = some (kxs_mw "ValueError.__init__" e)) (hrest : rest.length ≤ sizeLine)
    (hq : ∀ h' t1, (∀ b o, b ≠ e → h.get? b = some o → h'.get? b = some o) → h'.get? e = some (excO C t1) → Q .none ⟨h', g, d, t, os⟩) :
    wpAny (model prog w) A (call (.ref u) rest) Q E ⟨h, g, d, t, os⟩ := by
  refine wpAny_call (codeAny_of_tree ?_)
  show wpAny _ A.in1 (callAny (.ref u) ⟨rest, []⟩) _ _ _
  simp only [callAny]
  refine wpAny_bind (wpAny_load hu ?_)
  simp only [kxs_mw, show (Value.type "method-wrapper" == Value.type "method" || Value.type "method-wrapper" == Value.type "builtin_function_or_method" || Value.type "method-wrapper" == Value.type "method-wrapper") = true by decide, if_true]
  refine W.KFB.if_so (by decide) ?_
  refine wpAny_bind (ESX.check_bound F.excBase_ValueError hC he rfl ?_)
  refine wpAny_bind (wpAny_pure (wpAny_pure ?_))
  refine ⟨Code.quiet_builtin _ (by decide +kernel), codeAny_builtin F.excBase_ValueError.initEntry ?_⟩
  rw [Around.under_plainId F.excBase_ValueError.init.plain _]
  wp_walk
  refine hq _ h.objs.size (fun b o hb ho => ?_) ?_
  · rw [Heap.get?_update_other _ _ (Ne.symm hb)]
    exact Heap.get?_push_of_some _ ho
  · rw [Heap.get?_update_self _ (Heap.get?_push_of_some _ he) rfl]
    rfl
end
section
variable {prog : Program} {w : World} {A : Around} {R : Result → Shared → Prop} {s : Shared} {K : Frag} {mg : Str → Option Value} {x : Str} {C fI : Addr}
theorem sup_init (T : XTxt prog K mg x C fI) {e t0 : Addr} {v : Value} (X : K.In s.heap) (hlim : s.heap.NoLimit) (hg : s.heap.Ns mainGlobals mg) (hb : ∃ mb, s.heap.Ns builtinsNs mb ∧ ∀ y : Str, y ≠ "__name__" → mb y = bootBuiltins y)
    (hx : s.heap.get? e = some (excO C t0)) (hnx : K.lookup e = none) (hroom : A.depth < recursionLimit)
    (hq : ∀ h' tk dx, InitEnd s.heap h' e C dx v → R (.ok (.ret .none)) { s with heap := h', toks := tk }) :
    codeAny (model prog w) A (.call (.ref fI) ⟨[.ref e, v], []⟩) R s := by
  obtain ⟨oc, od, doc, pm, an, cda, cc, ct, osl, qual, m, k, r1, r2, p0, p1, p2, p3, p4, p5, q1, q2, q3, q4, ccl, cl, cdd, cld, ccs, csl, vs, file, tf, ho, hcd, hln, hcode, hvs, hfile, hcell⟩ := T.fn
  obtain ⟨nm, q, N, bs, bm, sn, sub, ab, col, dd, k0, k1, k2, k3, k5, hC, hbm⟩ := T.cls
  obtain ⟨mb, hb1, hb2⟩ := hb
  have hcl : clsIn K C = some { name := nm, bases := bs, mro := .ref C :: bm, ns := N, qualname := q, hasDict := true, slotNames := sn, subclasses := sub, abstract := ab, collection := col, hasDel := false } := by unfold clsIn; rw [hC] <;> rfl
  refine ks_codeAny_call_defAt (fd := ksFn "__init__" qual (iA r1 r2) (iB m k p0 p1 p2 p3 p4 p5 q1 q2 q3 q4) iS .none .none doc pm an (.ref cda) ct cc) (body := iB m k p0 p1 p2 p3 p4 p5 q1 q2 q3 q4) (binds := [("self", .ref e), ("value", v)])
    hroom (X _ _ ho) rfl hlim (codeRec_of X hcd) rfl (BindsTo.of_eq ?_) ?_ ?_ (fun h₁ hns hk₁ => ?_) rfl rfl rfl
  · first | rfl | with_unfolding_all rfl
  · intro y hy
    have hy2 : y ∈ [(PySem.Str.ofString "self", NameKind.local), (PySem.Str.ofString "value", .local), (PySem.Str.ofString "__class__", .free), (PySem.Str.ofString "super", .globalImplicit)] := hy
    simp only [List.mem_cons, List.not_mem_nil, or_false] at hy2
    rcases hy2 with rfl | rfl | rfl | rfl <;> intro z <;> cases z
  · intro y hy
    simp only [List.mem_cons, List.not_mem_nil, or_false] at hy
    rcases hy with rfl | rfl <;> rfl
  -- the frame: self, the field's value
  have X₁ : K.In h₁ := X.keeps hk₁
  have hx₁ := hk₁ _ _ hx
  have hC₁ := X₁ _ _ hC
  show _root_.PySem.wpAt _ _ _ (execs (iB m k p0 p1 p2 p3 p4 p5 q1 q2 q3 q4) _) _ _ _
  refine ks_wpAt_execs_cons (ks_wpAt_Expr_any (ks_wpAt_MethodCall (pl := (do return (← importBound (.Call (.Name "super" p0) [] [] p1) (callEnv
          (ksFn "__init__" qual (iA r1 r2) (iB m k p0 p1 p2 p3 p4 p5 q1 q2 q3 q4) iS .none .none doc pm an (.ref cda) ct cc) s.heap.objs.size fI)).getD true)) ?_ ?he) rfl rfl)
  case he =>
    rw [eval]
    unfold methodCall methodCallPos
    simp only [hln, Bool.or_true, if_true, pure_bind]
    rfl
  refine ks_wpAt_super_base (f := fI) (cc := cda) rfl rfl (by decide +kernel) rfl (X₁ _ _ ho) rfl rfl rfl (X₁ _ _ hcode) rfl hvs hfile T.htop ?_
  refine ks_loadName_global rfl rfl (loadGlobal_builtin (hg.keeps hk₁) T.sup (hb1.keeps hk₁) ((hb2 _ (by decide +kernel)).trans (show bootBuiltins "super" = some (.type "super") by first | rfl | decide +kernel | kernel_rfl)) ⟨rfl, ?_⟩)
  refine wpAny_loadName_free rfl rfl rfl ⟨_, X₁ _ _ hcell, rfl⟩ ?_
  refine wpAny_loadName_local (v := .ref e) rfl rfl hns (by rfl) ?_
  refine ks_wpAny_isType_cls hC₁ rfl ⟨rfl, ?_⟩
  refine ks_wpAny_call_super hC₁ rfl hx₁ rfl (fun c z => nomatch z) (looks_mroIn X₁ T.mro) (fun h₂ e₂ k₂ => ?_)
  have X₂ : K.In h₂ := X₁.keeps k₂
  have hx₂ := k₂ _ _ hx₁
  have hC₂ := X₂ _ _ hC
  have I₂ : InstAt h₂ e (excO C t0) C none := ⟨hx₂, rfl, rfl, trivial⟩
  have hI : Looks (model prog w) h₂ (isInstance (.ref e) (.type "ValueError")) true := I₂.type.andThen (looks_subIn X₂ T.veC)
  have hsi : alongIn K "__init__" (((Value.ref C :: bm).dropWhile (· != .ref C)).drop 1) = some (some (.builtin "ValueError.__init__")) := by
    have z := T.sIn
    unfold ks_superIn at z
    rw [hcl] at z
    exact z
  have hmro : Looks (model prog w) h₂ (mroOf (.ref C)) (Value.ref C :: bm) := fun A' Q' E' s' k' q' => wpAny_bind ((looks_clsIn X₂ hcl) A' _ E' s' k' (wpAny_pure q'))
  refine kxs_getMethod kxs_ValueError e₂ (looks_opaque X₂ T.opq) hmro rfl X₂ hsi hI (ks_ne X₂ I₂ hcl) (by decide +kernel) ?_
  have hu : (h₂.push (kxs_mw "ValueError.__init__" e)).get? h₂.objs.size = some (kxs_mw "ValueError.__init__" e) := by heap_get
  have k₃ : ∀ b o, h₂.get? b = some o → (h₂.push (kxs_mw "ValueError.__init__" e)).get? b = some o := fun b o z => Heap.get?_push_of_some _ z
  refine kxs_callWith (i := "ValueError.__init__") (x := e) (by rfl) ?_
  refine evalArgs_plain (spliced_cons ?_)
  show wpAny _ _ (eval (.Constant (.str m) k p3) _) _ _ _
  refine Constant_str (spliced_nil ⟨hu, ?_⟩)
  refine call_bw (k₃ _ _ hC₂) (k₃ _ _ hx₂) hu (two_size _) (fun h₄ t4 k₄ hx₄ => ?_)
  have k₅ : ∀ b o, b ≠ e → s.heap.get? b = some o → h₄.get? b = some o := fun b o z y => k₄ b o z (k₃ _ _ (k₂ _ _ (hk₁ _ _ y)))
  have X₄ : K.In h₄ := kept_but (X₂.keeps k₃) hnx k₄
  have hLe : s.heap.objs.size ≠ e := Nat.ne_of_gt (Heap.lt_size hx)
  have hns₄ : h₄.Ns s.heap.objs.size (fun y => List.lookup y ([(("self" : Str), Value.ref e), (("value" : Str), v)] : List (Str × Value)).reverse) := by
    obtain ⟨oL, es, ep, hL, r⟩ := hns
    exact ⟨oL, es, ep, k₄ _ _ hLe (k₃ _ _ (k₂ _ _ hL)), r⟩
  show wpAt _ _ _ (execs [.Assign [.Attribute (.Name "self" q1) "value" q2] (.Name "value" q3) q4] _) _ _ _
  refine wpAt_of_wpAny (wpAny_execs_cons (plainObj_wpAny_Assign_Attribute ?_))
  refine ESX.ldL (v := v) hns₄ (by rfl) (ESX.ldL (v := .ref e) hns₄ (by rfl) ?_)
  refine set_plain X₄ (ox := excO C t4) (od := none) ⟨hx₄, rfl, rfl, trivial⟩ T.sa ?_
  refine exc_osa X₄ hx₄ hcl (show refsVE (.ref C :: bm) = true from hbm) rfl T.noN (fun h₆ tk₆ dx k₆ dn dne hx₆ hn₆ => ?_)
  refine wpAny_execs_nil (hq h₆ tk₆ dx ⟨fun b o hb y => k₆ b o hb (k₅ b o hb y), ⟨t4, hx₆⟩, ?_, dne, hn₆⟩)
  have z : s.heap.objs.size < h₄.objs.size := hns₄.lt
  exact Nat.le_of_lt (Nat.lt_of_lt_of_le z dn)
/-- a made exception -/
structure OwnMade (h h' : Heap) (e C d : Addr) (v : Value) : Prop where
  keep : ∀ b o, h.get? b = some o → h'.get? b = some o
  new : h.objs.size ≤ e
  obj : ∃ t1 : Addr, h'.get? e = some { cls := .ref C, dict := some d, data := .fields #[.ref t1, .none, .none, .none, .bool false, .none] }
  dbig : h.objs.size ≤ d
  dne : d ≠ e
  ns : h'.Ns1 d (fun y => if y = "value" then some v else none)
theorem sup_made (T : XTxt prog K mg x C fI) {v : Value} (X : K.In s.heap) (hlim : s.heap.NoLimit) (hg : s.heap.Ns mainGlobals mg) (hb : ∃ mb, s.heap.Ns builtinsNs mb ∧ ∀ y : Str, y ≠ "__name__" → mb y = bootBuiltins y) (hroom : A.depth + 1 < recursionLimit)
    (hq : ∀ h' tk e d, OwnMade s.heap h' e C d v → R (.ok (.ret (.ref e))) { s with heap := h', toks := tk }) :
    codeAny (model prog w) A (.call (.ref C) ⟨[v], []⟩) R s := by
  obtain ⟨nm, q, N, bs, bm, sn, sub, ab, col, dd, k0, k1, k2, k3, k5, hC, hbm⟩ := T.cls
  obtain ⟨mb, hb1, hb2⟩ := hb
  obtain ⟨hp, g, dr, tk, os⟩ := s
  have k : ∀ b o, hp.get? b = some o → ((hp.push (kdv_tup [v])).push (excO C hp.objs.size)).get? b = some o := fun b o e => Heap.get?_push_of_some _ (Heap.get?_push_of_some _ e)
  have hget : ((hp.push (kdv_tup [v])).push (excO C hp.objs.size)).get? (hp.objs.size + 1) = some (excO C hp.objs.size) := by heap_get
  have hnx : K.lookup (hp.objs.size + 1) = none := by
    cases e : K.lookup (hp.objs.size + 1) with
    | none => rfl
    | some o =>
      have z : hp.get? (hp.objs.size + 1) = some o := X _ _ e
      exact absurd (Nat.lt_of_succ_lt (Heap.lt_size z)) (Nat.lt_irrefl _)
  refine call_own F.excBase_ValueError (fun X => refsVE_contains X bm hbm) (X _ _ hC) (looks_findIn X T.iC) (fun self => bind_fn X self T.tC) (two_size v) ?_
  refine sup_init (s := ⟨(hp.push (kdv_tup [v])).push (excO C hp.objs.size), g, dr, tk, os⟩) T (X.keeps k) (hlim.keeps k) (hg.keeps k) ⟨mb, hb1.keeps k, hb2⟩ hget hnx ?_ fun h' tk' dx M => ?_
  · show A.depth + 1 < recursionLimit
    exact hroom
  · obtain ⟨k', hx, dn, dne, hns⟩ := M
    have old : ∀ b o, hp.get? b = some o → h'.get? b = some o := fun b o e => k' b o (Nat.ne_of_lt (Nat.lt_succ_of_lt (Heap.lt_size e))) (k b o e)
    have z : hp.objs.size + 1 + 1 ≤ dx := by
      first
        | (simpa only [Heap.size_push] using dn)
        | exact dn
        | (have q := dn; rw [Heap.size_push, Heap.size_push] at q; exact q)
    exact ⟨rfl, hq h' tk' (hp.objs.size + 1) dx ⟨old, Nat.le_succ _, hx, Nat.le_trans (Nat.le_trans (Nat.le_succ _) (Nat.le_succ _)) z, dne, hns⟩⟩
end
end SupX_value
end PySem

set_option Elab.async false
set_option linter.all false
set_option maxRecDepth 100000
set_option maxHeartbeats 2000000

namespace L2
open PySem PySem.Spec PyProof.Rows
theorem relO_one {f : Str} {v : V} {v' : Value} (r : RelV v v') (g : Str) : RelO (List.lookup g [(f, v)]) (if g = f then some v' else none) := by
  by_cases hw : g = f
  · subst hw
    rw [if_pos rfl]
    have q : List.lookup g [(g, v)] = some v := by simp [List.lookup]
    rw [q]
    exact r
  · rw [if_neg hw]
    have qw : (g == f) = false := by simpa using hw
    have q2 : List.lookup g [(f, v)] = none := by simp [List.lookup, qw]
    rw [q2]
    trivial
/-- C(e), an exception that is made -/
def tMkX (C : Addr) (f : Str) (ta : TA) : St → Hp → XK → Prop := fun σ H Q => ta σ H fun vs H1 => ∃ v, vs = [v] ∧ ∀ d, H1 d = none → Q (.ref C) (some d) (upd H1 d (.xd [(f, v)]))
/-- C(e) as a value: the exception at a, its dict at d -/
def tExV (C : Addr) (f : Str) (ta : TA) : TE := fun σ H Q => ta σ H fun vs H1 => ∃ v, vs = [v] ∧ ∀ a d, H1 a = none → H1 d = none → d ≠ a → Q (.ref a) (upd (upd H1 d (.xd [(f, v)])) a (exo a C (some d)))
end L2
namespace L2
namespace Sup_value
open PySem PySem.Spec PyProof.Rows PySem.SupX_value
section
variable {X : Cx} {C fI : Addr} {x : Str}
theorem gblt {pins : List (Addr × Obj)} {σ : St} {H : Hp} {s : Shared} (I : Inv X pins σ H s) : ∃ mb, s.heap.Ns builtinsNs mb ∧ ∀ y : Str, y ≠ "__name__" → mb y = bootBuiltins y := by
  obtain ⟨mb, h1, h2⟩ := I.mod.blt
  exact ⟨mb, h1.keeps I.bk, h2⟩
theorem pmk_sup {a : Expr} {ta : TA} {p pos : Pos} {k : Nat} (T : XTxt X.prog X.K X.mg x C fI) (hr : Room k X.A) (ha : PA X [a] ta) (hg : Gl X x := by rfl)
    (he : starEach (a :: []) X.env = (false, eval a X.env) :: starEach [] X.env := by rfl) (hpl : (backTo pos (starEach [] X.env)).any (·.1) = false := by rfl) :
    PMk X (.Call (.Name x p) [a] [] pos) (tMkX C "value" ta) := by
  intro pins s σ H Q I h
  refine wpAny_Call_Name_kw (ld_glob I hg T.gC ?_ T.nm)
  refine PySem.W.callWith_K (h₀ := X.base) I.ok.mod.kin T.kC (thn (ha.run pos pins s σ H _ I h) fun us s1 hh => ?_) he hpl
  obtain ⟨vs, H1, I1, r1, v, ev, q1⟩ := hh
  subst ev
  refine ⟨I1.kIn, ?_⟩
  cases r1 with
  | cons rv rn =>
    rename_i v' us'
    cases rn
    show wpAny _ _ (call (.ref C) [v']) _ _ _
    have hlim := I1.nolimit
    have hgl := I1.mod.glob.keeps I1.bk
    have hbl := gblt I1
    obtain ⟨hp, g, dr, tk, os⟩ := s1
    refine wpAny_call (sup_made T I1.kIn hlim hgl hbl (by have := hr.dp; omega) fun h' tk' e d M => ?_)
    show MkP X pins σ Q (.ref e) ⟨h', g, dr, tk', os⟩
    obtain ⟨t1, hoe⟩ := M.obj
    have hns := M.ns
    obtain ⟨G', g1, g2⟩ := restrict h' fun b => decide (b ≠ e)
    have gk : ∀ b, b ≠ e → G'.get? b = h'.get? b := fun b hb => g1 b (decide_eq_true hb)
    have ge : G'.get? e = none := g2 e (by simp)
    have old : ∀ b o, hp.get? b = some o → G'.get? b = some o := fun b o q => (gk b (Nat.ne_of_lt (Nat.lt_of_lt_of_le (Heap.lt_size q) M.new))).trans (M.keep b o q)
    have ob : ObjOk X.prog X.w (upd H1 d (.xd [(("value" : Str), v)])) G' d (.xd [(("value" : Str), v)]) :=
      ⟨_, hns.at (fun o q => (gk d M.dne).trans q), fun f => relO_one rv f⟩
    have J : Inv X pins σ (upd H1 d (.xd [(("value" : Str), v)])) ⟨G', g, dr, tk', os⟩ := I1.laid (t' := tk') old M.dbig ob
    refine ⟨e, _, _, ⟨G', g, dr, tk', os⟩, _, .ref C, some d, rfl, J, fun b o q => ?_, ge, hoe, ⟨rfl, rfl⟩, rfl, rfl, ?_, rfl, I1.bare, raises_own T.exC T.tyC, q1 d (I1.hok.fresh M.dbig)⟩
    · by_cases hb : b = e
      · have q' : G'.get? b = some o := q
        rw [hb, ge] at q'; cases q'
      · exact (gk b hb).symm.trans q
    · rw [upd_ne (Ne.symm M.dne)]
      exact I1.hok.fresh M.new
/-- raise C(e) -/
theorem ps_raiseSup {a : Expr} {ta : TA} {W : WX} {p pos pos2 : Pos} {k : Nat} (hc : X.calm = true) (T : XTxt X.prog X.K X.mg x C fI) (hr : Room k X.A) (tk : Takes X W) (ha : PA X [a] ta) (hg : Gl X x := by rfl)
    (he : starEach (a :: []) X.env = (false, eval a X.env) :: starEach [] X.env := by rfl) (hpl : (backTo pos (starEach [] X.env)).any (·.1) = false := by rfl) :
    PS X (.Raise (some (.Call (.Name x p) [a] [] pos)) none pos2) (fun _ σ H => tMkX C "value" ta σ H fun cls d H' => W cls d σ H') := ps_raise hc tk (pmk_sup T hr ha hg he hpl)
theorem pmk_supN {a : Expr} {ta : TA} {p pos : Pos} {k : Nat} (T : XTxt X.prog X.K X.mg x C fI) (hr : Room k X.A) (ha : PA X [a] ta) (hg : Gl X x := by rfl)
    (he : starEach (a :: []) X.env = (false, eval a X.env) :: starEach [] X.env := by rfl) (hpl : (backTo pos (starEach [] X.env)).any (·.1) = false := by rfl) :
    L2N.PMk X (.Call (.Name x p) [a] [] pos) (tMkX C "value" ta) := by
  intro pins s σ H Q I h
  refine wpAny_Call_Name_kw (ld_glob I hg T.gC ?_ T.nm)
  refine PySem.W.callWith_K (h₀ := X.base) I.ok.mod.kin T.kC (thn (ha.run pos pins s σ H _ I h) fun us s1 hh => ?_) he hpl
  obtain ⟨vs, H1, I1, r1, v, ev, q1⟩ := hh
  subst ev
  refine ⟨I1.kIn, ?_⟩
  cases r1 with
  | cons rv rn =>
    rename_i v' us'
    cases rn
    show wpAny _ _ (call (.ref C) [v']) _ _ _
    have hlim := I1.nolimit
    have hgl := I1.mod.glob.keeps I1.bk
    have hbl := gblt I1
    obtain ⟨hp, g, dr, tk, os⟩ := s1
    refine wpAny_call (sup_made T I1.kIn hlim hgl hbl (by have := hr.dp; omega) fun h' tk' e d M => ?_)
    show L2N.MkP X pins σ Q (.ref e) ⟨h', g, dr, tk', os⟩
    obtain ⟨t1, hoe⟩ := M.obj
    have hns := M.ns
    obtain ⟨G', g1, g2⟩ := restrict h' fun b => decide (b ≠ e)
    have gk : ∀ b, b ≠ e → G'.get? b = h'.get? b := fun b hb => g1 b (decide_eq_true hb)
    have ge : G'.get? e = none := g2 e (by simp)
    have old : ∀ b o, hp.get? b = some o → G'.get? b = some o := fun b o q => (gk b (Nat.ne_of_lt (Nat.lt_of_lt_of_le (Heap.lt_size q) M.new))).trans (M.keep b o q)
    have ob : ObjOk X.prog X.w (upd H1 d (.xd [(("value" : Str), v)])) G' d (.xd [(("value" : Str), v)]) :=
      ⟨_, hns.at (fun o q => (gk d M.dne).trans q), fun f => relO_one rv f⟩
    have J : Inv X pins σ (upd H1 d (.xd [(("value" : Str), v)])) ⟨G', g, dr, tk', os⟩ := I1.laid (t' := tk') old M.dbig ob
    refine ⟨e, _, _, ⟨G', g, dr, tk', os⟩, _, .ref C, some d, rfl, J, fun b o q => ?_, ge, hoe, ⟨rfl, rfl, fun vs e => by cases e; rfl⟩, rfl, rfl, ?_, rfl, I1.bare, raises_own T.exC T.tyC, q1 d (I1.hok.fresh M.dbig)⟩
    · by_cases hb : b = e
      · have q' : G'.get? b = some o := q
        rw [hb, ge] at q'; cases q'
      · exact (gk b hb).symm.trans q
    · rw [upd_ne (Ne.symm M.dne)]
      exact I1.hok.fresh M.new
/-- raise C(e) -/
theorem ps_raiseSupN {a : Expr} {ta : TA} {W : WX} {p pos pos2 : Pos} {k : Nat} (hc : X.calm = true) (T : XTxt X.prog X.K X.mg x C fI) (hr : Room k X.A) (tk : L2N.Takes X W) (ha : PA X [a] ta) (hg : Gl X x := by rfl)
    (he : starEach (a :: []) X.env = (false, eval a X.env) :: starEach [] X.env := by rfl) (hpl : (backTo pos (starEach [] X.env)).any (·.1) = false := by rfl) :
    PS X (.Raise (some (.Call (.Name x p) [a] [] pos)) none pos2) (fun _ σ H => tMkX C "value" ta σ H fun cls d H' => W cls d σ H')   := L2N.ps_raise hc tk (pmk_supN T hr ha hg he hpl)
/-- C(e) as a value -/
theorem pe_supV {a : Expr} {ta : TA} {p pos : Pos} {k : Nat} (T : XTxt X.prog X.K X.mg x C fI) (hr : Room k X.A) (ha : PA X [a] ta) (hg : Gl X x := by rfl)
    (he : starEach (a :: []) X.env = (false, eval a X.env) :: starEach [] X.env := by rfl) (hpl : (backTo pos (starEach [] X.env)).any (·.1) = false := by rfl) :
    PE X (.Call (.Name x p) [a] [] pos) (tExV C "value" ta) := by
  refine ⟨fun pins s σ H Q I h => ?_⟩
  refine wpAny_Call_Name_kw (ld_glob I hg T.gC ?_ T.nm)
  refine PySem.W.callWith_K (h₀ := X.base) I.ok.mod.kin T.kC (thn (ha.run pos pins s σ H _ I h) fun us s1 hh => ?_) he hpl
  obtain ⟨vs, H1, I1, r1, v, ev, q1⟩ := hh
  subst ev
  refine ⟨I1.kIn, ?_⟩
  cases r1 with
  | cons rv rn =>
    rename_i v' us'
    cases rn
    show wpAny _ _ (call (.ref C) [v']) _ _ _
    have hlim := I1.nolimit
    have hgl := I1.mod.glob.keeps I1.bk
    have hbl := gblt I1
    obtain ⟨hp, g, dr, tk, os⟩ := s1
    refine wpAny_call (sup_made T I1.kIn hlim hgl hbl (by have := hr.dp; omega) fun h' tk' e d M => ?_)
    obtain ⟨t1, hoe⟩ := M.obj
    have hne : H1 e = none := I1.hok.fresh M.new
    have hnd : H1 d = none := I1.hok.fresh M.dbig
    have nde : ∀ {b : Addr} {o : Obj}, hp.get? b = some o → b ≠ e := fun {b o} z => Nat.ne_of_lt (Nat.lt_of_lt_of_le (Heap.lt_size z) M.new)
    have ndd : ∀ {b : Addr} {o : Obj}, hp.get? b = some o → b ≠ d := fun {b o} z => Nat.ne_of_lt (Nat.lt_of_lt_of_le (Heap.lt_size z) M.dbig)
    have two : ∀ {b : Addr} {o : HO}, H1 b = some o → upd (upd H1 d (.xd [(("value" : Str), v)])) e (exo e C (some d)) b = some o := fun {b o} z => by
      rw [upd_ne (ne_of_none z hne), upd_ne (ne_of_none z hnd)]
      exact z
    have U : Un X.fs [] H1 (upd (upd H1 d (.xd [(("value" : Str), v)])) e (exo e C (some d))) hp h' := {
      keep := fun b u z _ _ _ => M.keep b u z
      slot := fun b u z _ _ _ => ⟨u.slots, M.keep b u z⟩
      free := fun b u z n _ => by rw [upd_ne (nde z), upd_ne (ndd z)]; exact n
      there := fun b u z _ => ⟨u, M.keep b u z⟩
      tups := fun b xs z => two z
      frzs := fun b u xs z => two z
      tbls := fun b ps z => ⟨#[], by rw [two z]; simp⟩ }
    have ok2 : HOk X.prog X.w (upd (upd H1 d (.xd [(("value" : Str), v)])) e (exo e C (some d))) h' := fun b o z => by
      by_cases hb : b = e
      · subst hb
        rw [upd_same] at z
        cases z
        exact exo_ok hoe
      · rw [upd_ne hb] at z
        by_cases hd : b = d
        · subst hd
          rw [upd_same] at z
          cases z
          exact ⟨_, M.ns, fun f => relO_one rv f⟩
        · rw [upd_ne hd] at z
          exact (I1.hok b o z).stay (fun c u _ q => M.keep c u q) (fun c q => two q) fun c xs q => two q
    have J2 : Inv X pins σ (upd (upd H1 d (.xd [(("value" : Str), v)])) e (exo e C (some d))) ⟨h', g, dr, tk', os⟩ := I1.un (t' := tk') U ok2
    exact ⟨.ref e, _, J2, rfl, q1 e d hne hnd M.dne⟩
end
end Sup_value
end L2

set_option Elab.async false
set_option linter.all false
set_option maxRecDepth 100000
set_option maxHeartbeats 2000000
/-! An own exception class under a class under ValueError, whose __init__ is: super().__init__("text"); self.f = f. -/
namespace PySem
namespace SupX_what
open PySem.W PySem.Calls PyProof.Rows PySem.HandSPX
/-! ### the text of such an __init__ -/
def iA (p1 p2 : Pos) : Arguments := { posonlyargs := [], args := [{ arg := "self", annotation := none, pos := p1 }, { arg := "what", annotation := none, pos := p2 }], vararg := none, kwonlyargs := [], kw_defaults := [], kwarg := none, defaults := [] }
def iB (m : Str) (k : Nat) (p0 p1 p2 p3 p4 p5 q1 q2 q3 q4 : Pos) : List Stmt :=
  [.Expr (.Call (.Attribute (.Call (.Name "super" p0) [] [] p1) "__init__" p2) [.Constant (.str m) k p3] [] p4) p5,
   .Assign [.Attribute (.Name "self" q1) "what" q2] (.Name "what" q3) q4]
def iS : Scope := { kind := .function, names := [(PySem.Str.ofString "self", .local), (PySem.Str.ofString "what", .local), (PySem.Str.ofString "__class__", .free), (PySem.Str.ofString "super", .globalImplicit)], isGenerator := false, isCoroutine := false, more := [] }
/-- what the written part says of such a class at C, its __init__ at fI -/
structure XTxt (P : Program) (K : Frag) (mg : Str → Option Value) (x : Str) (C fI : Addr) : Prop where
  gC : mg x = some (.ref C)
  nm : (x == ("__debug__" : Str)) = false
  sup : mg "super" = none
  cls : ∃ nm q N bs bm sn sub ab col dd k0 k1 k2 k3 k5, K.lookup C = some (excClassObj nm q C N bs bm true sn sub ab col dd k0 k1 k2 k3 k5 "ValueError.__new__") ∧ refsVE bm = true
  sa : findIn K (.ref C) "__setattr__" = some (some (.builtin "object.__setattr__"))
  noN : findIn K (.ref C) "what" = some none
  iC : findIn K (.ref C) "__init__" = some (some (.ref fI))
  tC : typeIn K (.ref fI) = some (.type "function")
  kC : keepIn K (.ref C) = true
  exC : subIn K (.ref C) (.type "BaseException") = some true
  veC : subIn K (.ref C) (.type "ValueError") = some true
  tyC : typeIn K (.ref C) = some (.type "type")
  te : exmOne K (.ref C) (.ref C) = some true
  xf : L2.XfC K C
  sIn : ks_superIn K C C "__init__" = some (some (.builtin "ValueError.__init__"))
  opq : nsIn K cStatics "thirdparty.any" = some none
  mro : mroIn K C (.ref C) = some true
  htop : (P.main.scope.names.lookup ("super" : Str)).isSome = false
  fn : ∃ (oc : Value) (od : Option Addr) (doc pm : Value) (an : Option Addr) (cda cc : Addr) (ct : Value) (osl : Array (Option Value)) (qual m : Str) (k : Nat) (r1 r2 p0 p1 p2 p3 p4 p5 q1 q2 q3 q4 : Pos)
      (ccl cl : Value) (cdd cld : Option Addr) (ccs csl : Array (Option Value)) (vs : Array Value) (file : Str) (tf : Tok),
    K.lookup fI = some ⟨oc, od, .func (ksFn "__init__" qual (iA r1 r2) (iB m k p0 p1 p2 p3 p4 p5 q1 q2 q3 q4) iS .none .none doc pm an (.ref cda) ct cc), osl⟩ ∧ codeIn K (.ref cda) qual = true ∧ (p2.endLine == p4.line) = true ∧
    K.lookup cda = some ⟨ccl, cdd, .fields vs, ccs⟩ ∧ vs[2]? = some (.str file tf) ∧ ((P.main.file : Str) == file) = true ∧ K.lookup cc = some ⟨cl, cld, .cell (some (.ref C)), csl⟩
/-- what __init__ leaves of a fresh exception at x -/
structure InitEnd (h h' : Heap) (x C dx : Addr) (v : Value) : Prop where
  keep : ∀ b o, b ≠ x → h.get? b = some o → h'.get? b = some o
  obj : ∃ t1 : Addr, h'.get? x = some { cls := .ref C, dict := some dx, data := .fields #[.ref t1, .none, .none, .none, .bool false, .none] }
  dbig : h.objs.size ≤ dx
  dne : dx ≠ x
  ns : h'.Ns1 dx (fun y => if y = "what" then some v else none)
theorem kept_but {K : Frag} {h h' : Heap} {x : Addr} (X : K.In h) (hx : K.lookup x = none) (k : ∀ b o, b ≠ x → h.get? b = some o → h'.get? b = some o) : K.In h' := fun a o e =>
  k a o (fun z => by rw [z, hx] at e; cases e) (X a o e)
theorem two_size (v : Value) : [v].length ≤ sizeLine := by
  rw [sizeLine_eq]
  exact (by decide : 1 ≤ 16777216)
section
variable {prog : Program} {w : World} {A : Around} {E : Value → Shared → Prop} {h : Heap} {g : Array GenState} {d : Drawn} {t : Nat} {os : OsState}
variable {nm q : Str} {C N : Addr} {bs bm : List Value} {hdct : Bool} {sn : List Str} {sub : List Value} {ab : Bool} {col : Option Bool} {dd : Option Addr} {k0 k1 k2 k3 k5 : Option Value}
/-- the bound ValueError.__init__, called -/
theorem call_bw {u e t0 : Addr} {rest : List Value} {Q : Value → Shared → Prop}
    (hC : h.get? C = some (excClassObj nm q C N bs bm hdct sn sub ab col dd k0 k1 k2 k3 k5 "ValueError.__new__")) (he : h.get? e = some (excO C t0)) (hu : h.get? u = some (kxs_mw "ValueError.__init__" e)) (hrest : rest.length ≤ sizeLine)
    (hq : ∀ h' t1, (∀ b o, b ≠ e → h.get? b = some o → h'.get? b = some o) → h'.get? e = some (excO C t1) → Q .none ⟨h', g, d, t, os⟩) :
    wpAny (model prog w) A (call (.ref u) rest) Q E ⟨h, g, d, t, os⟩ := by
  refine wpAny_call (codeAny_of_tree ?_)
  show wpAny _ A.in1 (callAny (.ref u) ⟨rest, []⟩) _ _ _
  simp only [callAny]
  refine wpAny_bind (wpAny_load hu ?_)
  simp only [kxs_mw, show (Value.type "method-wrapper" == Value.type "method" || Value.type "method-wrapper" == Value.type "builtin_function_or_method" || Value.type "method-wrapper" == Value.type "method-wrapper") = true by decide, if_true]
  refine W.KFB.if_so (by decide) ?_
  refine wpAny_bind (ESX.check_bound F.excBase_ValueError hC he rfl ?_)
  refine wpAny_bind (wpAny_pure (wpAny_pure ?_))
  refine ⟨Code.quiet_builtin _ (by decide +kernel), codeAny_builtin F.excBase_ValueError.initEntry ?_⟩
  rw [Around.under_plainId F.excBase_ValueError.init.plain _]
  wp_walk
  refine hq _ h.objs.size (fun b o hb ho => ?_) ?_
  · rw [Heap.get?_update_other _ _ (Ne.symm hb)]
    exact Heap.get?_push_of_some _ ho
  · rw [Heap.get?_update_self _ (Heap.get?_push_of_some _ he) rfl]
    rfl
end
section
variable {prog : Program} {w : World} {A : Around} {R : Result → Shared → Prop} {s : Shared} {K : Frag} {mg : Str → Option Value} {x : Str} {C fI : Addr}
theorem sup_init (T : XTxt prog K mg x C fI) {e t0 : Addr} {v : Value} (X : K.In s.heap) (hlim : s.heap.NoLimit) (hg : s.heap.Ns mainGlobals mg) (hb : ∃ mb, s.heap.Ns builtinsNs mb ∧ ∀ y : Str, y ≠ "__name__" → mb y = bootBuiltins y)
    (hx : s.heap.get? e = some (excO C t0)) (hnx : K.lookup e = none) (hroom : A.depth < recursionLimit)
    (hq : ∀ h' tk dx, InitEnd s.heap h' e C dx v → R (.ok (.ret .none)) { s with heap := h', toks := tk }) :
    codeAny (model prog w) A (.call (.ref fI) ⟨[.ref e, v], []⟩) R s := by
  obtain ⟨oc, od, doc, pm, an, cda, cc, ct, osl, qual, m, k, r1, r2, p0, p1, p2, p3, p4, p5, q1, q2, q3, q4, ccl, cl, cdd, cld, ccs, csl, vs, file, tf, ho, hcd, hln, hcode, hvs, hfile, hcell⟩ := T.fn
  obtain ⟨nm, q, N, bs, bm, sn, sub, ab, col, dd, k0, k1, k2, k3, k5, hC, hbm⟩ := T.cls
  obtain ⟨mb, hb1, hb2⟩ := hb
  have hcl : clsIn K C = some { name := nm, bases := bs, mro := .ref C :: bm, ns := N, qualname := q, hasDict := true, slotNames := sn, subclasses := sub, abstract := ab, collection := col, hasDel := false } := by unfold clsIn; rw [hC] <;> rfl
  refine ks_codeAny_call_defAt (fd := ksFn "__init__" qual (iA r1 r2) (iB m k p0 p1 p2 p3 p4 p5 q1 q2 q3 q4) iS .none .none doc pm an (.ref cda) ct cc) (body := iB m k p0 p1 p2 p3 p4 p5 q1 q2 q3 q4) (binds := [("self", .ref e), ("what", v)])
    hroom (X _ _ ho) rfl hlim (codeRec_of X hcd) rfl (BindsTo.of_eq ?_) ?_ ?_ (fun h₁ hns hk₁ => ?_) rfl rfl rfl
  · first | rfl | with_unfolding_all rfl
  · intro y hy
    have hy2 : y ∈ [(PySem.Str.ofString "self", NameKind.local), (PySem.Str.ofString "what", .local), (PySem.Str.ofString "__class__", .free), (PySem.Str.ofString "super", .globalImplicit)] := hy
    simp only [List.mem_cons, List.not_mem_nil, or_false] at hy2
    rcases hy2 with rfl | rfl | rfl | rfl <;> intro z <;> cases z
  · intro y hy
    simp only [List.mem_cons, List.not_mem_nil, or_false] at hy
    rcases hy with rfl | rfl <;> rfl
  -- the frame: self, the field's value
  have X₁ : K.In h₁ := X.keeps hk₁
  have hx₁ := hk₁ _ _ hx
  have hC₁ := X₁ _ _ hC
  show _root_.PySem.wpAt _ _ _ (execs (iB m k p0 p1 p2 p3 p4 p5 q1 q2 q3 q4) _) _ _ _
  refine ks_wpAt_execs_cons (ks_wpAt_Expr_any (ks_wpAt_MethodCall (pl := (do return (← importBound (.Call (.Name "super" p0) [] [] p1) (callEnv
          (ksFn "__init__" qual (iA r1 r2) (iB m k p0 p1 p2 p3 p4 p5 q1 q2 q3 q4) iS .none .none doc pm an (.ref cda) ct cc) s.heap.objs.size fI)).getD true)) ?_ ?he) rfl rfl)
  case he =>
    rw [eval]
    unfold methodCall methodCallPos
    simp only [hln, Bool.or_true, if_true, pure_bind]
    rfl
  refine ks_wpAt_super_base (f := fI) (cc := cda) rfl rfl (by decide +kernel) rfl (X₁ _ _ ho) rfl rfl rfl (X₁ _ _ hcode) rfl hvs hfile T.htop ?_
  refine ks_loadName_global rfl rfl (loadGlobal_builtin (hg.keeps hk₁) T.sup (hb1.keeps hk₁) ((hb2 _ (by decide +kernel)).trans (show bootBuiltins "super" = some (.type "super") by first | rfl | decide +kernel | kernel_rfl)) ⟨rfl, ?_⟩)
  refine wpAny_loadName_free rfl rfl rfl ⟨_, X₁ _ _ hcell, rfl⟩ ?_
  refine wpAny_loadName_local (v := .ref e) rfl rfl hns (by rfl) ?_
  refine ks_wpAny_isType_cls hC₁ rfl ⟨rfl, ?_⟩
  refine ks_wpAny_call_super hC₁ rfl hx₁ rfl (fun c z => nomatch z) (looks_mroIn X₁ T.mro) (fun h₂ e₂ k₂ => ?_)
  have X₂ : K.In h₂ := X₁.keeps k₂
  have hx₂ := k₂ _ _ hx₁
  have hC₂ := X₂ _ _ hC
  have I₂ : InstAt h₂ e (excO C t0) C none := ⟨hx₂, rfl, rfl, trivial⟩
  have hI : Looks (model prog w) h₂ (isInstance (.ref e) (.type "ValueError")) true := I₂.type.andThen (looks_subIn X₂ T.veC)
  have hsi : alongIn K "__init__" (((Value.ref C :: bm).dropWhile (· != .ref C)).drop 1) = some (some (.builtin "ValueError.__init__")) := by
    have z := T.sIn
    unfold ks_superIn at z
    rw [hcl] at z
    exact z
  have hmro : Looks (model prog w) h₂ (mroOf (.ref C)) (Value.ref C :: bm) := fun A' Q' E' s' k' q' => wpAny_bind ((looks_clsIn X₂ hcl) A' _ E' s' k' (wpAny_pure q'))
  refine kxs_getMethod kxs_ValueError e₂ (looks_opaque X₂ T.opq) hmro rfl X₂ hsi hI (ks_ne X₂ I₂ hcl) (by decide +kernel) ?_
  have hu : (h₂.push (kxs_mw "ValueError.__init__" e)).get? h₂.objs.size = some (kxs_mw "ValueError.__init__" e) := by heap_get
  have k₃ : ∀ b o, h₂.get? b = some o → (h₂.push (kxs_mw "ValueError.__init__" e)).get? b = some o := fun b o z => Heap.get?_push_of_some _ z
  refine kxs_callWith (i := "ValueError.__init__") (x := e) (by rfl) ?_
  refine evalArgs_plain (spliced_cons ?_)
  show wpAny _ _ (eval (.Constant (.str m) k p3) _) _ _ _
  refine Constant_str (spliced_nil ⟨hu, ?_⟩)
  refine call_bw (k₃ _ _ hC₂) (k₃ _ _ hx₂) hu (two_size _) (fun h₄ t4 k₄ hx₄ => ?_)
  have k₅ : ∀ b o, b ≠ e → s.heap.get? b = some o → h₄.get? b = some o := fun b o z y => k₄ b o z (k₃ _ _ (k₂ _ _ (hk₁ _ _ y)))
  have X₄ : K.In h₄ := kept_but (X₂.keeps k₃) hnx k₄
  have hLe : s.heap.objs.size ≠ e := Nat.ne_of_gt (Heap.lt_size hx)
  have hns₄ : h₄.Ns s.heap.objs.size (fun y => List.lookup y ([(("self" : Str), Value.ref e), (("what" : Str), v)] : List (Str × Value)).reverse) := by
    obtain ⟨oL, es, ep, hL, r⟩ := hns
    exact ⟨oL, es, ep, k₄ _ _ hLe (k₃ _ _ (k₂ _ _ hL)), r⟩
  show wpAt _ _ _ (execs [.Assign [.Attribute (.Name "self" q1) "what" q2] (.Name "what" q3) q4] _) _ _ _
  refine wpAt_of_wpAny (wpAny_execs_cons (plainObj_wpAny_Assign_Attribute ?_))
  refine ESX.ldL (v := v) hns₄ (by rfl) (ESX.ldL (v := .ref e) hns₄ (by rfl) ?_)
  refine set_plain X₄ (ox := excO C t4) (od := none) ⟨hx₄, rfl, rfl, trivial⟩ T.sa ?_
  refine exc_osa X₄ hx₄ hcl (show refsVE (.ref C :: bm) = true from hbm) rfl T.noN (fun h₆ tk₆ dx k₆ dn dne hx₆ hn₆ => ?_)
  refine wpAny_execs_nil (hq h₆ tk₆ dx ⟨fun b o hb y => k₆ b o hb (k₅ b o hb y), ⟨t4, hx₆⟩, ?_, dne, hn₆⟩)
  have z : s.heap.objs.size < h₄.objs.size := hns₄.lt
  exact Nat.le_of_lt (Nat.lt_of_lt_of_le z dn)
/-- a made exception -/
structure OwnMade (h h' : Heap) (e C d : Addr) (v : Value) : Prop where
  keep : ∀ b o, h.get? b = some o → h'.get? b = some o
  new : h.objs.size ≤ e
  obj : ∃ t1 : Addr, h'.get? e = some { cls := .ref C, dict := some d, data := .fields #[.ref t1, .none, .none, .none, .bool false, .none] }
  dbig : h.objs.size ≤ d
  dne : d ≠ e
  ns : h'.Ns1 d (fun y => if y = "what" then some v else none)
theorem sup_made (T : XTxt prog K mg x C fI) {v : Value} (X : K.In s.heap) (hlim : s.heap.NoLimit) (hg : s.heap.Ns mainGlobals mg) (hb : ∃ mb, s.heap.Ns builtinsNs mb ∧ ∀ y : Str, y ≠ "__name__" → mb y = bootBuiltins y) (hroom : A.depth + 1 < recursionLimit)
    (hq : ∀ h' tk e d, OwnMade s.heap h' e C d v → R (.ok (.ret (.ref e))) { s with heap := h', toks := tk }) :
    codeAny (model prog w) A (.call (.ref C) ⟨[v], []⟩) R s := by
  obtain ⟨nm, q, N, bs, bm, sn, sub, ab, col, dd, k0, k1, k2, k3, k5, hC, hbm⟩ := T.cls
  obtain ⟨mb, hb1, hb2⟩ := hb
  obtain ⟨hp, g, dr, tk, os⟩ := s
  have k : ∀ b o, hp.get? b = some o → ((hp.push (kdv_tup [v])).push (excO C hp.objs.size)).get? b = some o := fun b o e => Heap.get?_push_of_some _ (Heap.get?_push_of_some _ e)
  have hget : ((hp.push (kdv_tup [v])).push (excO C hp.objs.size)).get? (hp.objs.size + 1) = some (excO C hp.objs.size) := by heap_get
  have hnx : K.lookup (hp.objs.size + 1) = none := by
    cases e : K.lookup (hp.objs.size + 1) with
    | none => rfl
    | some o =>
      have z : hp.get? (hp.objs.size + 1) = some o := X _ _ e
      exact absurd (Nat.lt_of_succ_lt (Heap.lt_size z)) (Nat.lt_irrefl _)
  refine call_own F.excBase_ValueError (fun X => refsVE_contains X bm hbm) (X _ _ hC) (looks_findIn X T.iC) (fun self => bind_fn X self T.tC) (two_size v) ?_
  refine sup_init (s := ⟨(hp.push (kdv_tup [v])).push (excO C hp.objs.size), g, dr, tk, os⟩) T (X.keeps k) (hlim.keeps k) (hg.keeps k) ⟨mb, hb1.keeps k, hb2⟩ hget hnx ?_ fun h' tk' dx M => ?_
  · show A.depth + 1 < recursionLimit
    exact hroom
  · obtain ⟨k', hx, dn, dne, hns⟩ := M
    have old : ∀ b o, hp.get? b = some o → h'.get? b = some o := fun b o e => k' b o (Nat.ne_of_lt (Nat.lt_succ_of_lt (Heap.lt_size e))) (k b o e)
    have z : hp.objs.size + 1 + 1 ≤ dx := by
      first
        | (simpa only [Heap.size_push] using dn)
        | exact dn
        | (have q := dn; rw [Heap.size_push, Heap.size_push] at q; exact q)
    exact ⟨rfl, hq h' tk' (hp.objs.size + 1) dx ⟨old, Nat.le_succ _, hx, Nat.le_trans (Nat.le_trans (Nat.le_succ _) (Nat.le_succ _)) z, dne, hns⟩⟩
end
end SupX_what
end PySem
namespace L2
namespace Sup_what
open PySem PySem.Spec PyProof.Rows PySem.SupX_what
section
variable {X : Cx} {C fI : Addr} {x : Str}
theorem gblt {pins : List (Addr × Obj)} {σ : St} {H : Hp} {s : Shared} (I : Inv X pins σ H s) : ∃ mb, s.heap.Ns builtinsNs mb ∧ ∀ y : Str, y ≠ "__name__" → mb y = bootBuiltins y := by
  obtain ⟨mb, h1, h2⟩ := I.mod.blt
  exact ⟨mb, h1.keeps I.bk, h2⟩
theorem pmk_sup {a : Expr} {ta : TA} {p pos : Pos} {k : Nat} (T : XTxt X.prog X.K X.mg x C fI) (hr : Room k X.A) (ha : PA X [a] ta) (hg : Gl X x := by rfl)
    (he : starEach (a :: []) X.env = (false, eval a X.env) :: starEach [] X.env := by rfl) (hpl : (backTo pos (starEach [] X.env)).any (·.1) = false := by rfl) :
    PMk X (.Call (.Name x p) [a] [] pos) (tMkX C "what" ta) := by
  intro pins s σ H Q I h
  refine wpAny_Call_Name_kw (ld_glob I hg T.gC ?_ T.nm)
  refine PySem.W.callWith_K (h₀ := X.base) I.ok.mod.kin T.kC (thn (ha.run pos pins s σ H _ I h) fun us s1 hh => ?_) he hpl
  obtain ⟨vs, H1, I1, r1, v, ev, q1⟩ := hh
  subst ev
  refine ⟨I1.kIn, ?_⟩
  cases r1 with
  | cons rv rn =>
    rename_i v' us'
    cases rn
    show wpAny _ _ (call (.ref C) [v']) _ _ _
    have hlim := I1.nolimit
    have hgl := I1.mod.glob.keeps I1.bk
    have hbl := gblt I1
    obtain ⟨hp, g, dr, tk, os⟩ := s1
    refine wpAny_call (sup_made T I1.kIn hlim hgl hbl (by have := hr.dp; omega) fun h' tk' e d M => ?_)
    show MkP X pins σ Q (.ref e) ⟨h', g, dr, tk', os⟩
    obtain ⟨t1, hoe⟩ := M.obj
    have hns := M.ns
    obtain ⟨G', g1, g2⟩ := restrict h' fun b => decide (b ≠ e)
    have gk : ∀ b, b ≠ e → G'.get? b = h'.get? b := fun b hb => g1 b (decide_eq_true hb)
    have ge : G'.get? e = none := g2 e (by simp)
    have old : ∀ b o, hp.get? b = some o → G'.get? b = some o := fun b o q => (gk b (Nat.ne_of_lt (Nat.lt_of_lt_of_le (Heap.lt_size q) M.new))).trans (M.keep b o q)
    have ob : ObjOk X.prog X.w (upd H1 d (.xd [(("what" : Str), v)])) G' d (.xd [(("what" : Str), v)]) :=
      ⟨_, hns.at (fun o q => (gk d M.dne).trans q), fun f => relO_one rv f⟩
    have J : Inv X pins σ (upd H1 d (.xd [(("what" : Str), v)])) ⟨G', g, dr, tk', os⟩ := I1.laid (t' := tk') old M.dbig ob
    refine ⟨e, _, _, ⟨G', g, dr, tk', os⟩, _, .ref C, some d, rfl, J, fun b o q => ?_, ge, hoe, ⟨rfl, rfl⟩, rfl, rfl, ?_, rfl, I1.bare, raises_own T.exC T.tyC, q1 d (I1.hok.fresh M.dbig)⟩
    · by_cases hb : b = e
      · have q' : G'.get? b = some o := q
        rw [hb, ge] at q'; cases q'
      · exact (gk b hb).symm.trans q
    · rw [upd_ne (Ne.symm M.dne)]
      exact I1.hok.fresh M.new
/-- raise C(e) -/
theorem ps_raiseSup {a : Expr} {ta : TA} {W : WX} {p pos pos2 : Pos} {k : Nat} (hc : X.calm = true) (T : XTxt X.prog X.K X.mg x C fI) (hr : Room k X.A) (tk : Takes X W) (ha : PA X [a] ta) (hg : Gl X x := by rfl)
    (he : starEach (a :: []) X.env = (false, eval a X.env) :: starEach [] X.env := by rfl) (hpl : (backTo pos (starEach [] X.env)).any (·.1) = false := by rfl) :
    PS X (.Raise (some (.Call (.Name x p) [a] [] pos)) none pos2) (fun _ σ H => tMkX C "what" ta σ H fun cls d H' => W cls d σ H') := ps_raise hc tk (pmk_sup T hr ha hg he hpl)
theorem pmk_supN {a : Expr} {ta : TA} {p pos : Pos} {k : Nat} (T : XTxt X.prog X.K X.mg x C fI) (hr : Room k X.A) (ha : PA X [a] ta) (hg : Gl X x := by rfl)
    (he : starEach (a :: []) X.env = (false, eval a X.env) :: starEach [] X.env := by rfl) (hpl : (backTo pos (starEach [] X.env)).any (·.1) = false := by rfl) :
    L2N.PMk X (.Call (.Name x p) [a] [] pos) (tMkX C "what" ta) := by
  intro pins s σ H Q I h
  refine wpAny_Call_Name_kw (ld_glob I hg T.gC ?_ T.nm)
  refine PySem.W.callWith_K (h₀ := X.base) I.ok.mod.kin T.kC (thn (ha.run pos pins s σ H _ I h) fun us s1 hh => ?_) he hpl
  obtain ⟨vs, H1, I1, r1, v, ev, q1⟩ := hh
  subst ev
  refine ⟨I1.kIn, ?_⟩
  cases r1 with
  | cons rv rn =>
    rename_i v' us'
    cases rn
    show wpAny _ _ (call (.ref C) [v']) _ _ _
    have hlim := I1.nolimit
    have hgl := I1.mod.glob.keeps I1.bk
    have hbl := gblt I1
    obtain ⟨hp, g, dr, tk, os⟩ := s1
    refine wpAny_call (sup_made T I1.kIn hlim hgl hbl (by have := hr.dp; omega) fun h' tk' e d M => ?_)
    show L2N.MkP X pins σ Q (.ref e) ⟨h', g, dr, tk', os⟩
    obtain ⟨t1, hoe⟩ := M.obj
    have hns := M.ns
    obtain ⟨G', g1, g2⟩ := restrict h' fun b => decide (b ≠ e)
    have gk : ∀ b, b ≠ e → G'.get? b = h'.get? b := fun b hb => g1 b (decide_eq_true hb)
    have ge : G'.get? e = none := g2 e (by simp)
    have old : ∀ b o, hp.get? b = some o → G'.get? b = some o := fun b o q => (gk b (Nat.ne_of_lt (Nat.lt_of_lt_of_le (Heap.lt_size q) M.new))).trans (M.keep b o q)
    have ob : ObjOk X.prog X.w (upd H1 d (.xd [(("what" : Str), v)])) G' d (.xd [(("what" : Str), v)]) :=
      ⟨_, hns.at (fun o q => (gk d M.dne).trans q), fun f => relO_one rv f⟩
    have J : Inv X pins σ (upd H1 d (.xd [(("what" : Str), v)])) ⟨G', g, dr, tk', os⟩ := I1.laid (t' := tk') old M.dbig ob
    refine ⟨e, _, _, ⟨G', g, dr, tk', os⟩, _, .ref C, some d, rfl, J, fun b o q => ?_, ge, hoe, ⟨rfl, rfl, fun vs e => by cases e; rfl⟩, rfl, rfl, ?_, rfl, I1.bare, raises_own T.exC T.tyC, q1 d (I1.hok.fresh M.dbig)⟩
    · by_cases hb : b = e
      · have q' : G'.get? b = some o := q
        rw [hb, ge] at q'; cases q'
      · exact (gk b hb).symm.trans q
    · rw [upd_ne (Ne.symm M.dne)]
      exact I1.hok.fresh M.new
/-- raise C(e) -/
theorem ps_raiseSupN {a : Expr} {ta : TA} {W : WX} {p pos pos2 : Pos} {k : Nat} (hc : X.calm = true) (T : XTxt X.prog X.K X.mg x C fI) (hr : Room k X.A) (tk : L2N.Takes X W) (ha : PA X [a] ta) (hg : Gl X x := by rfl)
    (he : starEach (a :: []) X.env = (false, eval a X.env) :: starEach [] X.env := by rfl) (hpl : (backTo pos (starEach [] X.env)).any (·.1) = false := by rfl) :
    PS X (.Raise (some (.Call (.Name x p) [a] [] pos)) none pos2) (fun _ σ H => tMkX C "what" ta σ H fun cls d H' => W cls d σ H')   := L2N.ps_raise hc tk (pmk_supN T hr ha hg he hpl)
/-- C(e) as a value -/
theorem pe_supV {a : Expr} {ta : TA} {p pos : Pos} {k : Nat} (T : XTxt X.prog X.K X.mg x C fI) (hr : Room k X.A) (ha : PA X [a] ta) (hg : Gl X x := by rfl)
    (he : starEach (a :: []) X.env = (false, eval a X.env) :: starEach [] X.env := by rfl) (hpl : (backTo pos (starEach [] X.env)).any (·.1) = false := by rfl) :
    PE X (.Call (.Name x p) [a] [] pos) (tExV C "what" ta) := by
  refine ⟨fun pins s σ H Q I h => ?_⟩
  refine wpAny_Call_Name_kw (ld_glob I hg T.gC ?_ T.nm)
  refine PySem.W.callWith_K (h₀ := X.base) I.ok.mod.kin T.kC (thn (ha.run pos pins s σ H _ I h) fun us s1 hh => ?_) he hpl
  obtain ⟨vs, H1, I1, r1, v, ev, q1⟩ := hh
  subst ev
  refine ⟨I1.kIn, ?_⟩
  cases r1 with
  | cons rv rn =>
    rename_i v' us'
    cases rn
    show wpAny _ _ (call (.ref C) [v']) _ _ _
    have hlim := I1.nolimit
    have hgl := I1.mod.glob.keeps I1.bk
    have hbl := gblt I1
    obtain ⟨hp, g, dr, tk, os⟩ := s1
    refine wpAny_call (sup_made T I1.kIn hlim hgl hbl (by have := hr.dp; omega) fun h' tk' e d M => ?_)
    obtain ⟨t1, hoe⟩ := M.obj
    have hne : H1 e = none := I1.hok.fresh M.new
    have hnd : H1 d = none := I1.hok.fresh M.dbig
    have nde : ∀ {b : Addr} {o : Obj}, hp.get? b = some o → b ≠ e := fun {b o} z => Nat.ne_of_lt (Nat.lt_of_lt_of_le (Heap.lt_size z) M.new)
    have ndd : ∀ {b : Addr} {o : Obj}, hp.get? b = some o → b ≠ d := fun {b o} z => Nat.ne_of_lt (Nat.lt_of_lt_of_le (Heap.lt_size z) M.dbig)
    have two : ∀ {b : Addr} {o : HO}, H1 b = some o → upd (upd H1 d (.xd [(("what" : Str), v)])) e (exo e C (some d)) b = some o := fun {b o} z => by
      rw [upd_ne (ne_of_none z hne), upd_ne (ne_of_none z hnd)]
      exact z
    have U : Un X.fs [] H1 (upd (upd H1 d (.xd [(("what" : Str), v)])) e (exo e C (some d))) hp h' := {
      keep := fun b u z _ _ _ => M.keep b u z
      slot := fun b u z _ _ _ => ⟨u.slots, M.keep b u z⟩
      free := fun b u z n _ => by rw [upd_ne (nde z), upd_ne (ndd z)]; exact n
      there := fun b u z _ => ⟨u, M.keep b u z⟩
      tups := fun b xs z => two z
      frzs := fun b u xs z => two z
      tbls := fun b ps z => ⟨#[], by rw [two z]; simp⟩ }
    have ok2 : HOk X.prog X.w (upd (upd H1 d (.xd [(("what" : Str), v)])) e (exo e C (some d))) h' := fun b o z => by
      by_cases hb : b = e
      · subst hb
        rw [upd_same] at z
        cases z
        exact exo_ok hoe
      · rw [upd_ne hb] at z
        by_cases hd : b = d
        · subst hd
          rw [upd_same] at z
          cases z
          exact ⟨_, M.ns, fun f => relO_one rv f⟩
        · rw [upd_ne hd] at z
          exact (I1.hok b o z).stay (fun c u _ q => M.keep c u q) (fun c q => two q) fun c xs q => two q
    have J2 : Inv X pins σ (upd (upd H1 d (.xd [(("what" : Str), v)])) e (exo e C (some d))) ⟨h', g, dr, tk', os⟩ := I1.un (t' := tk') U ok2
    exact ⟨.ref e, _, J2, rfl, q1 e d hne hnd M.dne⟩
end
end Sup_what
end L2

set_option Elab.async false
set_option linter.all false
set_option maxRecDepth 100000
set_option maxHeartbeats 4000000
namespace PySem.W
open PySem PySem.Spec PySem.Calls PyProof.Rows
section
variable {prog : Program} {w : World} {A : Around} {E : Value → Shared → Prop} {s : Shared} {K : Frag} {x D : Addr} {ox : Obj}
theorem findObj_dX {C : Addr} {odx : Option Obj} {name : Str} {a g : Value} (hc : (clsIn K C).isSome = true) (ha : findIn K (.ref C) name = some (some a)) (hg : specialIn K a "__get__" = some (some g)) (ht : takesIn K a = some true) : findObj K C odx name = some (.bind g a) := by
  obtain ⟨cd, hc⟩ := Option.isSome_iff_exists.mp hc
  unfold findObj
  rw [hc, Option.bind_some, ha, Option.bind_some]
  simp [hg, ht]
theorem kin_classX {odx : Option Obj} {Q : Option Value → Shared → Prop} (hga : findIn K (.ref D) "__getattribute__" = some (some (.builtin "BaseException.__getattribute__"))) (hgt : findIn K (.ref D) "__getattr__" = some none) (hsub : subIn K (.ref D) (.type "BaseException") = some true)
    (hdct : hasDictIn K D = true) (ha : findIn K (.ref D) "__class__" = some (some (.builtin "object.__class__")))
    (hn : specialIn K (.builtin "object.__class__") "__get__" = some (some (.builtin "getset_descriptor.__get__"))) (htk : takesIn K (.builtin "object.__class__") = some true) (hm : mroIn K D (.type "object") = some true)
    (X : K.In s.heap) (I : InstAt s.heap x ox D odx) (h : Q (some (.ref D)) { s with toks := s.toks + 1 }) : wpAny (model prog w) A (getAttr? (.ref x) "__class__") Q E s := by
  have hf : findObj K D odx "__class__" = some (.bind (.builtin "getset_descriptor.__get__") (.builtin "object.__class__")) := findObj_dX (by obtain ⟨cd, hc, _⟩ := any_some hdct; rw [hc]; rfl) ha hn htk
  obtain ⟨hp, g, d, t, os⟩ := s
  have L0 := I.type (M := model prog w)
  have L1 := looks_findIn (M := model prog w) X hga
  have L2 := looks_findIn (M := model prog w) X hgt
  have L3 := looks_find (M := model prog w) X I hf
  have sub : Looks (model prog w) hp (isInstance (.ref x) (.type "BaseException")) true := L0.andThen (looks_subIn X hsub)
  have hx0 : (false && onTheHeap (Value.builtin "BaseException.__getattribute__")) = false := rfl
  have hx2 : (Value.builtin "BaseException.__getattribute__" == Value.builtin "object.__getattribute__") = false := by decide +kernel
  have hx1 : (onTheHeap (Value.ref D) && Value.builtin "BaseException.__getattribute__" == Value.builtin "object.__getattribute__") = false := by rw [hx2]; rfl
  unfold getAttr? getAttrBy? getAttrBy
  refine wpAny_bind (wpAny_mkText (wpAny_bind (wpAny_attempt (wpAny_holding (wpAny_bind (L0.at (wpAny_bind (L1.at ?_))))))))
  show wpAny _ _ (if (onTheHeap (Value.ref D) && Value.builtin "BaseException.__getattribute__" == Value.builtin "object.__getattribute__") = true then _ else _) _ _ _
  rw [hx1, if_neg Bool.false_ne_true]
  unfold getAttrByItsOwn hookBefore
  refine wpAny_bind ?_
  rw [if_pos (show onTheHeap (Value.ref D) = true from rfl)]
  refine L2.at ?_
  refine wpAny_bind (wpAny_attempt (wpAny_holding ?_))
  unfold callGetattribute
  rw [hx0, if_neg Bool.false_ne_true]
  unfold boundAndCalled
  rw [PySem.F.excAttr_ValueError.ga.bind (.ref x)]
  refine wpAny_bind (wpAny_pure ?_)
  show wpAny _ _ (call (.builtin "BaseException.__getattribute__") [.ref x, .str "__class__" t]) _ _ _
  refine wpAny_call (codeAny_call_builtin PySem.F.excAttr_ValueError.ga.plain PySem.F.entry_bexc_ga ?_)
  refine @check_slot (model prog w) _ _ ⟨hp, g, d, t + 1, os⟩ "BaseException.__getattribute__" "BaseException" "__getattribute__" (.ref x) [.str "__class__" t] [] _ (by decide +kernel) (by decide +kernel) sub (PySem.F.args_bexc_ga (.ref x) (.str "__class__" t)) ?_
  unfold Builtin.«object.__getattribute__»
  refine wpAny_bind (wpAny_of_eq (a := ((Value.ref x : Value), [Value.str "__class__" t])) (by first | rfl | (simp only [slotArgs]; rfl)) ?_)
  refine wpAny_bind (wpAny_pure (wpAny_bind (L0.at (wpAny_bind (L3.at ?_)))))
  show wpAny _ _ (holding [Value.builtin "object.__class__"] (call (.builtin "getset_descriptor.__get__") [.builtin "object.__class__", .ref x, .ref D]) >>= ret) _ _ _
  refine wpAny_bind (wpAny_holding (wpAny_call (class_get (s := ⟨hp, g, d, t + 1, os⟩) (ox := ox) (od := odx) X I hm ?_)))
  refine wpAny_pure ?_
  show wpAny _ _ (handedOut (.ref D)) _ _ _
  rw [handedOut_of (v := .ref D) rfl]
  first
    | exact wpAny_pure (wpAny_pure h)
    | exact wpAny_pure h
    | exact wpAny_pure (wpAny_bind (wpAny_pure (wpAny_pure h)))
theorem kitx_excX {odx : Option Obj} (hga : findIn K (.ref D) "__getattribute__" = some (some (.builtin "BaseException.__getattribute__"))) (hgt : findIn K (.ref D) "__getattr__" = some none) (hsub : subIn K (.ref D) (.type "BaseException") = some true) (hdct : hasDictIn K D = true) (ha : findIn K (.ref D) "__class__" = some (some (.builtin "object.__class__")))
    (hn : specialIn K (.builtin "object.__class__") "__get__" = some (some (.builtin "getset_descriptor.__get__"))) (htk : takesIn K (.builtin "object.__class__") = some true) (hm : mroIn K D (.type "object") = some true) :
    KitX K (.ref x) (.ref D) (fun h => InstAt h x ox D odx) where
  ty := fun _ _ _ I => I.type
  it := fun _ _ X _ => by
    obtain ⟨cdD, hcD, _⟩ := any_some hdct
    unfold clsIn at hcD
    split at hcD
    · rename_i c' d' cd' sl' ho
      intro A' Q' E' s' k q
      unfold isType loadHead
      exact wpAny_bind (wpAny_loadPart (k _ _ (X _ _ ho)) (wpAny_pure q))
    · cases hcD
  ne := fun h tp dd its n sl X htp => by
    obtain ⟨cdD, hcD, _⟩ := any_some hdct
    refine Bool.eq_false_iff.mpr fun q => ?_
    have e : D = tp := Value.ref.inj (beq_iff_eq.mp q)
    subst e
    unfold clsIn at hcD
    split at hcD
    · rename_i c' d' cd' sl' ho
      have z := (X _ _ ho).symm.trans htp
      cases z
    · cases hcD
  ca := fun X I k => kin_classX hga hgt hsub hdct ha hn htk hm X I k
end
end PySem.W
namespace L2
open PySem PySem.Spec PyProof.Rows
/-- an exception object that stands, with its dict -/
def ExT (K : PySem.W.Frag) (H : Hp) (x : V) (t : Value) : Prop := ∃ (a C d : Addr) (fs : List (Str × V)), x = .ref a ∧ t = .ref C ∧ H a = some (exo a C (some d)) ∧ H d = some (.xd fs) ∧ ExcC K C
def KX (K : PySem.W.Frag) (H : Hp) (x : V) (t : Value) : Prop := TyX K H x t ∨ ExT K H x t
def rIsiV (K : PySem.W.Frag) : List V → Hp → VK → Prop := fun xs H Q => ∃ (x c : V) (t u : Value) (b : Bool), xs = [x, c] ∧ ClsV c u ∧ KX K H x t ∧ PySem.W.kitOne K t u = some b ∧ Q (.bl b) H
section
variable {X : Cx}
theorem call_isiV : CallR X (.builtin "isinstance") (rIsiV X.K) := by
  intro pins s σ H xs us Q I r h
  obtain ⟨x, c, t, u, b, rfl, k, ty, e, q⟩ := h
  obtain ⟨u1, u2, rfl, r1, r2⟩ := vals2 r
  have e2 := k.eq r2
  subst e2
  rcases ty with ty | ⟨a, C, d, fs, rfl, rfl, ha, hd, EC⟩
  · obtain ⟨P, Z, p, hx⟩ := kit_of I r1 ty
    exact PySem.W.kia_one Z I.kIn p e hx fun tk => ⟨.bl b, H, I.tok tk, rfl, q⟩
  · cases (show u1 = Value.ref a from r1)
    obtain ⟨t1, ho⟩ := exo_at I.hok ha
    obtain ⟨mA, ⟨od, es, ep, hod, _⟩, _⟩ := (show ObjOk X.prog X.w H s.heap d (.xd fs) from I.hok d _ hd)
    have J : PySem.W.InstAt s.heap a _ C (some od) := ⟨ho, rfl, rfl, hod⟩
    exact PySem.W.kia_one (PySem.W.kitx_excX EC.hg EC.hk EC.hs EC.hd EC.ha EC.hn EC.ht EC.hm) I.kIn J e (fun z => nomatch z) fun tk => ⟨.bl b, H, I.tok tk, rfl, q⟩
end
end L2

set_option Elab.async false
set_option linter.all false
set_option maxRecDepth 100000
set_option maxHeartbeats 4000000
/-! isinstance of the caught error itself, of an own class with a field -/
namespace L2
open PySem PySem.Spec PyProof.Rows
def rIsED (K : PySem.W.Frag) (cls : Value) (d : Option Addr) (a : Addr) : List V → Hp → VK → Prop := fun xs H Q => ∃ (c : V) (cv : Value) (b : Bool) (D dd : Addr) (fs : List (Str × V)), xs = [.ref a, c] ∧ cls = .ref D ∧ d = some dd ∧ ExcC K D ∧ (∀ u, RelV c u → u = cv) ∧ PySem.W.kitOne K (.ref D) cv = some b ∧ H dd = some (.xd fs) ∧ Q (.bl b) H
theorem call_isED {X : Cx} {a : Addr} {cls : Value} {d : Option Addr} {oe : Obj} {pn : List (Addr × Obj)} (hz : Zc cls d oe) (hf : ∃ vs, oe.data = .fields vs) : CallR (X.suite a ((a, oe) :: pn)) (.builtin "isinstance") (rIsED X.K cls d a) := by
  intro pins s σ H xs us Q I r h
  obtain ⟨c, cv, b, D, dd, fs, rfl, rfl, rfl, C, hcv, e, hd, q⟩ := h
  cases r with
  | cons rx rr =>
    cases rr with
    | cons rt rr =>
      cases rr
      cases rx
      have ec := hcv _ rt
      subst ec
      obtain ⟨hget, _⟩ := I.pin (a, oe) (List.mem_append.mpr (.inl List.mem_cons_self))
      obtain ⟨vs, hv⟩ := hf
      have hx : ObjOk X.prog X.w H s.heap dd (.xd fs) := I.hok dd _ hd
      obtain ⟨mA, ⟨od, es, ep, hod, _⟩, _⟩ := hx
      have J : PySem.W.InstAt s.heap a oe D (some od) := by
        obtain ⟨oc, od', oda, osl⟩ := oe
        obtain ⟨h1, h2⟩ := hz
        dsimp only at h1 h2 hv
        subst h1 h2 hv
        exact ⟨hget, rfl, rfl, hod⟩
      exact PySem.W.kia_one (PySem.W.kitx_excX C.hg C.hk C.hs C.hd C.ha C.hn C.ht C.hm) I.kIn J e (fun z => nomatch z) fun tk => ⟨.bl b, H, I.kept (t' := tk) fun _ _ z => z, rfl, q⟩
end L2
namespace Sx
open PySem L2
theorem kit_own {K : PySem.W.Frag} {C D : Addr} (hd : PySem.W.hasDictIn K C = true) (ht : PySem.W.typeIn K (.ref C) = some (.type "type")) (h : PySem.W.subIn K (.ref D) (.ref C) = some true) : PySem.W.kitOne K (.ref D) (.ref C) = some true := by
  obtain ⟨cd, hc, _⟩ := PySem.W.any_some hd
  have e2 : ((PySem.W.clsIn K C).isSome && PySem.W.typeIn K (.ref C) == some (.type "type")) = true := by rw [hc, ht] <;> rfl
  unfold PySem.W.kitOne
  split
  · rfl
  · show (if ((PySem.W.clsIn K C).isSome && PySem.W.typeIn K (.ref C) == some (.type "type")) = true then PySem.W.subIn K (.ref D) (.ref C) else none) = some true
    rw [if_pos e2]
    exact h
end Sx

set_option Elab.async false
set_option linter.all false
set_option maxRecDepth 100000
set_option maxHeartbeats 2000000
namespace L2
open PySem PySem.Spec PyProof.Rows
section
variable {X : Cx} {CX : CXT} {k : Nat} {f C : Addr} {fd : FuncData} {ps ks : List Str} {sp : Sp} {E : XK} {x m : Str} {p pos : Pos} {kws : List Keyword} {tk : TA} {g : List Value → List Value → List Value} {gV : List V → List V → List V}
/-- f(k = v, ..): keywords alone -/
theorem pe_kw0 (F : FnOk X.prog X.w X.K X.mg X.base CX k f fd ps sp) (hr : Room k X.A) (hg : Gl X x) (hm : X.mg x = some (.ref f)) (hk : PySem.W.keepIn X.K (.ref f) = true) (hb : KBinds X.K fd ps ks g gV) (hx : Passes CX X E)
    (hkw : PK X kws tk) (hall : (backToKw pos (keywordEach kws X.env)).all (·.1.isSome) = true := by rfl) (hks : (backToKw pos (keywordEach kws X.env)).filterMap (·.1) = ks := by rfl) (hdb : (x == ("__debug__" : Str)) = false := by decide)
    (hpl : ((backTo pos (starEach [] X.env)).any (·.1) || (backToKw pos (keywordEach kws X.env)).any (·.1.isNone)) = false := by rfl) :
    PE X (.Call (.Name x p) [] kws pos) (tCallK sp gV E tNil tk) := by
  refine ⟨fun pins s σ H Q I h => ?_⟩
  refine wpAny_Call_Name_kw (ld_glob I hg hm ?_ hdb)
  refine PySem.W.callWith_KW0 (h₀ := X.base) I.ok.mod.kin hk hall (thn (hkw.run pos pins s σ H _ I h) fun ws s2 ⟨zs, H2, I2, rz, q2⟩ => ⟨I2.kIn, ?_⟩) hpl
  rw [hks]
  exact run_fnk (us := []) (vs := []) F hr hb hx I2 .nil rz q2
end
section
variable {X : Cx} {CX : CXT} {k : Nat} {f C : Addr} {fd : FuncData} {ps ks : List Str} {sp : Sp} {E : L2.St → XK} {x m : Str} {p pos : Pos} {kws : List Keyword} {tk : TA} {g : List Value → List Value → List Value} {gV : List V → List V → List V}
def tCallKS (sp : Sp) (gV : List V → List V → List V) (E : L2.St → XK) (tk : TA) : TE := fun σ H Q => tk σ H fun zs H2 => sp (gV [] zs) H2 Q (E σ)
/-- f(k = v, ..) that may raise, the wish at the caller's slots -/
theorem pe_kwS0 (F : FnOk X.prog X.w X.K X.mg X.base CX k f fd ps sp) (hr : Room k X.A) (hg : Gl X x) (hm : X.mg x = some (.ref f)) (hk : PySem.W.keepIn X.K (.ref f) = true) (hb : KBinds X.K fd ps ks g gV) (hx : ∀ σ, PassesAt CX X σ (E σ))
    (hkw : PK X kws tk) (hall : (backToKw pos (keywordEach kws X.env)).all (·.1.isSome) = true := by rfl) (hks : (backToKw pos (keywordEach kws X.env)).filterMap (·.1) = ks := by rfl) (hdb : (x == ("__debug__" : Str)) = false := by decide)
    (hpl : ((backTo pos (starEach [] X.env)).any (·.1) || (backToKw pos (keywordEach kws X.env)).any (·.1.isNone)) = false := by rfl) :
    PE X (.Call (.Name x p) [] kws pos) (tCallKS sp gV E tk) := by
  refine ⟨fun pins s σ H Q I h => ?_⟩
  refine wpAny_Call_Name_kw (ld_glob I hg hm ?_ hdb)
  refine PySem.W.callWith_KW0 (h₀ := X.base) I.ok.mod.kin hk hall (thn (hkw.run pos pins s σ H _ I h) fun ws s2 ⟨zs, H2, I2, rz, q2⟩ => ⟨I2.kIn, ?_⟩) hpl
  rw [hks]
  have r2 := hb.rel (vs := []) (us := []) .nil rz
  have hl : (g [] ws).length = ps.length := by rw [← r2.length]; exact F.len _ _ _ _ q2
  refine wpAny_call (codeAny_mono (F.run X.A X.stack s2 H2 ⟨[], ks.zip ws⟩ (g [] ws) (gV [] zs) Q (E σ) hr I2.env0 (hb.to s2 [] ws I2.kIn hl) r2 q2) fun r s' hq => ?_)
  cases r with
  | error e => exact hx σ pins H2 s2 e s' I2 hq
  | ok fl =>
    cases fl with
    | ret u => exact I2.after hq
    | next => exact False.elim hq
    | brk => exact False.elim hq
    | cont => exact False.elim hq
end
section
variable {X : Cx}
/-- // by any divisor but nought, not too long -/
def CDivV (_ j : Int) : Prop := j ≠ 0 ∧ j.natAbs.log2 < 9000
theorem op_fdivV : OpR X (binaryOp .FloorDiv) (rI CDivV fun i j => .int (i.fdiv j)) := opI fun _ _ _ _ _ _ _ hc q => floordiv_int hc.1 q (.inl (PyProof.noPylong_of_log2 hc.2))
end
end L2
namespace L2
open PySem PySem.Spec PyProof.Rows
theorem passN {X : Cx} : Passes (L2N.CX X.prog X.w) X E0 := fun _ _ _ _ _ _ _ h => by
  obtain ⟨_, _, _, _, _, _, _, _, _, _, _, _, z⟩ := h
  exact z.elim
theorem passH {X : Cx} {σ : L2.St} {E : XK} : PassesAt CX0 X σ E := fun _ _ _ _ _ _ h => h.elim
theorem takesN0 {X : Cx} : L2N.Takes X (fun _ _ _ _ => False) := fun _ _ x => by
  obtain ⟨_, _, _, _, _, _, _, _, _, _, _, _, _, _, _, _, z⟩ := x
  exact z.elim
theorem hotS {X : Cx} {a : Addr} {oe : Obj} {cls : Value} {d : Option Addr} {pn : List (Addr × Obj)} (hz : L2N.Zn cls d oe) (hf : ∃ vs, oe.data = .fields vs) : L2H.HotC (X.suite a ((a, oe) :: pn)) := by
  obtain ⟨vs, e⟩ := hf
  exact ⟨(a, oe), ⟨rfl, vs, e, hz.2.2 vs e⟩, List.mem_cons_self⟩
theorem roomS {X : Cx} {k : Nat} {a : Addr} {pn : List (Addr × Obj)} (r : Room k X.A) : L2H.RoomH k (X.suite a pn).A := ⟨r.dp, r.un⟩
section
variable {P : Program} {w : World} {K : PySem.W.Frag} {mg : Str → Option Value} {base : Heap}
/-- a def that may raise, the exception's context none -/
theorem Fun.okN {x qual : Str} {st : Stmt} {f : Addr} {fd : FuncData} {N ps : List Str} {k : Nat} {sp : Sp} (F : Fun K x qual st f fd) (S : FnScope N ps (defScope st)) (len : ∀ vs H Q E, sp vs H Q E → vs.length = ps.length)
    (hbody : ∀ (cdv : Value) (A : Around) (outer : List Env) (s : Shared) (H : Hp) (vs : List V) (Q : VK) (E : XK), Room k (A.deeper (envOfC qual (defScope st) s.heap.objs.size f cdv)) → sp vs H Q E →
      ∃ t, PSs (cxOf (L2N.CX P w) P w K mg base N qual (defScope st) f cdv A outer s H E) (defBody st) t ∧ t { nx := fun _ H' => Q .non H', rt := Q } (start N vs) H) : FnOk P w K mg base (L2N.CX P w) (k + 1) f fd ps sp := by
  obtain ⟨oc, od, kV, doc, pm, an, cdv, ct, osl, rfl, lk, hcd⟩ := F.ex
  exact fn_of lk hcd S len fun A outer s H vs Q E hr hsp => hbody cdv A outer s H vs Q E hr hsp
/-- a def called where an exception is handled -/
theorem Fun.okH {CX : CXT} {x qual : Str} {st : Stmt} {f : Addr} {fd : FuncData} {N ps : List Str} {k : Nat} {sp : Sp} (F : Fun K x qual st f fd) (S : FnScope N ps (defScope st)) (len : ∀ vs H Q E, sp vs H Q E → vs.length = ps.length)
    (hbody : ∀ (cdv : Value) (A : Around) (outer : List Env) (s : Shared) (H : Hp) (vs : List V) (Q : VK) (E : XK) (p : Addr × Obj), L2H.RoomH k (A.deeper (envOfC qual (defScope st) s.heap.objs.size f cdv)) → sp vs H Q E →
      ∃ t, PSs (L2H.cxH CX P w K mg base N qual (defScope st) f cdv A outer s H E p) (defBody st) t ∧ t { nx := fun _ H' => Q .non H', rt := Q } (start N vs) H) : L2H.FnH P w K mg base CX (k + 1) f fd ps sp := by
  obtain ⟨oc, od, kV, doc, pm, an, cdv, ct, osl, rfl, lk, hcd⟩ := F.ex
  exact L2H.fn_ofH lk hcd S len fun A outer s H vs Q E p _ hr hsp => hbody cdv A outer s H vs Q E p hr hsp
end
end L2
namespace Sx
open PySem L2
abbrev St := L2.St
theorem Same.up {H H' : Hp} {a : Addr} {o : HO} (e : Same H H') (h : H a = some o) : H' a = some o := e _ _ h
/-- all but what stands at a is as it was -/
def Keep (a : Addr) (H H' : Hp) : Prop := ∀ b o, b ≠ a → H b = some o → H' b = some o
theorem Keep.up {c : Addr} {H H' : Hp} {a : Addr} {o : HO} (e : Keep c H H') (n : a ≠ c) (h : H a = some o) : H' a = some o := e _ _ n h
theorem Keep.refl (a : Addr) (H : Hp) : Keep a H H := fun _ _ _ h => h
theorem Keep.trans {a : Addr} {H H1 H2 : Hp} (e : Keep a H H1) (f : Keep a H1 H2) : Keep a H H2 := fun b o n h => f b o n (e b o n h)
theorem Keep.same {a : Addr} {H H1 : Hp} (e : Same H H1) : Keep a H H1 := fun b o _ h => e b o h
theorem Keep.put {a : Addr} {H H1 : Hp} {o : HO} (e : Keep a H H1) : Keep a H (upd H1 a o) := fun b o n h => by
  rw [upd_ne n]
  exact e b o n h
theorem Same.new {H : Hp} {p : Addr} {o : HO} (h : H p = none) : Same H (upd H p o) := fun a u e => by
  rw [upd_ne (ne_of_none e h)]
  exact e
theorem Same.put {a : Addr} {H H1 : Hp} {o : HO} (e : Same H H1) (n : H a = none) : Same H (upd H1 a o) := fun b u h => by
  rw [upd_ne (ne_of_none h n)]
  exact e b u h
/-- a keeping but at a place that was free ahead -/
theorem Keep.toSame {a : Addr} {H H1 H2 : Hp} (e : Same H H1) (n : H a = none) (f : Keep a H1 H2) : Same H H2 := fun b o h => f b o (ne_of_none h n) (e b o h)
theorem Keep.free {a b : Addr} {H H' : Hp} (e : Keep a H H') (n : b ≠ a) (h : H' b = none) : H b = none := by
  cases q : H b with
  | none => rfl
  | some o =>
    rw [e b o n q] at h
    cases h
theorem same_free {H H' : Hp} (e : Same H H') {l : Addr} (h : H' l = none) : H l = none := L2.Same.free e h
section
variable {K : PySem.W.Frag} {σ : St} {H : Hp} {Q : VK} {D : Ends} {t u : TS} {te ta tb tx : TE} {tt tu : TT} {r : R2} {x y z v w : V} {nx : St → Hp → Prop} {xs ys : List V}
theorem s_seq (h : t { D with nx := u D } σ H) : tSeq t u D σ H := h
theorem s_next (h : D.nx σ H) : tNext D σ H := h
theorem s_brk (h : D.bk σ H) : tBreak D σ H := h
theorem s_cont (h : D.ct σ H) : tCont D σ H := h
theorem s_asg {g : TG} (h : te σ H fun x H1 => g x σ H1 D.nx) : tAsg te g D σ H := h
theorem s_name {i : Nat} (h : nx (σ.set i (some v)) H) : gName i v σ H nx := h
theorem s_drop (h : te σ H fun _ H1 => D.nx σ H1) : tDrop te D σ H := h
theorem s_ret (h : te σ H D.rt) : tRet te D σ H := h
theorem s_ifS (h : tt σ H fun b H1 => if b = true then t D σ H1 else u D σ H1) : tIfS tt t u D σ H := h
theorem s_var {i : Nat} (h : σ[i]? = some (some v)) (q : Q v H) : tVar i σ H Q := ⟨v, h, q⟩
theorem s_c (q : Q v H) : tC v σ H Q := q
theorem s_op (h : ta σ H fun x H1 => tb σ H1 fun y H2 => r x y H2 Q) : tOp r ta tb σ H Q := h
theorem s_un {r : V → Hp → VK → Prop} (h : ta σ H fun x H1 => r x H1 Q) : tUn r ta σ H Q := h
variable {R : Bool → Hp → Prop}
theorem s_test (h : te σ H fun x H' => ∃ k, x = .bl k ∧ R k H') : tTest te σ H R := h
theorem s_tB (h : te σ H fun x H' => ∃ k, x = .bl k ∧ R k H') : tB te σ H R := h
theorem s_tT (h : te σ H fun x H' => ∃ k, x = .bl k ∧ R k H') : tTest te σ H R := h
theorem s_bl {k : Bool} (h : R k H) : ∃ k', V.bl k = V.bl k' ∧ R k' H := ⟨k, rfl, h⟩
theorem s_and (h : tt σ H fun c H1 => if c = true then tu σ H1 R else R false H1) : tAnd tt tu σ H R := h
theorem s_or (h : tt σ H fun c H1 => if c = true then R true H1 else tu σ H1 R) : tOr tt tu σ H R := h
theorem s_not (h : tt σ H fun c H1 => R (!c) H1) : tNot tt σ H R := h
theorem s_andV (h : ta σ H fun x H1 => ∃ c, x = .bl c ∧ if c = true then tb σ H1 Q else Q (.bl false) H1) : tAndV ta tb σ H Q := h
theorem s_orV (h : ta σ H fun x H1 => ∃ c, x = .bl c ∧ if c = true then Q (.bl true) H1 else tb σ H1 Q) : tOrV ta tb σ H Q := h
theorem s_notV (h : ta σ H fun x H1 => ∃ c, x = .bl c ∧ Q (.bl (!c)) H1) : tNotV ta σ H Q := h
theorem s_blV {k : Bool} {P : Bool → Prop} (h : P k) : ∃ k', V.bl k = V.bl k' ∧ P k' := ⟨k, rfl, h⟩
theorem s_if (h : tt σ H fun c H1 => if c = true then ta σ H1 Q else tb σ H1 Q) : tIf tt ta tb σ H Q := h
theorem s_cb {r : List V → Hp → VK → Prop} {t : TA} (h : t σ H fun vs H1 => r vs H1 Q) : tCB r t σ H Q := h
theorem s_call {sp : Sp} {dvs : List V} {E : XK} {t : TA} (h : t σ H fun vs H1 => sp (vs ++ dvs) H1 Q E) : tCall sp dvs E t σ H Q := h
theorem s_callK {sp : Sp} {gV : List V → List V → List V} {E : XK} {t tk : TA} (h : t σ H fun vs H1 => tk σ H1 fun zs H2 => sp (gV vs zs) H2 Q E) : tCallK sp gV E t tk σ H Q := h
theorem s_nil {P : List V → Hp → Prop} (h : P [] H) : tNil σ H P := h
theorem s_cons {ta : TE} {tr : TA} {P : List V → Hp → Prop} (h : ta σ H fun x H1 => tr σ H1 fun xs H2 => P (x :: xs) H2) : tCons ta tr σ H P := h
theorem s_tup {t : TA} (h : t σ H fun xs H1 => xs.length ≤ sizeLine ∧ ∀ p, H1 p = none → Q (.ref p) (upd H1 p (.tup xs))) : tTup t σ H Q := h
theorem s_lst {t : TA} (h : t σ H fun xs H1 => xs.length ≤ sizeLine ∧ ∀ p, H1 p = none → Q (.ref p) (upd H1 p (.lst xs))) : tLst t σ H Q := h
theorem new_same {H H2 : Hp} {p : Addr} {o : HO} (n : H p = none) (e : upd H p o = H2) : Same H H2 := by
  subst e
  exact Same.new n
theorem new_at {H H2 : Hp} {p : Addr} {o : HO} (e : upd H p o = H2) : H2 p = some o := by
  subst e
  exact upd_same
theorem put_keep {H H2 : Hp} {p : Addr} {o : HO} (e : upd H p o = H2) : Keep p H H2 := by
  subst e
  exact Keep.put (Keep.refl p H)
theorem c_mul_r {i j : Int} (a : -(2 ^ 64) < j) (b : j < 2 ^ 64) : CMul i j := .inr ⟨a, b⟩
theorem c_mul_l {i j : Int} (a : -(2 ^ 64) < i) (b : i < 2 ^ 64) : CMul i j := .inl ⟨a, b⟩
theorem c_div {i j : Int} (a : 0 < j) (b : j < 1073741824) : CDiv i j := ⟨a, b⟩
theorem c_pow {i j : Int} (a : 0 ≤ j) (b : j ≤ 1000000) (c : i.natAbs < 2 ^ 64) : CPow i j := ⟨a, b, c⟩
-- operators on values
theorem r_I0 {g : Int → Int → V} {i j : Int} (q : Q (g i j) H) : rI0 g (.int i) (.int j) H Q := ⟨i, j, rfl, rfl, q⟩
theorem r_I {C : Int → Int → Prop} {g : Int → Int → V} {i j : Int} (c : C i j) (q : Q (g i j) H) : rI C g (.int i) (.int j) H Q := ⟨i, j, rfl, rfl, c, q⟩
theorem r_U {g : Int → V} {i : Int} (q : Q (g i) H) : rU g (.int i) H Q := ⟨i, rfl, q⟩
theorem r_eq (h : scal x y = true) (q : Q (.bl (decide (x = y))) H) : rEq x y H Q := ⟨h, q⟩
theorem r_ne (h : scal x y = true) (q : Q (.bl (!decide (x = y))) H) : rNe x y H Q := ⟨h, q⟩
theorem v_int_eq {i j : Int} : decide (V.int i = V.int j) = decide (i = j) := by
  by_cases h : i = j
  · rw [h]; simp
  · simp [h]
theorem r_eqI {i j : Int} (q : Q (.bl (decide (i = j))) H) : rEq (.int i) (.int j) H Q := ⟨rfl, by rw [v_int_eq]; exact q⟩
theorem r_neI {i j : Int} (q : Q (.bl (!decide (i = j))) H) : rNe (.int i) (.int j) H Q := ⟨rfl, by rw [v_int_eq]; exact q⟩
theorem r_isB {a b : Bool} (q : Q (.bl (decide (a = b))) H) : rIsB (.bl a) (.bl b) H Q := ⟨a, b, rfl, rfl, q⟩
theorem r_notB {a b : Bool} (q : Q (.bl (!decide (a = b))) H) : rNotB (.bl a) (.bl b) H Q := ⟨a, b, rfl, rfl, q⟩
theorem r_ixL {p : Addr} {i : Int} (h : H p = some (.lst xs)) (a : atI xs i = some v) (q : Q v H) : rIx K (.ref p) (.int i) H Q := .inl ⟨p, xs, i, v, rfl, rfl, SqL.of h, a, q⟩
theorem r_ixT {p : Addr} {i : Int} (h : H p = some (.tup xs)) (a : atI xs i = some v) (q : Q v H) : rIx K (.ref p) (.int i) H Q := .inr (.inl ⟨p, xs, i, v, rfl, rfl, SqT.of h, a, q⟩)
def IxG : List V → Int → (V → Prop) → Prop
  | [], _, _ => False
  | a :: r, i, P => (i = 0 → P a) ∧ (i ≠ 0 → IxG r (i - 1) P)
theorem ig_cons {a : V} {r : List V} {i : Int} {P : V → Prop} (h1 : i = 0 → P a) (h2 : i ≠ 0 → IxG r (i - 1) P) : IxG (a :: r) i P := ⟨h1, h2⟩
theorem ig_nil {i : Int} {P : V → Prop} (h : False) : IxG [] i P := h
theorem IxG.get : ∀ {xs : List V} {n : Nat} {P : V → Prop}, IxG xs (n : Int) P → ∃ v, xs[n]? = some v ∧ P v
  | [], _, _, h => h.elim
  | a :: r, 0, P, h => ⟨a, rfl, h.1 rfl⟩
  | a :: r, n + 1, P, h => by
    have h2 := h.2 (by omega)
    have e : ((n + 1 : Nat) : Int) - 1 = (n : Int) := by omega
    rw [e] at h2
    obtain ⟨v, h3, h4⟩ := IxG.get h2
    exact ⟨v, by simpa using h3, h4⟩
theorem r_ixG {p : Addr} {i : Int} (h : H p = some (.lst xs)) (hi : 0 ≤ i) (q : IxG xs i fun v => Q v H) : rIx K (.ref p) (.int i) H Q := by
  obtain ⟨n, rfl⟩ := Int.eq_ofNat_of_zero_le hi
  obtain ⟨v, h1, h2⟩ := IxG.get q
  exact .inl ⟨p, xs, _, v, rfl, rfl, SqL.of h, atI_nat h1, h2⟩
theorem r_ixGT {p : Addr} {i : Int} (h : H p = some (.tup xs)) (hi : 0 ≤ i) (q : IxG xs i fun v => Q v H) : rIx K (.ref p) (.int i) H Q := by
  obtain ⟨n, rfl⟩ := Int.eq_ofNat_of_zero_le hi
  obtain ⟨v, h1, h2⟩ := IxG.get q
  exact .inr (.inl ⟨p, xs, _, v, rfl, rfl, SqT.of h, atI_nat h1, h2⟩)
theorem r_ixS {p : Addr} {i : Int} (h : SqL K H p xs) (a : atI xs i = some v) (q : Q v H) : rIx K (.ref p) (.int i) H Q := .inl ⟨p, xs, i, v, rfl, rfl, h, a, q⟩
theorem r_setL {p : Addr} {i : Int} {j : Nat} {P : Hp → Prop} (h : H p = some (.lst xs)) (a : ixN xs.length i = some j) (q : ∀ H2, Keep p H H2 → H2 p = some (.lst (xs.set j v)) → P H2) : rSetL (.ref p) (.int i) v H P := ⟨p, xs, i, j, rfl, rfl, h, a, q _ (Keep.put (Keep.refl p H)) upd_same⟩
theorem s_sub {to ti : TE} {ts : TSet} (h : to σ H fun o H1 => ti σ H1 fun i H2 => ts o i v H2 fun H3 => nx σ H3) : gSub to ti ts v σ H nx := h
theorem r_app {p : Addr} (h : H p = some (.lst xs)) (l : xs.length < sizeLine) (q : ∀ H2, Keep p H H2 → H2 p = some (.lst (xs ++ [y])) → Q .non H2) : rAppend (.ref p) [y] H Q := ⟨p, xs, y, rfl, rfl, h, l, q _ (Keep.put (Keep.refl p H)) upd_same⟩
theorem s_bm {T : String} {r : V → List V → Hp → VK → Prop} {to : TE} {t : TA} (h : to σ H fun x H1 => tyV K T x H1 ∧ t σ H1 fun xs H2 => r x xs H2 Q) : tBM K T r to t σ H Q := h
theorem ty_list {p : Addr} {P : Prop} (h : H p = some (.lst xs)) (q : P) : tyV K "list" (.ref p) H ∧ P := ⟨.inl ⟨rfl, _, SqL.of h⟩, q⟩
theorem r_gcd {a b : Int} (q : Q (.int ((Nat.gcd a.natAbs b.natAbs : Nat) : Int)) H) : rGcd [.int a, .int b] H Q := ⟨a, b, rfl, q⟩
theorem r_all {p : Addr} {bs : List Bool} (h : H p = some (.lst (bs.map V.bl))) (q : Q (.bl (bs.all id)) H) : rAll K [.ref p] H Q := ⟨p, bs, rfl, SqL.of h, q⟩
theorem i_T {c : Prop} [Decidable c] {A B : Prop} (hc : c) (h : A) : if decide c = true then A else B := by
  rw [if_pos (decide_eq_true hc)]; exact h
theorem i_F {c : Prop} [Decidable c] {A B : Prop} (hc : ¬ c) (h : B) : if decide c = true then A else B := by
  rw [if_neg (by simp [hc])]; exact h
theorem i_2 {c : Prop} [Decidable c] {A B : Prop} (h1 : c → A) (h2 : ¬ c → B) : if decide c = true then A else B := by
  by_cases h : c
  · exact i_T h (h1 h)
  · exact i_F h (h2 h)
theorem i_n2 {c : Prop} [Decidable c] {A B : Prop} (h1 : ¬ c → A) (h2 : c → B) : if (!decide c) = true then A else B := by
  by_cases h : c
  · rw [if_neg (by simp [h])]; exact h2 h
  · rw [if_pos (by simp [h])]; exact h1 h
theorem i_b2 {b : Bool} {A B : Prop} (h1 : b = true → A) (h2 : b = false → B) : if b = true then A else B := by
  cases b
  · exact iteF (h2 rfl)
  · exact iteT (h1 rfl)
theorem i_nb2 {b : Bool} {A B : Prop} (h1 : b = false → A) (h2 : b = true → B) : if (!b) = true then A else B := by
  cases b
  · exact iteT (h1 rfl)
  · exact iteF (h2 rfl)
theorem i_t {A B : Prop} (h : A) : if true = true then A else B := iteT h
theorem i_f {A B : Prop} (h : B) : if false = true then A else B := iteF h
theorem i_nt {A B : Prop} (h : B) : if (!true) = true then A else B := iteF h
theorem i_nf {A B : Prop} (h : A) : if (!false) = true then A else B := iteT h
end
end Sx

set_option Elab.async false
set_option linter.all false
set_option maxRecDepth 100000
set_option maxHeartbeats 2000000
namespace Sx
open PySem L2
/-- what a class of errors is not -/
structure ExK (K : PySem.W.Frag) (C : Addr) : Prop where
  ec : ExcC K C
  ni : PySem.W.subIn K (.ref C) (.type "int") = some false
  nb : PySem.W.subIn K (.ref C) (.type "bool") = some false
  nt : PySem.W.subIn K (.ref C) (.type "tuple") = some false
  ns : PySem.W.subIn K (.ref C) (.type "str") = some false
  nl : PySem.W.subIn K (.ref C) (.type "list") = some false
/-- a value whose kind is known; every address of it is in B -/
inductive Kn (K : PySem.W.Frag) (H : Hp) (B : Addr → Prop) : V → Prop where
  | non : Kn K H B .non
  | bl (b : Bool) : Kn K H B (.bl b)
  | int (i : Int) : Kn K H B (.int i)
  | str (s : Str) : Kn K H B (.str s)
  | lst {p : Addr} {xs : List V} (h : H p = some (.lst xs)) (b : B p) : Kn K H B (.ref p)
  | tup {p : Addr} {xs : List V} (h : H p = some (.tup xs)) (b : B p) : Kn K H B (.ref p)
  | exc {a C d : Addr} {fs : List (Str × V)} (ha : H a = some (exo a C (some d))) (hd : H d = some (.xd fs)) (e : ExK K C) (ba : B a) (bd : B d) : Kn K H B (.ref a)
theorem Kn.up {K : PySem.W.Frag} {H H' : Hp} {B B' : Addr → Prop} {v : V} (k : Kn K H B v) (hB : ∀ b, B b → B' b) (hk : ∀ b o, B b → H b = some o → H' b = some o) : Kn K H' B' v := by
  cases k with
  | non => exact .non
  | bl b => exact .bl b
  | int i => exact .int i
  | str s => exact .str s
  | lst h b => exact .lst (hk _ _ b h) (hB _ b)
  | tup h b => exact .tup (hk _ _ b h) (hB _ b)
  | exc ha hd e ba bd => exact .exc (hk _ _ ba ha) (hk _ _ bd hd) e (hB _ ba) (hB _ bd)
def isI : V → Bool | .int _ => true | _ => false
def isB : V → Bool | .bl _ => true | _ => false
def isS : V → Bool | .str _ => true | _ => false
def tO : Option HO → Bool | some (.tup _) => true | _ => false
def lO : Option HO → Bool | some (.lst _) => true | _ => false
def isT (H : Hp) : V → Bool | .ref p => tO (H p) | _ => false
def isL (H : Hp) : V → Bool | .ref p => lO (H p) | _ => false
theorem isT_of {H : Hp} {p : Addr} {o : HO} (h : H p = some o) : isT H (.ref p) = tO (some o) := by
  show tO (H p) = _
  rw [h]
theorem isL_of {H : Hp} {p : Addr} {o : HO} (h : H p = some o) : isL H (.ref p) = lO (some o) := by
  show lO (H p) = _
  rw [h]
theorem isT_inv {H : Hp} {v : V} (h : isT H v = true) : ∃ p xs, v = .ref p ∧ H p = some (.tup xs) := by
  cases v with
  | ref p =>
    have h' : tO (H p) = true := h
    cases e : H p with
    | none =>
      rw [e] at h'
      cases h'
    | some o =>
      rw [e] at h'
      cases o with
      | tup xs => exact ⟨p, xs, rfl, e⟩
      | _ => cases h'
  | _ => cases h
section
variable {K : PySem.W.Frag} {H : Hp} {B : Addr → Prop} {v : V} {Q : VK}
theorem kit_exc {C : Addr} {T : String} {b : Bool} (h : PySem.W.subIn K (.ref C) (.type T) = some b) (m : PySem.W.kitMeta T = true) : PySem.W.kitOne K (.ref C) (.type T) = some b := by
  unfold PySem.W.kitOne
  rw [if_neg (by intro z; exact nomatch z)]
  show (if PySem.W.kitMeta T = true then PySem.W.subIn K (.ref C) (.type T) else none) = some b
  rw [if_pos m, h]
theorem isi_go {T n : String} {ty : Value} {b : Bool} (k : KX K H v ty) (e : PySem.W.kitOne K ty (.type T) = some b) (q : Q (.bl b) H) : rIsiV K [v, .ty T] H Q := ⟨v, .ty T, ty, .type T, b, rfl, .ty T, k, e, q⟩
theorem c_isiI (k : Kn K H B v) (q : Q (.bl (isI v || isB v)) H) : rIsiV K [v, .ty "int"] H Q := by
  cases k with
  | non => exact ⟨_, _, _, _, false, rfl, .ty _, .inl (.base .non), kit_ty (by decide +kernel), q⟩
  | bl b => exact ⟨_, _, _, _, true, rfl, .ty _, .inl (.base (.bl b)), kit_ty (by decide +kernel), q⟩
  | int i => exact ⟨_, _, _, _, true, rfl, .ty _, .inl (.base (.int i)), kit_ty (by decide +kernel), q⟩
  | str s => exact ⟨_, _, _, _, false, rfl, .ty _, .inl (.base (.str s)), kit_ty (by decide +kernel), q⟩
  | lst h _ => exact ⟨_, _, _, _, false, rfl, .ty _, .inl (.base (.lst h)), kit_ty (by decide +kernel), q⟩
  | tup h _ => exact ⟨_, _, _, _, false, rfl, .ty _, .inl (.base (.tup h)), kit_ty (by decide +kernel), q⟩
  | exc ha hd e _ _ => exact ⟨_, _, _, _, false, rfl, .ty _, .inr ⟨_, _, _, _, rfl, rfl, ha, hd, e.ec⟩, kit_exc e.ni (by decide +kernel), q⟩
theorem c_isiB (k : Kn K H B v) (q : Q (.bl (isB v)) H) : rIsiV K [v, .ty "bool"] H Q := by
  cases k with
  | non => exact ⟨_, _, _, _, false, rfl, .ty _, .inl (.base .non), kit_ty (by decide +kernel), q⟩
  | bl b => exact ⟨_, _, _, _, true, rfl, .ty _, .inl (.base (.bl b)), kit_ty (by decide +kernel), q⟩
  | int i => exact ⟨_, _, _, _, false, rfl, .ty _, .inl (.base (.int i)), kit_ty (by decide +kernel), q⟩
  | str s => exact ⟨_, _, _, _, false, rfl, .ty _, .inl (.base (.str s)), kit_ty (by decide +kernel), q⟩
  | lst h _ => exact ⟨_, _, _, _, false, rfl, .ty _, .inl (.base (.lst h)), kit_ty (by decide +kernel), q⟩
  | tup h _ => exact ⟨_, _, _, _, false, rfl, .ty _, .inl (.base (.tup h)), kit_ty (by decide +kernel), q⟩
  | exc ha hd e _ _ => exact ⟨_, _, _, _, false, rfl, .ty _, .inr ⟨_, _, _, _, rfl, rfl, ha, hd, e.ec⟩, kit_exc e.nb (by decide +kernel), q⟩
theorem c_isiS (k : Kn K H B v) (q : Q (.bl (isS v)) H) : rIsiV K [v, .ty "str"] H Q := by
  cases k with
  | non => exact ⟨_, _, _, _, false, rfl, .ty _, .inl (.base .non), kit_ty (by decide +kernel), q⟩
  | bl b => exact ⟨_, _, _, _, false, rfl, .ty _, .inl (.base (.bl b)), kit_ty (by decide +kernel), q⟩
  | int i => exact ⟨_, _, _, _, false, rfl, .ty _, .inl (.base (.int i)), kit_ty (by decide +kernel), q⟩
  | str s => exact ⟨_, _, _, _, true, rfl, .ty _, .inl (.base (.str s)), kit_ty (by decide +kernel), q⟩
  | lst h _ => exact ⟨_, _, _, _, false, rfl, .ty _, .inl (.base (.lst h)), kit_ty (by decide +kernel), q⟩
  | tup h _ => exact ⟨_, _, _, _, false, rfl, .ty _, .inl (.base (.tup h)), kit_ty (by decide +kernel), q⟩
  | exc ha hd e _ _ => exact ⟨_, _, _, _, false, rfl, .ty _, .inr ⟨_, _, _, _, rfl, rfl, ha, hd, e.ec⟩, kit_exc e.ns (by decide +kernel), q⟩
theorem c_isiT (k : Kn K H B v) (q : Q (.bl (isT H v)) H) : rIsiV K [v, .ty "tuple"] H Q := by
  cases k with
  | non => exact ⟨_, _, _, _, false, rfl, .ty _, .inl (.base .non), kit_ty (by decide +kernel), q⟩
  | bl b => exact ⟨_, _, _, _, false, rfl, .ty _, .inl (.base (.bl b)), kit_ty (by decide +kernel), q⟩
  | int i => exact ⟨_, _, _, _, false, rfl, .ty _, .inl (.base (.int i)), kit_ty (by decide +kernel), q⟩
  | str s => exact ⟨_, _, _, _, false, rfl, .ty _, .inl (.base (.str s)), kit_ty (by decide +kernel), q⟩
  | lst h _ => exact ⟨_, _, _, _, false, rfl, .ty _, .inl (.base (.lst h)), kit_ty (by decide +kernel), by rw [isT_of h] at q; exact q⟩
  | tup h _ => exact ⟨_, _, _, _, true, rfl, .ty _, .inl (.base (.tup h)), kit_ty (by decide +kernel), by rw [isT_of h] at q; exact q⟩
  | exc ha hd e _ _ => exact ⟨_, _, _, _, false, rfl, .ty _, .inr ⟨_, _, _, _, rfl, rfl, ha, hd, e.ec⟩, kit_exc e.nt (by decide +kernel), by rw [isT_of ha] at q; exact q⟩
theorem c_isiL (k : Kn K H B v) (q : Q (.bl (isL H v)) H) : rIsiV K [v, .ty "list"] H Q := by
  cases k with
  | non => exact ⟨_, _, _, _, false, rfl, .ty _, .inl (.base .non), kit_ty (by decide +kernel), q⟩
  | bl b => exact ⟨_, _, _, _, false, rfl, .ty _, .inl (.base (.bl b)), kit_ty (by decide +kernel), q⟩
  | int i => exact ⟨_, _, _, _, false, rfl, .ty _, .inl (.base (.int i)), kit_ty (by decide +kernel), q⟩
  | str s => exact ⟨_, _, _, _, false, rfl, .ty _, .inl (.base (.str s)), kit_ty (by decide +kernel), q⟩
  | lst h _ => exact ⟨_, _, _, _, true, rfl, .ty _, .inl (.base (.lst h)), kit_ty (by decide +kernel), by rw [isL_of h] at q; exact q⟩
  | tup h _ => exact ⟨_, _, _, _, false, rfl, .ty _, .inl (.base (.tup h)), kit_ty (by decide +kernel), by rw [isL_of h] at q; exact q⟩
  | exc ha hd e _ _ => exact ⟨_, _, _, _, false, rfl, .ty _, .inr ⟨_, _, _, _, rfl, rfl, ha, hd, e.ec⟩, kit_exc e.nl (by decide +kernel), by rw [isL_of ha] at q; exact q⟩
end
/-- a stream of draws stands at a -/
def Flow (H : Hp) (a : Addr) : Prop := ∃ (c n : Int) (b : Bool) (p : Int), H a = some (.lst [.int c, .int n, .bl b, .int p])
theorem Flow.up {H H' : Hp} {a : Addr} (f : Flow H a) (k : ∀ o, H a = some o → H' a = some o) : Flow H' a := by
  obtain ⟨c, n, b, p, h⟩ := f
  exact ⟨c, n, b, p, k _ h⟩
theorem Flow.same {H H' : Hp} {a : Addr} (e : Same H H') (f : Flow H a) : Flow H' a := f.up fun o h => e _ _ h
theorem Flow.keep {H H' : Hp} {a b : Addr} (e : Keep b H H') (n : a ≠ b) (f : Flow H a) : Flow H' a := f.up fun o h => e _ _ n h
theorem Flow.at {H : Hp} {a : Addr} (f : Flow H a) : ∃ o, H a = some o := by
  obtain ⟨c, n, b, p, h⟩ := f
  exact ⟨_, h⟩
theorem Flow.ne {H : Hp} {a b : Addr} (f : Flow H a) (n : H b = none) : a ≠ b := by
  obtain ⟨o, h⟩ := f.at
  exact ne_of_none h n
end Sx
namespace Sx
open PySem L2
def Mem (K : PySem.W.Frag) (H : Hp) (B : Addr → Prop) (x : V) : Prop := Kn K H B x ∧ ∀ n, x = .int n → n.natAbs < 2 ^ 190
def Val (K : PySem.W.Frag) (H : Hp) (B : Addr → Prop) (v : V) : Prop := Kn K H B v ∧ ∀ p xs, v = .ref p → H p = some (.tup xs) → ∀ x ∈ xs, Mem K H B x
section
variable {K : PySem.W.Frag} {H H' : Hp} {B B' : Addr → Prop} {v x : V} {xs : List V} {p a d C : Addr}
theorem Mem.up (k : Mem K H B x) (hB : ∀ b, B b → B' b) (hk : ∀ b o, B b → H b = some o → H' b = some o) : Mem K H' B' x := ⟨k.1.up hB hk, k.2⟩
theorem Val.up (k : Val K H B v) (hB : ∀ b, B b → B' b) (hk : ∀ b o, B b → H b = some o → H' b = some o) : Val K H' B' v := by
  refine ⟨k.1.up hB hk, fun p xs e h x hx => ?_⟩
  subst e
  cases k.1 with
  | lst g b =>
    rw [hk _ _ b g] at h
    cases h
  | tup g b =>
    have g' := hk _ _ b g
    rw [g'] at h
    cases h
    exact (k.2 p xs rfl g x hx).up hB hk
  | exc ha hd e ba bd =>
    rw [hk _ _ ba ha] at h
    cases h
theorem mem_int {n : Int} (h1 : -100000000000000 < n) (h2 : n < 100000000000000) : Mem K H B (.int n) := ⟨.int n, fun m e => by
  cases e
  have : (100000000000000 : Nat) < 2 ^ 190 := by decide
  omega⟩
theorem mem_kn (k : Kn K H B x) (h : isI x = false) : Mem K H B x := ⟨k, fun n e => by
  subst e
  cases h⟩
theorem mems_nil : ∀ x ∈ ([] : List V), Mem K H B x := fun x h => by cases h
theorem mems_cons (h1 : Mem K H B x) (h2 : ∀ y ∈ xs, Mem K H B y) : ∀ y ∈ x :: xs, Mem K H B y := fun y h => by
  rcases List.mem_cons.mp h with rfl | h
  · exact h1
  · exact h2 y h
theorem val_tup (h : H p = some (.tup xs)) (b : B p) (m : ∀ x ∈ xs, Mem K H B x) : Val K H B (.ref p) := ⟨.tup h b, fun q ys e g => by
  cases e
  rw [h] at g
  cases g
  exact m⟩
theorem val_lst (h : H p = some (.lst xs)) (b : B p) : Val K H B (.ref p) := ⟨.lst h b, fun q ys e g => by
  cases e
  rw [h] at g
  cases g⟩
theorem val_exc {fs : List (Str × V)} (ha : H a = some (exo a C (some d))) (hd : H d = some (.xd fs)) (e : ExK K C) (ba : B a) (bd : B d) : Val K H B (.ref a) := ⟨.exc ha hd e ba bd, fun q ys z g => by
  cases z
  rw [ha] at g
  cases g⟩
theorem val_flat (k : Kn K H B v) (h : ∀ p, v ≠ .ref p) : Val K H B v := ⟨k, fun q ys e _ => absurd e (h q)⟩
theorem newx_same {H2 : Hp} {o u : HO} (na : H a = none) (nd : H d = none) (e : upd (upd H d u) a o = H2) : Same H H2 := by
  subst e
  intro b z h
  rw [upd_ne (ne_of_none h na), upd_ne (ne_of_none h nd)]
  exact h
theorem newx_at {H2 : Hp} {o u : HO} (e : upd (upd H d u) a o = H2) : H2 a = some o := by
  subst e
  exact upd_same
theorem newx_d {H2 : Hp} {o u : HO} (n : d ≠ a) (e : upd (upd H d u) a o = H2) : H2 d = some u := by
  subst e
  rw [upd_ne n]
  exact upd_same
theorem s_exv {σ : St} {Q : VK} {f : Str} {ta : TA} (h : ta σ H fun vs H1 => ∃ v, vs = [v] ∧ ∀ a d, H1 a = none → H1 d = none → d ≠ a → Q (.ref a) (upd (upd H1 d (.xd [(f, v)])) a (exo a C (some d)))) : tExV C f ta σ H Q := h
end
end Sx

set_option Elab.async false
set_option linter.all false
set_option maxRecDepth 100000
set_option maxHeartbeats 2000000
/-! a dict comprehension whose dict may have tuples as keys -/
namespace L2
open PySem PySem.Spec PyProof.Rows
section
variable {X : Cx} {pins : List (Addr × Obj)} {σ : St} {H H' : Hp} {s : Shared} {E : Value → Shared → Prop} {D : Addr} {y v : V} {yv r : Value} {Q : Unit → Shared → Prop}
/-- the store of a comprehension, keys of both kinds -/
theorem dcp_put (hu : X.A.units < cLine) (I : Inv X pins σ H s) (g : DPut H D y v H') (ry : RelV y yv) (rv : RelV v r) (h : ∀ s', Inv X pins σ H' s' → Q () s') :
    wpAny (model X.prog X.w) X.A (dictSet D yv r) Q E s := by
  rcases g with ⟨kvs, k, eD, rfl, lz, rfl⟩ | ⟨kvs, k, b, eD, rfl, eb, lz, rfl⟩
  · exact d_dictSet I eD lz ry rv h
  · obtain rfl : yv = Value.ref b := ry
    obtain ⟨z1, ns, xs, rl, ok⟩ := dt_of I.hok eD
    have l1 : (putK kvs k v).length ≤ sizeLine := Nat.le_trans (length_putK kvs k v) lz
    have l2 : xs.length ≤ sizeLine := by
      rw [← rl.length]
      exact z1
    refine wpAny_dictSet_heap (hsz := l2) (knd := tupleKind (mixKind X.prog X.w)) hu (key_of I.hok eb) ok fun hh ⟨q, es, ep, k1, k2, k3, k4, _, k5⟩ sb => h _ (d_write I (by rw [eD]; trivial) sb ⟨q, k1⟩ ?_)
    exact ⟨l1, ns, _, (rl.put k eb rv).keeps fun c ys ec => (upd_ne (ne_of ec eD fun e => nomatch e)).trans ec, q, es, ep, k1, k2, k3, k4, k5⟩
end
section
variable {X : Cx}
/-- {k: v for target in iter if ..}: u0 says which keys are coming -/
def tDcP (u0 : HO) (wi : TI) (g : TG) (tt : TT) (tk tv : TE) (vs : List Nat) : TE := fun σ H Q => wi σ H fun J H1 => ∀ D, H1 D = none →
  ∃ W : Nat → Nat → Hp → Prop, (∃ m, W 0 m (upd H1 D u0)) ∧ ∀ i m H2, W i m H2 → (J.stop i H2 ∧ Q (.ref D) H2) ∨
    (J.go i H2 ∧ ∃ Nx : Hp → Prop, (∀ H', Nx H' → ∃ m', m' < m ∧ W (i + 1) m' H') ∧ ∀ x H3, J.yld i H2 x H3 → g x (wipe σ vs) H3 fun σ2 H4 => wipe σ2 vs = wipe σ vs ∧ tt σ2 H4 fun b H5 =>
      if b = true then tk σ2 H5 fun y H6 => tv σ2 H6 fun z H7 => ∃ H8, DPut H7 D y z H8 ∧ Nx H8 else Nx H5)
/-- the two beginnings -/
def Dc0 (u0 : HO) : Prop := u0 = .dK [] ∨ u0 = .dT []
theorem Dc0.new {u0 : HO} (z : Dc0 u0) {P : Program} {w : World} {H : Hp} (h : Heap) (hb : sysModules < h.objs.size) : ObjOk P w H (h.push { cls := .type "dict", data := .dict #[] }) h.objs.size u0 := by
  rcases z with rfl | rfl
  · exact dk_empty h hb
  · exact dt_empty h hb

/-- what a comprehension's parts answer, whatever block they stand in -/
structure DcParts (X : Cx) (scope : Scope) (tg kx vx : Expr) (ifs : List Expr) (g : TG) (tt : TT) (tk tv : TE) : Prop where
  tgt : ∀ (s : Shared) (H : Hp) (C : Addr) (cl : List (Str × Addr)) (fp : List Addr), PG (X.blk s H scope (compEnvC scope cl C X.env) fp) tg g
  tst : ∀ (s : Shared) (H : Hp) (C : Addr) (cl : List (Str × Addr)) (fp : List Addr), PTs (X.blk s H scope (compEnvC scope cl C X.env) fp) ifs tt
  key : ∀ (s : Shared) (H : Hp) (C : Addr) (cl : List (Str × Addr)) (fp : List Addr), PE (X.blk s H scope (compEnvC scope cl C X.env) fp) kx tk
  val : ∀ (s : Shared) (H : Hp) (C : Addr) (cl : List (Str × Addr)) (fp : List Addr), PE (X.blk s H scope (compEnvC scope cl C X.env) fp) vx tv
/-- a dict comprehension, its value used as use says -/
theorem dcp_core {pins : List (Addr × Obj)} {s : Shared} {σ : St} {H : Hp} {Q : VK} {u0 : HO} {kx vx tg iter : Expr} {ifs : List Expr} {scope : Scope} {own : List (Str × Nat)} {pos pos' : Pos} {wi : TI} {g : TG} {tt : TT} {tk tv : TE} {use : Option (Value → Sem Unit)} {Qf : Value → Shared → Prop} (z0 : Dc0 u0) (hu : X.A.units < cLine) (hc : X.calm = true) (hN : X.N.Nodup)
    (I : Inv X pins σ H s) (hi : PI X tg iter wi) (ok : BlkOk X.N X.env.scope scope own) (parts : DcParts X scope tg kx vx ifs g tt tk tv) (hs : ∀ x, foldedSetIterable iter X.env x = pure x) (want : tDcP u0 wi g tt tk tv (own.map (·.2)) σ H Q)
    (ends : ∀ D C s' m H', Inv X pins σ H' s' → Q (.ref D) H' → s'.heap.Ns C m → FpOk X pins H' C → compPost (model X.prog X.w) X.A X.xe use Qf (.ref D) C (.ok .next) s') :
    wpAny (model X.prog X.w) X.A (comprehension (.DictComp kx vx [⟨tg, iter, ifs, 0⟩] scope pos) scope X.env pos' newDict false (eval iter X.env) use) Qf X.xe s := by
  have cells : ∀ y ∈ scope.names, y.2 = .free → ∃ c, X.env.cells.lookup y.1 = some c := fun y hy e =>
    (ok.free y hy e).elim (fun k => I.ok.has _ (.inl k)) fun k => I.ok.has _ (.inr k)
  refine wpAny_comprehension_free (use := use) rfl hs (closure_ok cells) ok.kind (fun y hy e => (ok.uniq y hy).trans (by rw [e])) ?_
  refine thn (hi.run pins s σ H _ I want) fun xv s1 hx => thn hx fun itv s2 ⟨it, fp, tn, J, H2, e, I2, T, st2, f2, rest⟩ => ?_
  subst e
  refine wpAny_newObj_type (newEnv_comp ?_)
  obtain ⟨D, hD⟩ : ∃ D, D = s2.heap.objs.size := ⟨_, rfl⟩
  rw [← hD]
  obtain ⟨W, ⟨m0, start⟩, turns⟩ := rest D (I2.hok.fresh (Nat.le_of_eq hD.symm))
  -- behind the making of the dict
  obtain ⟨s3, hs3⟩ : ∃ s3 : Shared, s3 = { s2 with heap := s2.heap.push { cls := .type "dict", data := .dict #[] } } := ⟨_, rfl⟩
  have heap3 : s3.heap = s2.heap.push { cls := .type "dict", data := .dict #[] } := by rw [hs3]
  have grows : ∀ b o, s2.heap.get? b = some o → s3.heap.get? b = some o := fun b o e => by
    rw [heap3]
    exact Heap.get?_push_of_some _ e
  have I3 : Inv X pins σ (upd H2 D u0) s3 := by
    rw [hs3]
    refine I2.laid (t' := s2.toks) (fun b o e => Heap.get?_push_of_some _ e) (Nat.le_of_eq hD.symm) ?_
    rw [hD]
    exact z0.new s2.heap I2.big
  have lows : ∀ b ∈ fp, b < s2.heap.objs.size := fun b hb => (T.obj _ _ st2 b hb).elim fun o h => Heap.lt_size h.1
  have frees : ∀ b ∈ fp, FpOk X pins (upd H2 D u0) b ∧ b < s3.heap.objs.size := fun b hb => by
    have l := lows b hb
    have n : b ≠ D := fun e => Nat.lt_irrefl _ (by rw [e, hD] at l; exact l)
    refine ⟨⟨by rw [upd_ne n]; exact (f2 b hb).1, (f2 b hb).2⟩, ?_⟩
    rw [heap3, Heap.size_push]
    exact Nat.lt_succ_of_lt l
  have st3 : tn 0 s3.heap := T.keep _ _ _ st2 fun b _ o e => grows b o e
  obtain ⟨C, hC⟩ : ∃ C, C = s3.heap.objs.size := ⟨_, rfl⟩
  obtain ⟨cl, hcl⟩ : ∃ cl, cl = cellsFrom (C + 1) scope.names (cloFrom X.env.cells scope.names []) := ⟨_, rfl⟩
  obtain ⟨H3, hH3⟩ : ∃ H3, H3 = upd H2 D u0 := ⟨_, rfl⟩
  have I4 := block_start I3 ok hN frees
  rw [← hC, ← hcl, ← hH3] at I4
  rw [← hH3] at I3 frees start
  have pg := parts.tgt s3 H3 C cl fp
  have pt := parts.tst s3 H3 C cl fp
  have pk := parts.key s3 H3 C cl fp
  have pv := parts.val s3 H3 C cl fp
  rw [← hs3, ← hC, ← hcl]
  obtain ⟨ce, hce⟩ : ∃ ce, ce = compEnvC scope cl C X.env := ⟨_, rfl⟩
  have locals : ce.locals = C := by rw [hce]; rfl
  rw [← hce] at I4 pg pt pk pv
  show codeAny _ _ (.compStart (.DictComp kx vx [⟨tg, iter, ifs, 0⟩] scope pos) 0 (.ref it) (.ref D) (compEnvC scope cl C X.env)) (compPost (model X.prog X.w) X.A X.xe use Qf (.ref D) C) { s3 with heap := pushCells (s3.heap.push { cls := .type "dict", data := .dict #[] }) scope.names }
  rw [← hce]
  obtain ⟨s4, hs4⟩ : ∃ s4 : Shared, s4 = { s3 with heap := pushCells (s3.heap.push { cls := .type "dict", data := .dict #[] }) scope.names } := ⟨_, rfl⟩
  rw [← hs4] at I4 ⊢
  have st4 : tn 0 s4.heap := T.keep _ _ _ st3 fun b _ o e => by
    rw [hs4]
    exact pushCells_keeps _ _ _ _ (Heap.get?_push_of_some _ e)
  -- what the walk reads stays what it was
  have still : ∀ {τ : St} {H' : Hp} {s' : Shared}, Inv (X.blk s3 H3 scope ce fp) [] τ H' s' → (∀ b ∈ fp, H' b = none) → ∀ b ∈ fp, FpOk (X.blk s3 H3 scope ce fp) [] H' b := by
    exact fun I' no b hb => ⟨no b hb, (I'.ok.exf b hb).1, I'.ok.exfs b hb, .inl hb, fun x c e => (I'.ok.exf b hb).2 x c e, fun p hp => absurd (show p ∈ ([] : List (Addr × Obj)) ++ [] from hp) (by simp)⟩
  -- behind the block
  have back : ∀ {τ : St} {H' : Hp} {s' : Shared}, Inv (X.blk s3 H3 scope ce fp) [] τ H' s' → Inv X pins σ H' s' ∧ (∃ m, s'.heap.Ns C m) ∧ FpOk X pins H' C := by
    intro τ H' s' I'
    have n : H' C = none := by rw [← locals]; exact I'.free
    obtain ⟨m, ns, _⟩ := I'.loc
    refine ⟨I3.call' (ch := fp) I'.os I'.base I'.hok I'.bare fun b hb => ⟨(frees b hb).1.2.2.2.1, (frees b hb).1.2.1, (frees b hb).1.2.2.2.2.1, (frees b hb).1.2.2.2.2.2⟩, ⟨m, ?_⟩, I3.fpOk (Nat.le_of_eq hC.symm) n⟩
    rw [← locals]
    exact ns
  have loop : codeAny (model X.prog X.w) X.A (.compLoop (.DictComp kx vx [⟨tg, iter, ifs, 0⟩] scope pos) 0 (.ref it) (.ref D) ce) (compPost (model X.prog X.w) X.A X.xe use Qf (.ref D) C) s4 := by
    refine compLoop_anyD (fun n s' => ∃ i H', W i n H' ∧ tn i s'.heap ∧ (∀ b ∈ fp, H' b = none) ∧ Inv (X.blk s3 H3 scope ce fp) [] (wipe σ (own.map (·.2))) H' s') ?_ m0 ⟨0, H3, start, st4, fun b hb => (frees b hb).1.1, I4⟩
    rintro n s5 ⟨i, H5, w5, st5, n5, I5⟩
    rcases turns i n H5 w5 with ⟨halt, won⟩ | ⟨go, Nx, next, turn⟩
    · refine thnF (T.done (X.blk s3 H3 scope ce fp) rfl rfl rfl hc i [] s5 _ H5 (fun _ _ => False) I5 (still I5 n5) st5 halt) fun r s6 ⟨hr, I6⟩ => ?_
      subst hr
      obtain ⟨J6, ⟨m, ns⟩, f6⟩ := back I6
      exact ends D C s6 m H5 J6 won ns f6
    · refine thnF (T.item (X.blk s3 H3 scope ce fp) rfl rfl rfl hc i [] s5 _ H5 (fun _ _ => False) I5 (still I5 n5) st5 go) fun r s6 ⟨u, hr, h6⟩ => ?_
      subst hr
      refine thnF h6 fun _ s7 ⟨x, H7, I7, r7, y7, st7, n7⟩ => ?_
      obtain ⟨pl, hpl⟩ : ∃ pl, pl = pinsAt fp s7.heap := ⟨_, rfl⟩
      have P7 : Inv (X.blk s3 H3 scope ce fp) ([] ++ pl) (wipe σ (own.map (·.2))) H7 s7 := by
        rw [hpl]
        exact I7.pinned (still I7 n7) (T.obj _ _ st7)
      -- a turn that is over
      have over : ∀ {τ : St} {s' : Shared} {H' : Hp}, wipe τ (own.map (·.2)) = wipe σ (own.map (·.2)) → Inv (X.blk s3 H3 scope ce fp) ([] ++ pl) τ H' s' → Nx H' →
          ∃ m, m < n ∧ ∃ i H', W i m H' ∧ tn i s'.heap ∧ (∀ b ∈ fp, H' b = none) ∧ Inv (X.blk s3 H3 scope ce fp) [] (wipe σ (own.map (·.2))) H' s' := by
        intro τ s' H' same I' nx
        obtain ⟨m', lt, w'⟩ := next H' nx
        have there : ∀ b ∈ fp, ∀ o, s7.heap.get? b = some o → s'.heap.get? b = some o ∧ H' b = none := fun b hb o e => by
          have z := I'.pin (b, o) (List.mem_append_right _ (List.mem_append_right _ (by rw [hpl]; exact mem_pinsAt hb e)))
          exact ⟨z.1, z.2.1⟩
        refine ⟨m', lt, i + 1, H', w', T.keep _ _ _ st7 fun b hb o e => (there b hb o e).1, fun b hb => (T.obj _ _ st7 b hb).elim fun o h => (there b hb o h.1).2, ?_⟩
        refine (I'.unpinned (pins := [])).weak (by rw [← same, wipe_length]) fun j v e => ?_
        rw [← same] at e
        exact (wipe_some e).1
      refine thnF (pg.run _ s7 _ H7 x u _ P7 r7 (turn x H7 y7)) fun _ s8 ⟨τ, H8, I8, same, q8⟩ => ?_
      refine thnF (pt.run _ s8 τ H8 _ I8 q8) fun b s9 ⟨H9, I9, q9⟩ => ?_
      cases b with
      | true =>
        refine thnF (pk.run _ s9 τ H9 _ I9 q9) fun ku s10 ⟨y, H10, I10, r10, q10⟩ => ?_
        refine thnF (pv.run _ s10 τ H10 _ I10 q10) fun vu s11 ⟨v, H11, I11, r11, H12, put, nx⟩ => ?_
        exact dcp_put (X := X.blk s3 H3 scope ce fp) hu I11 put r10 r11 fun s12 I12 => over same I12 nx
      | false => exact over same I9 q9
  exact codeAny_compStart_dict loop (T.self X.A 0 _ _ _ st4 loop)
/-- the value of a dict comprehension over any walk -/
theorem pe_dcP {u0 : HO} {kx vx tg iter : Expr} {ifs : List Expr} {scope : Scope} {own : List (Str × Nat)} {pos : Pos} {wi : TI} {g : TG} {tt : TT} {tk tv : TE} (z0 : Dc0 u0) (hu : X.A.units < cLine) (hc : X.calm = true) (hN : X.N.Nodup)
    (hi : PI X tg iter wi) (ok : BlkOk X.N X.env.scope scope own) (parts : DcParts X scope tg kx vx ifs g tt tk tv) (hs : ∀ x, foldedSetIterable iter X.env x = pure x := by intro _; rfl) :
    PE X (.DictComp kx vx [⟨tg, iter, ifs, 0⟩] scope pos) (tDcP u0 wi g tt tk tv (own.map (·.2))) := by
  refine ⟨fun pins s σ H Q I want => ?_⟩
  rw [arm_eval_DictComp]
  refine dcp_core z0 hu hc hN I hi ok parts hs want fun D C s' m H' I' q ns f => ⟨m, ns, fun h'' sb => ?_⟩
  obtain ⟨q0, q1, _, q3, q4, q5⟩ := f
  exact ⟨.ref D, H', I'.turned (t' := s'.toks) (fun b o hb e => (sb.2 b hb).trans e) q0 q1 q3 q4 q5, rfl, q⟩
theorem swd_true {kx vx : Expr} {gs : List Comprehension} {scope : Scope} {pos py : Pos} {y : Str} {l : Nat} {env : Env} (hk : env.scope.kind = .function) (hy : env.scope.names.lookup y = some .local) (hl : (py.line == pos.line) = true)
    (ha : (scope.names.any fun (n, k) => n == y && (k == .local || k == .cell)) = false) : swapsWith (.DictComp kx vx gs scope pos) (some (.Name y py)) l env = pure true := by
  have b1 : env.kindOf y = some .local := hy
  have b2 : env.blockKind = .function := by (unfold Env.blockKind; rw [hk]; rfl)
  (unfold swapsWith; simp only [b2, b1, ha, Expr.pos, hl]; rfl)
/-- name = {..} on one line, the name a local -/
theorem ps_setDc {i : Nat} {y : Str} {py : Pos} {u0 : HO} {kx vx tg iter : Expr} {ifs : List Expr} {scope : Scope} {own : List (Str × Nat)} {pos spos : Pos} {wi : TI} {g : TG} {tt : TT} {tk tv : TE} (z0 : Dc0 u0) (hu : X.A.units < cLine) (hc : X.calm = true) (hN : X.N.Nodup) (hy : X.N[i]? = some y) (hyl : X.env.scope.names.lookup y = some .local)
    (hsw : swapsWith (.DictComp kx vx [⟨tg, iter, ifs, 0⟩] scope pos) (some (.Name y py)) spos.line X.env = pure true) (hi : PI X tg iter wi) (ok : BlkOk X.N X.env.scope scope own) (parts : DcParts X scope tg kx vx ifs g tt tk tv) (hs : ∀ x, foldedSetIterable iter X.env x = pure x := by intro _; rfl) :
    PS X (.Assign [.Name y py] (.DictComp kx vx [⟨tg, iter, ifs, 0⟩] scope pos) spos) (tAsg (tDcP u0 wi g tt tk tv (own.map (·.2))) (gName i)) := by
  refine ⟨fun pins s σ H D I want => ?_⟩
  rw [exec_Assign_Name_used _ _ _ _ hsw]
  refine wpAny_bind (wpAny_standAt (wpAny_bind (m := evalThenUse _ _ _) ?_))
  show wpAny _ X.A (do let _ ← comprehension (.DictComp kx vx [⟨tg, iter, ifs, 0⟩] scope pos) scope X.env (firstIterPos [⟨tg, iter, ifs, 0⟩] pos) newDict false (eval iter X.env) (some (assign (.Name y py) X.env))) _ _ s
  have want' : tDcP u0 wi g tt tk tv (own.map (·.2)) σ H (fun x H1 => gName i x σ H1 D.nx) := want
  refine wpAny_bind (thn (dcp_core (Qf := fun _ s' => SP X pins D .next s') z0 hu hc hN I hi ok parts hs want' fun L C s' m H' I' q hn f => ?_) fun _ s' hq => wpAny_pure (wpAny_pure hq))
  obtain ⟨f0, f1, f2, f3, f4, f5⟩ := f
  refine wpAny_assign_Name (store_ok2 (v := V.ref L) I' hN hy (.inl hyl) rfl (fun s2 I2 ⟨a, sb, ha⟩ => ⟨m, hn.sameBut sb ?_, fun h3 sb3 => ⟨_, H', I2.turned (t' := s2.toks) (fun b o hb e => (sb3.2 b hb).trans e) f0 f1 f3 f4 f5, q⟩⟩) (.inr hyl))
  exact ha.elim (fun z => by rw [z]; exact f1) fun z e => f4 y a z e.symm
/-- over a tuple that stays: n turns, Pv i what is so behind i of them -/
theorem dcp_tup {K : PySem.W.Frag} {u0 : HO} {a : Addr} {xs : List V} {g : TG} {tt : TT} {tk tv : TE} {vs : List Nat} {σ : St} {H1 : Hp} {D : Addr} {Qd : Hp → Prop} (Pv : Nat → Hp → Prop) (first : Pv 0 (upd H1 D u0)) (stays : ∀ i H, i ≤ xs.length → Pv i H → SqT K H a xs)
    (each : ∀ i x H, xs[i]? = some x → Pv i H → g x (wipe σ vs) H fun σ2 H4 => wipe σ2 vs = wipe σ vs ∧ tt σ2 H4 fun b H5 =>
      if b = true then tk σ2 H5 fun y H6 => tv σ2 H6 fun z H7 => ∃ H8, DPut H7 D y z H8 ∧ Pv (i + 1) H8 else Pv (i + 1) H5) (last : ∀ H, Pv xs.length H → Qd H) :
    ∃ W : Nat → Nat → Hp → Prop, (∃ m, W 0 m (upd H1 D u0)) ∧ ∀ i m H2, W i m H2 → ((Itt K a).stop i H2 ∧ Qd H2) ∨
      ((Itt K a).go i H2 ∧ ∃ Nx : Hp → Prop, (∀ H', Nx H' → ∃ m', m' < m ∧ W (i + 1) m' H') ∧ ∀ x H3, (Itt K a).yld i H2 x H3 → g x (wipe σ vs) H3 fun σ2 H4 => wipe σ2 vs = wipe σ vs ∧ tt σ2 H4 fun b H5 =>
        if b = true then tk σ2 H5 fun y H6 => tv σ2 H6 fun z H7 => ∃ H8, DPut H7 D y z H8 ∧ Nx H8 else Nx H5) := by
  refine ⟨fun i m H => i + m = xs.length ∧ Pv i H, ⟨xs.length, Nat.zero_add _, first⟩, ?_⟩
  rintro i m H ⟨e, p⟩
  have sq := stays i H (by omega) p
  cases m with
  | zero =>
    obtain rfl : i = xs.length := by omega
    exact .inl ⟨⟨xs, sq, Nat.le_refl _⟩, last H p⟩
  | succ m =>
    have lt : i < xs.length := by omega
    refine .inr ⟨⟨xs, xs[i], sq, by simp [lt]⟩, Pv (i + 1), fun H' p' => ⟨m, Nat.lt_succ_self m, by omega, p'⟩, fun x H' ⟨e', y⟩ => ?_⟩
    subst e'
    exact each i x _ (y xs sq) p
end
end L2

set_option Elab.async false
set_option linter.all false
set_option maxRecDepth 100000
set_option maxHeartbeats 3200000
/-! set(v) of a list or a tuple, the loop's promise left open -/
namespace L2
open PySem PySem.Spec PyProof.Rows
section
variable {P : Program} {w : World} {A : Around} {E : Value → Shared → Prop} {s : Shared}
/-- the set that a call makes first -/
abbrev setNew (w : World) : Obj := { cls := .type "set", dict := none, data := .set #[] 0 (.fresh 0 0 (!w.params.followText "set-order")) }
/-- a built-in kind that set() walks -/
structure SeqTy (T : String) : Prop where
  noSet : isSubtype (.type T) (.type "set") = pure false
  noFrozen : isSubtype (.type T) (.type "frozenset") = pure false
  noDict : (Value.type T == Value.type "dict") = false
theorem seqTy_list : SeqTy "list" := ⟨F.sub_list_set, F.sub_list_frozenset, by decide⟩
theorem seqTy_tuple : SeqTy "tuple" := ⟨F.sub_tuple_set, F.sub_tuple_frozenset, by decide⟩
/-- what is asked of the walk that fills the set at S: R is what it leaves -/
def Fills (P : Program) (w : World) (A : Around) (E : Value → Shared → Prop) (S l : Addr) (R : Shared → Prop) (s : Shared) : Prop :=
  wpAny (model P w) A (pyIter (.ref l)) (fun it s2 => codeAny (model P w) A (.builtin "set.update.loop" ⟨[.ref S, it], []⟩) (wants (fun r s3 => r = .none ∧ R s3) E) s2) E s
theorem init_seq {T : String} {S l : Addr} {o : Obj} {R : Shared → Prop} (ty : SeqTy T) (hS : s.heap.get? S = some (setNew w)) (hl : s.heap.get? l = some o) (hT : o.cls = .type T) (fill : Fills P w A E S l R s) :
    wpAny (model P w) A (Builtin.«set.__init__» ⟨[.ref S, .ref l], []⟩) (fun r s2 => r = .done (.ret .none) ∧ R s2) E s := by
  obtain ⟨c, dd, da, sl⟩ := o
  obtain rfl : c = Value.type T := hT
  have q1 := ty.noSet
  have q2 := ty.noFrozen
  have q3 := ty.noDict
  unfold Builtin.«set.__init__» noKeywords Builtin.Frozenset.updateFrom
  unfold Fills at fill
  generalize pyIter = PI at *
  wp_walk
  refine wpAny_mono fill (fun it s2 h2 => ?_) fun _ _ z => z
  refine wpAny_bind (wpAny_runValue (codeAny_mono h2 fun r s3 h3 => ?_))
  cases r with
  | error e => exact h3
  | ok fl =>
    cases fl with
    | ret u => exact wpAny_pure (wpAny_pure ⟨rfl, h3.2⟩)
    | _ => exact h3.elim
/-- set(v): the walk is asked where it stands -/
theorem call_set_seq {T : String} {l : Addr} {o : Obj} {R : Shared → Prop} {Q : Value → Shared → Prop} (ty : SeqTy T) (hl : s.heap.get? l = some o) (hT : o.cls = .type T)
    (fill : Fills P w A.in1.in1 E s.heap.objs.size l R { s with heap := s.heap.push (setNew w) }) (won : ∀ s', R s' → Q (.ref s.heap.objs.size) s') : wpAny (model P w) A (call (.type "set") [.ref l]) Q E s := by
  obtain ⟨c, tl, hmro⟩ := F.called_set.mro
  have a1 := F.called_set.made
  have a2 := F.called_set.sub
  have a3 := F.called_set.notType
  have a4 := F.called_set.canCreate
  have a5 := F.typeCall_set_1 (.ref l)
  refine wpAny_call (codeAny_of_tree ?_)
  show wpAny _ _ (callAny (.type "set") ⟨[.ref l], []⟩) _ _ s
  refine wpAny_pure ⟨Code.quiet_builtin _ (by decide +kernel), codeAny_builtin F.entry_type_call ?_⟩
  rw [Around.under_plain (weight_type_call_type "set" [.ref l] []) rfl]
  repeat (any_goals (first | assumption | wp_step))
  -- the new set
  refine codeAny_mono (code_set_led1 (.ref l) (E := E) (Q₁ := fun v s1 => v = .ref s.heap.objs.size ∧ s1 = { s with heap := s.heap.push (setNew w) }) ⟨rfl, rfl⟩) fun r s1 hr => ?_
  cases r with
  | error e => exact hr
  | ok fl =>
    cases fl with
    | ret v =>
      obtain ⟨rfl, rfl⟩ := hr
      have at0 : (s.heap.push (setNew w)).get? s.heap.objs.size = some (setNew w) := Heap.get?_push_size _ rfl
      have atl : (s.heap.push (setNew w)).get? l = some o := Heap.get?_push_of_some _ hl
      have hty : Shared.TypeIs { s with heap := s.heap.push (setNew w) } (.ref s.heap.objs.size) "set" := ⟨_, at0, rfl⟩
      have b1 := F.called_set.init.lookup
      have b2 := F.called_set.init.bind (.ref s.heap.objs.size)
      repeat (any_goals (first | assumption | wp_step))
      refine codeAny_mono (codeAny_call_builtin (R := wants (fun r s2 => r = .none ∧ R s2) E) F.called_set.init.plain F.entry_set_init (check_set_init_1 hty ?_)) fun r2 s2 hr2 => ?_
      · refine wpAny_mono (init_seq ty at0 atl hT fill) (fun fin s3 h3 => ?_) fun _ _ z => z
        obtain ⟨rfl, h3⟩ := h3
        exact ⟨rfl, h3⟩
      · cases r2 with
        | error e => exact hr2
        | ok fl2 =>
          cases fl2 with
          | ret u =>
            obtain ⟨rfl, h3⟩ := hr2
            have q := won s2 h3
            repeat (any_goals (first | assumption | wp_step))
          | _ => exact hr2.elim
    | _ => exact hr.elim

/-- set(t), t a tuple of tuples of ints -/
theorem call_set_ofT {l : Addr} {items : Array Value} (ks : List (Addr × List Int)) {Q : Value → Shared → Prop} (hh : A.handled = none) (hl : s.heap.IsTuple l items) (same : items.toList = ks.map fun p => Value.ref p.1)
    (keys : ∀ p ∈ ks, IsT P w s.heap p.2 p.1) (few : ks.length < 64) (hu : A.units + 3 < cLine)
    (won : ∀ (h' : Heap) (tk : Nat) L es ep t, (∀ b o, s.heap.get? b = some o → h'.get? b = some o) → Got ks ks.length L → SetTR P w h' s.heap.objs.size L es ep t → Q (.ref s.heap.objs.size) { s with heap := h', toks := tk }) :
    wpAny (model P w) A (call (.type "set") [.ref l]) Q E s := by
  have len : items.size = ks.length := by rw [← Array.length_toList, same, List.length_map]
  obtain ⟨o, ho, oc, n, od⟩ := id hl
  have lt : l < s.heap.objs.size := Heap.lt_size ho
  have nobody : ∀ b, s.heap.objs.size ≤ b → s.heap.get? b = none := fun b hb => Classical.byContradiction fun h => by
    obtain ⟨u, hu⟩ := Option.ne_none_iff_exists'.mp h
    exact Nat.lt_irrefl _ (Nat.lt_of_le_of_lt hb (Heap.lt_size hu))
  refine call_set_seq (R := fun s' => ∃ (h' : Heap) (tk : Nat), s' = { s with heap := h', toks := tk } ∧ ∃ L es ep t, (∀ b o, s.heap.get? b = some o → h'.get? b = some o) ∧ Got ks ks.length L ∧ SetTR P w h' s.heap.objs.size L es ep t)
    seqTy_tuple ho oc ?_ fun s' ⟨h', tk, e, L, es, ep, t, q1, q2, q3⟩ => by rw [e]; exact won h' tk L es ep t q1 q2 q3
  have l1 : (s.heap.push (setNew w)).IsTuple l items := hl.at fun u e => Heap.get?_push_of_some _ e
  have sz : (s.heap.push (setNew w)).objs.size = s.heap.objs.size + 1 := Heap.size_push ..
  refine wpAny_pyIter_tuple l1 ?_
  have apart : l ≠ (s.heap.push (setNew w)).objs.size := by
    rw [sz]
    exact Nat.ne_of_lt (Nat.lt_succ_of_lt lt)
  have hA : A.in1.in1.in1.handled = none := by simp [hh]
  refine set_update_tups (A := A.in1.in1) (Walks.tuple hA _ l apart items).toS s.heap.objs.size ?_ ks len few (fun i v hv => ?_) s.heap keys (nobody _ (Nat.le_refl _)) (fun b hb => ?_) hu items.size 0 _ rfl (Nat.zero_le _)
    ⟨⟨_, Heap.get?_push_size _ rfl, rfl, rfl⟩, l1.at fun u e => Heap.get?_push_of_some _ e⟩ (fun b u e => Heap.get?_push_of_some _ (Heap.get?_push_of_some _ e)) ?_ ?_
  · rw [sz]
    simp only [List.mem_cons, List.not_mem_nil, or_false, not_or]
    exact ⟨Nat.ne_of_lt (Nat.lt_succ_self _), Nat.ne_of_gt lt⟩
  · have z : (ks.map fun p => Value.ref p.1)[i]? = some v := by rw [← same, Array.getElem?_toList]; exact hv
    rw [List.getElem?_map] at z
    obtain ⟨p, e1, e2⟩ := Option.map_eq_some_iff.mp z
    exact ⟨p, e1, e2.symm⟩
  · rw [List.mem_singleton.mp hb, sz]
    exact nobody _ (Nat.le_succ _)
  · exact ⟨[], #[], 0, _, setTR_fresh (Heap.get?_push_of_some _ (Heap.get?_push_size _ rfl)), Got.zero ks⟩
  · rintro ⟨h', g', d', tk', os'⟩ L es ep t mv full got keeps
    obtain rfl : g' = s.gens := mv.gens
    obtain rfl : d' = s.drawn := mv.drawn
    obtain rfl : os' = s.os := mv.os
    rw [len] at got
    exact ⟨rfl, h', tk', rfl, L, es, ep, t, keeps, got, full⟩
end
section
variable {X : Cx}
/-- set(t), the rule -/
def rSetOfTT (K : PySem.W.Frag) (P : Program) (w : World) : List V → Hp → VK → Prop := fun xs H Q => ∃ (l : Addr) (ks : List (Addr × List Int)), xs = [V.ref l] ∧ SqT K H l (ks.map fun p => V.ref p.1) ∧ (∀ p ∈ ks, SqT K H p.1 (p.2.map V.int)) ∧ ks.length < 64 ∧
  ∀ a L, H a = none → (∀ p ∈ L, p ∈ ks) → (∀ p ∈ ks, p.2 ∈ L.map (·.2)) → Q (.ref a) (upd H a (SetTO P w a L))
theorem cr_setOfTT (hc : X.calm = true) (hu : X.A.units + 64 < cLine) : CallR X (.type "set") (rSetOfTT X.K X.prog X.w) := by
  rintro pins s σ H xs us Q I r ⟨l, ks, rfl, tl, keys, few, won⟩
  rw [Vals.ref1 r]
  obtain ⟨its, rv, ⟨o, ho, oc, n, od⟩, _⟩ := I.tuple tl
  refine call_set_ofT (items := its.toArray) ks (I.ok.hd hc) ⟨o, ho, oc, n, od⟩ (by simpa using refs_of_vals rv) (fun p hp => I.isT (keys p hp)) few (by omega) fun h' tk L es ep t k g R => ?_
  refine ⟨.ref s.heap.objs.size, upd H s.heap.objs.size (SetTO X.prog X.w s.heap.objs.size L), I.laid (t' := tk) k (Nat.le_refl _) (setTO_new R.t0), rfl, won _ L (I.hok.fresh (Nat.le_refl _)) (fun p hp => List.mem_of_mem_take (g.sub p hp)) fun p hp => g.all p ?_⟩
  rw [List.take_length]
  exact hp
end
end L2

set_option Elab.async false
set_option linter.all false
set_option maxRecDepth 100000
set_option maxHeartbeats 3200000
/-! sorted(s) of a set with one tuple, or none -/
namespace L2
open PySem PySem.Spec PyProof.Rows SrtO
section
variable {P : Program} {w : World} {A : Around} {E : Value → Shared → Prop} {s : Shared}
theorem perm_one {α : Type} {l m : List α} (p : l.Perm m) (h : m.length ≤ 1) : l = m := by
  match m, h with
  | [], _ => exact p.eq_nil
  | [x], _ => exact List.perm_singleton.mp p
theorem swo_none {α : Type} : Swo fun (_ _ : α) => false := ⟨fun _ _ _ => rfl, fun _ _ _ _ _ => rfl⟩
theorem sorted_setOne {a : Addr} {L : List (Addr × List Int)} {es : Array (Int × Value)} {ep : Nat} {t : SetTable} {Q : Value → Shared → Prop} (R : SetTR P w s.heap a L es ep t) (hh : A.handled = none) (one : L.length ≤ 1)
    (won : ∀ s' p c, (∀ b o, s.heap.get? b = some o → s'.heap.get? b = some o) → s'.gens = s.gens → s'.os = s.os → s.heap.objs.size ≤ p → s'.heap.get? p = some (seqObj "list" (L.map fun q => Value.ref q.1).toArray c) → Q (.ref p) s') :
    wpAny (model P w) A (call (.builtin "sorted") [.ref a]) Q E s := by
  obtain ⟨o, ho, hex, hd⟩ := R.ob
  have size := R.size
  refine Calls.call_function_entry kind_sorted plain_sorted entry_sorted (args_sorted1 _) ?_
  unfold Builtin.«sorted»
  refine wpAny_bind (m := checkCount "sorted" 1 1 _) (wpAny_pure ?_)
  refine wpAny_bind (collect_set (A := A.in1) hh ⟨o, ho, hex.1, hd⟩ R.fits (by unfold scanBound; omega) R.tab.ris R.led fun s1 vs keep bigger hg hos pm => ?_)
  have vals : es.toList.map (·.2) = L.map fun q => Value.ref q.1 := by
    rw [R.rows]
    unfold rowsOf
    rw [List.map_map] <;> rfl
  have evs : vs = L.map fun q => Value.ref q.1 := by
    rw [vals] at pm
    exact perm_one pm (by rw [List.length_map]; exact one)
  subst evs
  have lz : (L.map fun q => Value.ref q.1).length ≤ sizeLine := by rw [List.length_map, sizeLine_eq]; omega
  refine wpAny_bind (wpAny_newList ?_ lz)
  have new : (s1.heap.push (seqObj "list" (L.map fun q => Value.ref q.1).toArray 0)).get? s1.heap.objs.size = some (seqObj "list" (L.map fun q => Value.ref q.1).toArray 0) := Heap.get?_push_size _ rfl
  refine wpAny_bind (wpAny_holding (wpAny_call_entry slot_list_sort ⟨_, new, rfl⟩ entry_list_sort
    (list_sort_ord (s := { s1 with heap := s1.heap.push (seqObj "list" (L.map fun q => Value.ref q.1).toArray 0) }) swo_none new lz (fun h => absurd h (by rw [List.length_map]; omega)) fun out h1 h2 => ⟨_, rfl, ?_⟩) (args_list_sort _)))
  have eo : out = L.map fun q => Value.ref q.1 := perm_one h2.perm (by rw [List.length_map]; exact one)
  subst eo
  obtain ⟨c, hc⟩ := sortedHeap_at (vs := L.map fun q => Value.ref q.1) (out := (L.map fun q => Value.ref q.1).toArray) new
  refine wpAny_pure ⟨_, rfl, won _ s1.heap.objs.size c (fun b u e => ?_) hg hos bigger hc⟩
  have lt := Heap.lt_size (keep b u e)
  have q := Heap.get?_push_of_some (seqObj "list" (L.map fun q => Value.ref q.1).toArray 0) (keep b u e)
  rw [← sortedHeap_old (vs := L.map fun q => Value.ref q.1) (out := (L.map fun q => Value.ref q.1).toArray) (Nat.ne_of_lt lt) (by rw [size_push']; exact Nat.lt_succ_of_lt lt)] at q
  exact q
end
section
variable {X : Cx}
def rSortedOne (K : PySem.W.Frag) (P : Program) (w : World) : List V → Hp → VK → Prop := fun vs H Q => ∃ (a : Addr) (L : List (Addr × List Int)), vs = [V.ref a] ∧ H a = some (SetTO P w a L) ∧ (∀ p ∈ L, SqT K H p.1 (p.2.map V.int)) ∧ (∀ p ∈ L, p.2 = []) ∧
  ((L.map (·.2)).Nodup → L.length ≤ 1 → ∀ p, H p = none → Q (.ref p) (upd H p (.lst (L.map fun q => V.ref q.1))))
theorem nils_one : ∀ {L : List (Addr × List Int)}, (L.map (·.2)).Nodup → (∀ p ∈ L, p.2 = []) → L.length ≤ 1
  | [], _, _ => Nat.zero_le _
  | [p], _, _ => Nat.le_refl _
  | p :: q :: L, nd, e => by
    have h1 := e p List.mem_cons_self
    have h2 := e q (List.mem_cons_of_mem _ List.mem_cons_self)
    have h3 := (List.nodup_cons.mp nd).1
    exact absurd (show p.2 ∈ (q :: L).map (·.2) by rw [List.map_cons, h1, h2]; exact List.mem_cons_self) h3
theorem cr_sortedOne (hc : X.calm = true) : CallR X (.builtin "sorted") (rSortedOne X.K X.prog X.w) := by
  rintro pins s σ H vs us Q I r ⟨a, L, rfl, ha, keys, nils, won⟩
  obtain ⟨es, ep, t, R⟩ := SetT0.full (show SetT0 X.prog X.w s.heap a L from (I.hok a _ ha).1) fun p hp => I.isT (keys p hp)
  have one := nils_one R.nd nils
  rw [Vals.ref1 r]
  refine sorted_setOne R (I.ok.hd hc) one fun s' p c keep hg hos le at' => ?_
  have new : H p = none := I.hok.fresh le
  have J : Inv X pins σ (upd H p (.lst (L.map fun q => V.ref q.1))) { s with heap := s'.heap, gens := s'.gens, drawn := s'.drawn, toks := s'.toks } := by
    refine I.call (ch := []) (Un.laid keep le new) (I.hok.laid keep le ⟨?_, _, c, vals_of_refs L, at'⟩) (by rw [hg]; exact I.bare) fun _ z => nomatch z
    rw [List.length_map, sizeLine_eq]
    omega
  have e : s' = { s with heap := s'.heap, gens := s'.gens, drawn := s'.drawn, toks := s'.toks } := by
    cases s'; cases s; cases hos; rfl
  rw [e]
  exact ⟨.ref p, _, J, rfl, won R.nd one p new⟩
end
end L2

set_option Elab.async false
set_option linter.all false
set_option maxRecDepth 100000
set_option maxHeartbeats 2000000
/-! len(o) by an own __len__ -/
namespace L2
open PySem PySem.Spec PyProof.Rows
section
variable {X : Cx} {CX : CXT} {k : Nat} {f C : Addr} {fd : FuncData} {ps : List Str} {sp : Sp} {E : XK}
def rLenO (C : Addr) (sp : Sp) (E : XK) : List V → Hp → VK → Prop := fun vs H Q => ∃ a dx fs, vs = [.ref a] ∧ H a = some (.ins C dx fs) ∧ sp [.ref a] H (fun v H' => ∃ n : Nat, v = .int n ∧ n < 2 ^ 62 ∧ Q (.int n) H') E
theorem call_lenO (F : FnOk X.prog X.w X.K X.mg X.base CX k f fd ps sp) (hr : Room (k + 1) X.A) (hs : PySem.W.findIn X.K (.ref C) "__len__" = some (some (.ref f))) (hf : PySem.W.isFn X.K (.ref f) = true) (hb : Binds X.K fd ps []) (hx : Passes CX X E) :
    CallR X (.builtin "len") (rLenO C sp E) := by
  rintro pins s σ H vs us Q I r ⟨a, dx, fs, rfl, ha, hsp⟩
  rw [Vals.ref1 r]
  obtain ⟨mA, J, _⟩ := ins_get I.hok ha
  obtain ⟨od, J, _⟩ := J.look
  obtain ⟨m, hF⟩ := I.fr
  refine PySem.W.len_K hF I.ok.mod.kin J hs hf ?_
  have sub : Sub X k X.A.in1 := Sub.in1 ⟨hr, rfl⟩
  have e0 : Env0 X.prog X.w X.K X.mg X.base X.A.in1 X.stack s H := by
    have e := I.env0
    exact ⟨by rw [sub.fr]; exact e.frames, e.mod, e.bs, e.bsz, e.funs, e.frf, e.hok, e.bare⟩
  have hl := F.len _ _ _ _ hsp
  refine wpAny_call (codeAny_mono (F.run X.A.in1 X.stack s H ⟨[.ref a], []⟩ [.ref a] [.ref a] _ E sub.room e0 (by
    have z := hb s [.ref a] I.kIn (by simpa using hl)
    simpa using z) (.cons rfl .nil) hsp) fun r s' hq => ?_)
  cases r with
  | error e => exact hx pins σ H s e s' I hq
  | ok fl =>
    cases fl with
    | ret w =>
      obtain ⟨z, H', I', rz, n, ez, hn, q⟩ := I.after hq
      subst ez
      obtain ⟨t, rfl⟩ := rz
      refine ⟨⟨Int.natCast_nonneg n, by omega⟩, .int n, H', I'.tok _, ⟨_, rfl⟩, q⟩
    | next => exact False.elim hq
    | brk => exact False.elim hq
    | cont => exact False.elim hq
end
end L2

set_option Elab.async false
set_option linter.all false
set_option maxRecDepth 100000
set_option maxHeartbeats 2000000
/-! values of any kind asked for their class; instances of an own class -/
namespace Sx
open PySem L2
/-- an own class whose instances are asked with isinstance -/
structure OwnK (K : PySem.W.Frag) (C : Addr) : Prop where
  cl : Cls K C
  co : PySem.W.findIn K (.ref C) "__class__" = some (some (.builtin "object.__class__"))
  s1 : PySem.W.specialIn K (.builtin "object.__class__") "__get__" = some (some (.builtin "getset_descriptor.__get__"))
  s2 : PySem.W.takesIn K (.builtin "object.__class__") = some true
  mo : PySem.W.mroIn K C (.type "object") = some true
  is : PySem.W.subIn K (.ref C) (.ref C) = some true
  ni : PySem.W.subIn K (.ref C) (.type "int") = some false
  nb : PySem.W.subIn K (.ref C) (.type "bool") = some false
  nt : PySem.W.subIn K (.ref C) (.type "tuple") = some false
  ns : PySem.W.subIn K (.ref C) (.type "str") = some false
  nl : PySem.W.subIn K (.ref C) (.type "list") = some false
theorem u1 {k : Nat} {A : Around} (r : Room k A) : A.units + 1 < cLine := by
  have := r.units
  omega
/-- isinstance(v, T) is b -/
def IsIn (K : PySem.W.Frag) (H : Hp) (v : V) (T : String) (b : Bool) : Prop := ∃ ty, KX K H v ty ∧ PySem.W.kitOne K ty (.type T) = some b
section
variable {K : PySem.W.Frag} {H H' : Hp} {B : Addr → Prop} {v : V} {Q : VK} {C : Addr}
theorem isi_in {T : String} {b : Bool} (h : IsIn K H v T b) (q : Q (.bl b) H) : rIsiV K [v, .ty T] H Q := by
  obtain ⟨ty, k, e⟩ := h
  exact ⟨v, .ty T, ty, .type T, b, rfl, .ty T, k, e, q⟩
theorem OwnK.ty (o : OwnK K C) {a dx : Addr} {fs : List (Str × V)} (h : H a = some (.ins C dx fs)) : KX K H (.ref a) (.ref C) := .inl (.base (.ins h o.cl o.co o.s1 o.s2 o.mo))
theorem OwnK.isin (o : OwnK K C) {a dx : Addr} {fs : List (Str × V)} (h : H a = some (.ins C dx fs)) {T : String} {b : Bool} (e : PySem.W.subIn K (.ref C) (.type T) = some b) (m : PySem.W.kitMeta T = true) : IsIn K H (.ref a) T b :=
  ⟨_, o.ty h, kit_exc e m⟩
/-- isinstance(o, C), o one of C's -/
theorem OwnK.own (o : OwnK K C) {a dx : Addr} {fs : List (Str × V)} (h : H a = some (.ins C dx fs)) (q : Q (.bl true) H) : rIsiV K [.ref a, .ref C] H Q := by
  refine ⟨.ref a, .ref C, .ref C, .ref C, true, rfl, .own C, o.ty h, ?_, q⟩
  unfold PySem.W.kitOne
  rw [if_pos (beq_self_eq_true _)]
theorem in_int (i : Int) : IsIn K H (.int i) "int" true := ⟨_, .inl (.base (.int i)), kit_ty (by decide +kernel)⟩
theorem in_int_b (i : Int) : IsIn K H (.int i) "bool" false := ⟨_, .inl (.base (.int i)), kit_ty (by decide +kernel)⟩
theorem in_int_t (i : Int) : IsIn K H (.int i) "tuple" false := ⟨_, .inl (.base (.int i)), kit_ty (by decide +kernel)⟩
theorem in_int_l (i : Int) : IsIn K H (.int i) "list" false := ⟨_, .inl (.base (.int i)), kit_ty (by decide +kernel)⟩
theorem in_int_s (i : Int) : IsIn K H (.int i) "str" false := ⟨_, .inl (.base (.int i)), kit_ty (by decide +kernel)⟩
theorem in_tup {p : Addr} {xs : List V} (h : H p = some (.tup xs)) : IsIn K H (.ref p) "tuple" true := ⟨_, .inl (.base (.tup h)), kit_ty (by decide +kernel)⟩
theorem in_tup_i {p : Addr} {xs : List V} (h : H p = some (.tup xs)) : IsIn K H (.ref p) "int" false := ⟨_, .inl (.base (.tup h)), kit_ty (by decide +kernel)⟩
theorem in_tup_b {p : Addr} {xs : List V} (h : H p = some (.tup xs)) : IsIn K H (.ref p) "bool" false := ⟨_, .inl (.base (.tup h)), kit_ty (by decide +kernel)⟩
theorem in_tup_l {p : Addr} {xs : List V} (h : H p = some (.tup xs)) : IsIn K H (.ref p) "list" false := ⟨_, .inl (.base (.tup h)), kit_ty (by decide +kernel)⟩
theorem in_tup_s {p : Addr} {xs : List V} (h : H p = some (.tup xs)) : IsIn K H (.ref p) "str" false := ⟨_, .inl (.base (.tup h)), kit_ty (by decide +kernel)⟩
theorem in_lst {p : Addr} {xs : List V} (h : H p = some (.lst xs)) : IsIn K H (.ref p) "list" true := ⟨_, .inl (.base (.lst h)), kit_ty (by decide +kernel)⟩
theorem in_lst_t {p : Addr} {xs : List V} (h : H p = some (.lst xs)) : IsIn K H (.ref p) "tuple" false := ⟨_, .inl (.base (.lst h)), kit_ty (by decide +kernel)⟩
/-- asked for int and for bool -/
def NI (K : PySem.W.Frag) (H : Hp) (v : V) : Prop := ∃ b c, IsIn K H v "int" b ∧ IsIn K H v "bool" c ∧ (b && !c) = isI v
theorem ni_int (i : Int) : NI K H (.int i) := ⟨_, _, in_int i, in_int_b i, rfl⟩
theorem ni_kn (k : Kn K H B v) : NI K H v := by
  cases k with
  | non => exact ⟨false, false, ⟨_, .inl (.base .non), kit_ty (by decide +kernel)⟩, ⟨_, .inl (.base .non), kit_ty (by decide +kernel)⟩, rfl⟩
  | bl b => exact ⟨true, true, ⟨_, .inl (.base (.bl b)), kit_ty (by decide +kernel)⟩, ⟨_, .inl (.base (.bl b)), kit_ty (by decide +kernel)⟩, rfl⟩
  | int i => exact ni_int i
  | str s => exact ⟨false, false, ⟨_, .inl (.base (.str s)), kit_ty (by decide +kernel)⟩, ⟨_, .inl (.base (.str s)), kit_ty (by decide +kernel)⟩, rfl⟩
  | lst h _ => exact ⟨false, false, ⟨_, .inl (.base (.lst h)), kit_ty (by decide +kernel)⟩, ⟨_, .inl (.base (.lst h)), kit_ty (by decide +kernel)⟩, rfl⟩
  | tup h _ => exact ⟨_, _, in_tup_i h, in_tup_b h, rfl⟩
  | exc ha hd e _ _ => exact ⟨false, false, ⟨_, .inr ⟨_, _, _, _, rfl, rfl, ha, hd, e.ec⟩, kit_exc e.ni (by decide +kernel)⟩, ⟨_, .inr ⟨_, _, _, _, rfl, rfl, ha, hd, e.ec⟩, kit_exc e.nb (by decide +kernel)⟩, rfl⟩
theorem OwnK.ni' (o : OwnK K C) {a dx : Addr} {fs : List (Str × V)} (h : H a = some (.ins C dx fs)) : NI K H (.ref a) := ⟨_, _, o.isin h o.ni (by decide +kernel), o.isin h o.nb (by decide +kernel), rfl⟩
/-- the number that a value is -/
def num? (f : Int → Bool) : V → Bool | .int i => f i | _ => false
def isBit : V → Bool := num? fun i => decide (0 ≤ i) && decide (i ≤ 1)
theorem tyOf_same {t : Value} (e : Same H H') (h : TyOf K H v t) : TyOf K H' v t := by
  cases h with
  | non => exact .non
  | bl x => exact .bl x
  | int i => exact .int i
  | str x => exact .str x
  | flt x => exact .flt x
  | lst g => exact .lst (e _ _ g)
  | frz g => exact .frz (e _ _ g)
  | tup g => exact .tup (e _ _ g)
  | dK g => exact .dK (e _ _ g)
  | dT g => exact .dT (e _ _ g)
  | ins g cl ha hn htk hm => exact .ins (e _ _ g) cl ha hn htk hm
theorem tyX_same {t : Value} (e : Same H H') (h : TyX K H v t) : TyX K H' v t := by
  cases h with
  | base g => exact .base (tyOf_same e g)
  | byt b => exact .byt b
  | set g => exact .set (e _ _ g)
  | kList g c => exact .kList g c
  | kTuple g c => exact .kTuple g c
  | kDict g c => exact .kDict g c
  | fTuple g => exact .fTuple (e _ _ g)
  | fDict g => exact .fDict (e _ _ g)
theorem isIn_same {T : String} {b : Bool} (e : Same H H') (h : IsIn K H v T b) : IsIn K H' v T b := by
  obtain ⟨ty, k, z⟩ := h
  refine ⟨ty, k.elim (fun k => .inl (tyX_same e k)) fun ⟨a, C, d, fs, e1, e2, ha, hd, c⟩ => .inr ⟨a, C, d, fs, e1, e2, e _ _ ha, e _ _ hd, c⟩, z⟩
theorem ni_same (e : Same H H') (h : NI K H v) : NI K H' v := by
  obtain ⟨b, c, h1, h2, z⟩ := h
  exact ⟨b, c, isIn_same e h1, isIn_same e h2, z⟩
theorem s_chain {σ : St} {r r' : R2} {ta tb tc : TE} (h : ta σ H fun x H1 => tb σ H1 fun y H2 => r x y H2 fun z H3 => ∃ k, z = .bl k ∧ if k = true then tc σ H3 fun w H4 => r' y w H4 Q else Q (.bl false) H3) : tChain r r' ta tb tc σ H Q := h
theorem s_fldS {σ : St} {D : Ends} {ta tv : TE} {f : Str} (h : tv σ H fun y H1 => ta σ H1 fun x H2 => ∃ a C dx fs, x = .ref a ∧ H2 a = some (.ins C dx fs) ∧ Cls K C ∧ NoAttr K C f ∧ fs.length < 1000 ∧ D.nx σ (upd H2 a (.ins C dx (putF f y fs)))) : sFld K ta tv f D σ H := h
theorem r_put {x : V} {a dx : Addr} {fs : List (Str × V)} {f : Str} {y : V} {P : Hp → Prop} (e : x = .ref a) (h : H a = some (.ins C dx fs)) (c : Cls K C) (n : NoAttr K C f) (l : fs.length < 1000) (q : ∀ H2, Keep a H H2 → H2 a = some (.ins C dx (putF f y fs)) → P H2) :
    ∃ a C dx fs, x = .ref a ∧ H a = some (.ins C dx fs) ∧ Cls K C ∧ NoAttr K C f ∧ fs.length < 1000 ∧ P (upd H a (.ins C dx (putF f y fs))) := ⟨a, C, dx, fs, e, h, c, n, l, q _ (put_keep rfl) upd_same⟩
theorem s_fld {σ : St} {ta : TE} {f : Str} (h : ta σ H fun x H1 => ∃ a C dx fs v, x = .ref a ∧ H1 a = some (.ins C dx fs) ∧ Cls K C ∧ NoAttr K C f ∧ fs.lookup f = some v ∧ Q v H1) : tFld K ta f σ H Q := h
theorem r_get {x : V} {a dx : Addr} {fs : List (Str × V)} {f : Str} {v : V} {P : V → Prop} (e : x = .ref a) (h : H a = some (.ins C dx fs)) (c : Cls K C) (n : NoAttr K C f) (l : fs.lookup f = some v) (q : P v) :
    ∃ a C dx fs v, x = .ref a ∧ H a = some (.ins C dx fs) ∧ Cls K C ∧ NoAttr K C f ∧ fs.lookup f = some v ∧ P v := ⟨a, C, dx, fs, v, e, h, c, n, l, q⟩
theorem s_dIn {σ : St} {ty td : TE} (h : ty σ H fun y H1 => td σ H1 fun x H2 => ∃ a o, x = .ref a ∧ DGet H2 a y o ∧ Q (.bl o.isSome) H2) : tDIn ty td σ H Q := h
theorem s_dNotIn {σ : St} {ty td : TE} (h : ty σ H fun y H1 => td σ H1 fun x H2 => ∃ a o, x = .ref a ∧ DGet H2 a y o ∧ Q (.bl (!o.isSome)) H2) : tDNotIn ty td σ H Q := h
theorem s_sl {σ : St} {r : V → Option Int → Option Int → Hp → VK → Prop} {te : TE} {tl th : TO} (h : te σ H fun x H1 => tl σ H1 fun l H2 => th σ H2 fun u H3 => r x l u H3 Q) : tSl r te tl th σ H Q := h
theorem s_noPart {σ : St} {R : Option Int → Hp → Prop} (h : R none H) : tNoPart σ H R := h
theorem s_part {σ : St} {t : TE} {R : Option Int → Hp → Prop} (h : t σ H fun x H1 => ∃ i, x = .int i ∧ R (some i) H1) : tPart t σ H R := h
/-- t[:j], a part of it -/
theorem r_take {p : Addr} {xs : List V} {j : Nat} (h : H p = some (.tup xs)) (lt : j < xs.length) (q : ∀ p' H2, H p' = none → Same H H2 → H2 p' = some (.tup (xs.take j)) → Q (.ref p') H2) : rSlA K (.ref p) none (some (j : Int)) H Q := by
  refine ⟨p, xs, rfl, SqT.of h, fun z => ?_, fun _ p' np => q p' _ np (Sx.Same.new np) ?_⟩
  · have e := z.2
    rw [HT.sIx_nat] at e
    omega
  · rw [upd_same]
    unfold cutV
    rw [HT.sIx_nat, HT.sIx_none, Nat.min_eq_left (Nat.le_of_lt lt)]
    rfl
/-- t[j + 1:] -/
theorem r_drop {p : Addr} {xs : List V} {j : Nat} (h : H p = some (.tup xs)) (lt : j < xs.length) (q : ∀ p' H2, H p' = none → Same H H2 → H2 p' = some (.tup (xs.drop (j + 1))) → Q (.ref p') H2) : rSlA K (.ref p) (some ((j : Int) + 1)) none H Q := by
  have e1 : ((j : Int) + 1) = ((j + 1 : Nat) : Int) := by omega
  rw [e1]
  refine ⟨p, xs, rfl, SqT.of h, fun z => ?_, fun _ p' np => q p' _ np (Sx.Same.new np) ?_⟩
  · have e := z.1
    rw [HT.sIx_nat] at e
    omega
  · rw [upd_same]
    unfold cutV
    rw [HT.sIx_nat, HT.sIx_none, Nat.min_eq_left lt, List.take_of_length_le (by rw [List.length_drop]; omega)]
/-- t + u -/
theorem r_cat {a b : Addr} {xs ys : List V} (ha : H a = some (.tup xs)) (hb : H b = some (.tup ys)) (sz : xs.length + ys.length ≤ sizeLine) (q : ∀ p H2, Same H H2 → H2 p = some (.tup (xs ++ ys)) → Q (.ref p) H2) : rCatA K (.ref a) (.ref b) H Q := by
  refine ⟨a, b, xs, ys, rfl, rfl, SqT.of ha, SqT.of hb, sz, fun e => q b H (L2.Same.refl _) ?_, fun _ e => q a H (L2.Same.refl _) ?_, fun _ _ p np => q p _ (Sx.Same.new np) upd_same⟩
  · rw [e]
    exact hb
  · rw [e, List.append_nil]
    exact ha
theorem s_meth {σ : St} {C : Addr} {m : Str} {sp : Sp} {dvs : List V} {E : XK} {ta : TE} {t : TA} (h : ta σ H fun x H1 => ∃ a dx fs, x = .ref a ∧ H1 a = some (.ins C dx fs) ∧ fs.lookup m = none ∧ t σ H1 fun vs H2 => sp (x :: (vs ++ dvs)) H2 Q E) : tMeth C m sp dvs E ta t σ H Q := h
theorem s_make {σ : St} {C : Addr} {sp : Sp} {dvs : List V} {E : XK} {t : TA} (h : t σ H fun vs H1 => ∀ x dx, H1 x = none → H1 dx = none → dx ≠ x → sp (.ref x :: (vs ++ dvs)) (upd (upd H1 dx (.own x)) x (.ins C dx [])) (fun v H2 => v = .non ∧ Q (.ref x) H2) E) : tMake C sp dvs E t σ H Q := h
theorem in_of {T : String} {b : Bool} (h : rIsiV K [v, .ty T] H fun z _ => z = .bl b) : IsIn K H v T b := by
  obtain ⟨x, c, t, u, b', e, kc, kx, ke, hb⟩ := h
  cases e
  cases kc
  cases hb
  exact ⟨t, kx, ke⟩
theorem in_iK (k : Kn K H B v) : IsIn K H v "int" (isI v || isB v) := in_of (c_isiI k rfl)
theorem in_bK (k : Kn K H B v) : IsIn K H v "bool" (isB v) := in_of (c_isiB k rfl)
theorem in_sK (k : Kn K H B v) : IsIn K H v "str" (isS v) := in_of (c_isiS k rfl)
theorem in_tK (k : Kn K H B v) : IsIn K H v "tuple" (isT H v) := in_of (c_isiT k rfl)
theorem in_lK (k : Kn K H B v) : IsIn K H v "list" (isL H v) := in_of (c_isiL k rfl)
theorem r_isN {x : V} (q : Q (.bl (decide (x = .non))) H) : V.non = V.non ∧ Q (.bl (decide (x = .non))) H := ⟨rfl, q⟩
theorem s_yes {σ : St} {R : Bool → Hp → Prop} (h : R true H) : tYes σ H R := h
theorem r_len {p : Addr} {xs : List V} (h : H p = some (.tup xs)) (q : Q (.int xs.length) H) : ∃ x n, [V.ref p] = [x] ∧ LenV K x H n ∧ Q (.int n) H := ⟨_, _, rfl, .inr ⟨xs, SqT.of h, rfl⟩, q⟩
end
end Sx

set_option Elab.async false
set_option linter.all false
set_option maxRecDepth 100000
set_option maxHeartbeats 2000000
/-! module dicts with text keys: .get with a default; not in a module's tuple of texts, of any value -/
namespace Sx
open PySem L2 PySem.Spec PyProof.Rows
section
variable {X : Cx} {o e f : Expr} {apos cpos : Pos} {td ty tx : TE}
def tKGet2 (K : PySem.W.Frag) (w : World) (td ty tx : TE) : TE := fun σ H Q => td σ H fun x H1 => ∃ d es n, x = .ref d ∧ KDict K w d es n ∧ ty σ H1 fun y H2 => tx σ H2 fun v H3 => ∃ (z : Str) (r : Option Value), y = .str z ∧ PySem.W.nsIn K d z = some r ∧
  ∃ v0, (∀ u, RelV v u → RelV v0 (r.getD u)) ∧ Q v0 H3
theorem pe_kget2 (ho : PE X o td) (he : PE X e ty) (hf : PE X f tx) (m : M2 X o "get" apos e f cpos) : PE X (.Call (.Attribute o "get" apos) [e, f] [] cpos) (tKGet2 X.K X.w td ty tx) := by
  refine ⟨fun pins s σ H Q I h => ?_⟩
  refine wpAny_Call_method m.base m.few m.line PySem.F.plainAttrs_dict PySem.F.slot_dict_get PySem.F.type_dict_get (thn (ho.run pins s σ H _ I h) fun u s1 ⟨x, H1, I1, rx, d, es, n, ex, D, q1⟩ => ?_)
  subst ex
  obtain rfl : u = Value.ref d := rx
  refine ⟨kd_type D I1, fun b q => ?_, ?_⟩
  · cases q
    exact ⟨_, I1.kIn d _ D.at_, rfl⟩
  rw [m.trees]
  refine Calls.callWith_builtin rfl (Calls.evalArgs_plain (Calls.spliced_cons (thn (he.run pins s1 σ H1 _ I1 q1) fun iv s2 ⟨y, H2, I2, ry, q2⟩ =>
    Calls.spliced_cons (thn (hf.run pins s2 σ H2 _ I2 q2) fun fv s3 ⟨v, H3, I3, rv, z, r, ey, en, v0, h0, q3⟩ => Calls.spliced_nil ?_))))
  subst ey
  obtain ⟨t, rfl⟩ := ry
  refine call_meetsIn PySem.F.slot_dict_get (kd_type D I3) PySem.F.entry_dict_get (PySem.F.args_dict_get_3 _ _ _) (meets_dict_get_default (strKind X.prog X.w) d (PySem.strKind_is X.prog X.w z t) D.low fv) ⟨_, PySem.W.mapOf_K (prog := X.prog) I3.kIn D.at_ D.lit, ?_⟩
  rw [PySem.W.find_K D.at_ en]
  exact ⟨v0, H3, I3.tok _, h0 fv rv, q3⟩
def rNotInT (K : PySem.W.Frag) : R2 := fun x y H Q => ∃ (p : Addr) (zs : List Str), y = .ref p ∧ SqT K H p (zs.map V.str) ∧ ((flatV x = true ∧ Q (.bl (!inV x (zs.map V.str))) H) ∨ ((∃ q xs, x = .ref q ∧ (SqL K H q xs ∨ SqT K H q xs)) ∧ Q (.bl true) H))
theorem flat_strs (zs : List Str) : (zs.map V.str).all flatV = true := by
  rw [List.all_eq_true]
  intro x hx
  obtain ⟨z, _, rfl⟩ := List.mem_map.mp hx
  rfl
theorem op_notIn_tS (hu : X.A.units + 1 < cLine) : OpR X (compareOp .NotIn) (rNotInT X.K) := by
  intro pins s σ H x y v u Q I rx ry h
  obtain ⟨p, zs, rfl, hq, h⟩ := h
  cases ry
  obtain ⟨its, r, pl, hz⟩ := I.tuple hq
  rcases h with ⟨fx, q⟩ | ⟨⟨a, xs, rfl, ha⟩, q⟩
  · refine SeqAt.notIn_tupleAt (eqU x) pl (fun w hw => mem_eqAt rx fx r (flat_strs zs) w (by simpa using hw)) ⟨.bl _, H, I, rfl, ?_⟩
    rw [show its.toArray.any (eqU x) = its.any (eqU x) by simp, any_eqU r (flat_strs zs)]
    exact q
  · cases rx
    refine SeqAt.notIn_tupleAt (fun _ => false) pl (fun w hw => ?_) ⟨.bl _, H, I, rfl, ?_⟩
    · obtain ⟨z, t, rfl⟩ : ∃ z t, w = Value.str z t := by
        have hw' : w ∈ its := by simpa using hw
        clear hw hq hz pl q ha
        have g : ∀ (zs : List Str) (us : List Value), Vals (zs.map V.str) us → w ∈ us → ∃ z t, w = Value.str z t := by
          intro zs
          induction zs with
          | nil =>
            intro us hv hm
            cases hv
            cases hm
          | cons z zs ih =>
            intro us hv hm
            cases hv with
            | cons rz rt =>
              obtain ⟨t, rfl⟩ := rz
              rcases List.mem_cons.mp hm with rfl | hm
              · exact ⟨z, t, rfl⟩
              · exact ih _ rt hm
        exact g zs its r hw'
      rcases ha with ha | ha
      · obtain ⟨its2, r2, pl2, hz2⟩ := I.list ha
        exact SeqAt.EqAt.str_list z t pl2.isList hu
      · obtain ⟨its2, r2, pl2, hz2⟩ := I.tuple ha
        exact SeqAt.EqAt.str_tuple z t pl2 hu
    · rw [show its.toArray.any (fun _ => false) = false by simp]
      exact q
end
end Sx

set_option Elab.async false
set_option linter.all false
set_option maxRecDepth 100000
set_option maxHeartbeats 2000000
namespace K60
open PySem L2 Sx
def top (i : Nat) : Stmt := PySem.Challenge.pw_nextguess_k60_points_of_kinds.main.body.getD i (.Pass ⟨0, 0, 0, 0⟩)
abbrev s_is_an_integer : Stmt := top 1
abbrev s_is_value : Stmt := top 2
abbrev s_demand_kind : Stmt := top 11
abbrev s_is_point_of : Stmt := top 12
abbrev s_are_points : Stmt := top 13
abbrev s_most_free : Stmt := top 14
abbrev s__law_cell : Stmt := top 16
abbrev s__law_pen : Stmt := top 17
abbrev s__law_pick : Stmt := top 18
abbrev s__law_points : Stmt := top 19
abbrev s__law_c : Stmt := top 20
abbrev s__law_same : Stmt := top 21
abbrev s__law_is_integer : Stmt := top 22
abbrev s__law_due : Stmt := top 23
abbrev s__law_spoilt : Stmt := top 24
abbrev s__law_refused : Stmt := top 25
abbrev s__law_right_free : Stmt := top 26
abbrev s__law_whole : Stmt := top 27
abbrev s_law : Stmt := top 28
theorem sc_is_an_integer : FnScope ["value"] ["value"] (defScope s_is_an_integer) := ⟨rfl, rfl, rfl, by decide +kernel, rfl, by decide +kernel, by decide +kernel⟩
theorem sc_is_value : FnScope ["value"] ["value"] (defScope s_is_value) := ⟨rfl, rfl, rfl, by decide +kernel, rfl, by decide +kernel, by decide +kernel⟩
theorem sc_demand_kind : FnScope ["kind"] ["kind"] (defScope s_demand_kind) := ⟨rfl, rfl, rfl, by decide +kernel, rfl, by decide +kernel, by decide +kernel⟩
theorem sc_is_point_of : FnScope ["kind", "value", "length", "member"] ["kind", "value", "length"] (defScope s_is_point_of) := ⟨rfl, rfl, rfl, by decide +kernel, rfl, by decide +kernel, by decide +kernel⟩
theorem sc_are_points : FnScope ["kind", "value", "length", "point"] ["kind", "value"] (defScope s_are_points) := ⟨rfl, rfl, rfl, by decide +kernel, rfl, by decide +kernel, by decide +kernel⟩
theorem sc_most_free : FnScope ["kind", "c"] ["kind", "c"] (defScope s_most_free) := ⟨rfl, rfl, rfl, by decide +kernel, rfl, by decide +kernel, by decide +kernel⟩
theorem sc__law_cell : FnScope ["script", "k"] ["script", "k"] (defScope s__law_cell) := ⟨rfl, rfl, rfl, by decide +kernel, rfl, by decide +kernel, by decide +kernel⟩
theorem sc__law_pen : FnScope ["script", "k", "cell"] ["script", "k"] (defScope s__law_pen) := ⟨rfl, rfl, rfl, by decide +kernel, rfl, by decide +kernel, by decide +kernel⟩
theorem sc__law_pick : FnScope ["pen", "many", "digit", "mixed"] ["pen", "many"] (defScope s__law_pick) := ⟨rfl, rfl, rfl, by decide +kernel, rfl, by decide +kernel, by decide +kernel⟩
theorem sc__law_points : FnScope ["pen", "kind", "c", "most", "many", "span", "points", "k", "t"] ["pen", "kind", "c", "most"] (defScope s__law_points) := ⟨rfl, rfl, rfl, by decide +kernel, rfl, by decide +kernel, by decide +kernel⟩
theorem sc__law_c : FnScope ["pen", "kind"] ["pen", "kind"] (defScope s__law_c) := ⟨rfl, rfl, rfl, by decide +kernel, rfl, by decide +kernel, by decide +kernel⟩
theorem sc__law_same : FnScope ["came", "due", "k"] ["came", "due"] (defScope s__law_same) := ⟨rfl, rfl, rfl, by decide +kernel, rfl, by decide +kernel, by decide +kernel⟩
theorem sc__law_is_integer : FnScope ["value"] ["value"] (defScope s__law_is_integer) := ⟨rfl, rfl, rfl, by decide +kernel, rfl, by decide +kernel, by decide +kernel⟩
theorem sc__law_due : FnScope ["kind", "value", "longest", "point", "number"] ["kind", "value"] (defScope s__law_due) := ⟨rfl, rfl, rfl, by decide +kernel, rfl, by decide +kernel, by decide +kernel⟩
theorem sc__law_spoilt : FnScope ["pen", "points", "at", "point", "place", "way", "other"] ["pen", "points"] (defScope s__law_spoilt) := ⟨rfl, rfl, rfl, by decide +kernel, rfl, by decide +kernel, by decide +kernel⟩
theorem sc__law_refused : FnScope ["kind", "value", "e"] ["kind", "value"] (defScope s__law_refused) := ⟨rfl, rfl, rfl, by decide +kernel, rfl, by decide +kernel, by decide +kernel⟩
theorem sc__law_right_free : FnScope ["kind", "c", "due"] ["kind", "c"] (defScope s__law_right_free) := ⟨rfl, rfl, rfl, by decide +kernel, rfl, by decide +kernel, by decide +kernel⟩
theorem sc__law_whole : FnScope ["script", "words", "k", "pen", "kind", "c", "points", "values", "other", "value", "bad"] ["script"] (defScope s__law_whole) := ⟨rfl, rfl, rfl, by decide +kernel, rfl, by decide +kernel, by decide +kernel⟩
theorem sc_law : FnScope ["script"] ["script"] (defScope s_law) := ⟨rfl, rfl, rfl, by decide +kernel, rfl, by decide +kernel, by decide +kernel⟩
structure Ad where
  a_is_an_integer : Addr
  d_is_an_integer : FuncData
  a_is_value : Addr
  d_is_value : FuncData
  a_demand_kind : Addr
  d_demand_kind : FuncData
  a_is_point_of : Addr
  d_is_point_of : FuncData
  a_are_points : Addr
  d_are_points : FuncData
  a_most_free : Addr
  d_most_free : FuncData
  a__law_cell : Addr
  d__law_cell : FuncData
  a__law_pen : Addr
  d__law_pen : FuncData
  a__law_pick : Addr
  d__law_pick : FuncData
  a__law_points : Addr
  d__law_points : FuncData
  a__law_c : Addr
  d__law_c : FuncData
  a__law_same : Addr
  d__law_same : FuncData
  a__law_is_integer : Addr
  d__law_is_integer : FuncData
  a__law_due : Addr
  d__law_due : FuncData
  a__law_spoilt : Addr
  d__law_spoilt : FuncData
  a__law_refused : Addr
  d__law_refused : FuncData
  a__law_right_free : Addr
  d__law_right_free : FuncData
  a__law_whole : Addr
  d__law_whole : FuncData
  a_law : Addr
  d_law : FuncData
  c_Undefined : Addr
  i_Undefined : Addr
  c_GuessError : Addr
  p_KINDS : Addr
  p_OF_VALUES : Addr
  p_LENGTHS : Addr
  p_LENGTHS_0 : Addr
  p_LENGTHS_1 : Addr
  p_LENGTHS_2 : Addr
  p_LENGTHS_3 : Addr
  p_LENGTHS_4 : Addr
  p_LENGTHS_5 : Addr
  p_MOST_FREE : Addr
structure Txt (P : Program) (w : World) (K : PySem.W.Frag) (mg : Str → Option Value) (A : Ad) : Prop where
  g_is_an_integer : mg "is_an_integer" = some (.ref A.a_is_an_integer)
  F_is_an_integer : Fun K "is_an_integer" "is_an_integer" s_is_an_integer A.a_is_an_integer A.d_is_an_integer
  g_is_value : mg "is_value" = some (.ref A.a_is_value)
  F_is_value : Fun K "is_value" "is_value" s_is_value A.a_is_value A.d_is_value
  g_demand_kind : mg "demand_kind" = some (.ref A.a_demand_kind)
  F_demand_kind : Fun K "demand_kind" "demand_kind" s_demand_kind A.a_demand_kind A.d_demand_kind
  g_is_point_of : mg "is_point_of" = some (.ref A.a_is_point_of)
  F_is_point_of : Fun K "is_point_of" "is_point_of" s_is_point_of A.a_is_point_of A.d_is_point_of
  g_are_points : mg "are_points" = some (.ref A.a_are_points)
  F_are_points : Fun K "are_points" "are_points" s_are_points A.a_are_points A.d_are_points
  g_most_free : mg "most_free" = some (.ref A.a_most_free)
  F_most_free : Fun K "most_free" "most_free" s_most_free A.a_most_free A.d_most_free
  g__law_cell : mg "_law_cell" = some (.ref A.a__law_cell)
  F__law_cell : Fun K "_law_cell" "_law_cell" s__law_cell A.a__law_cell A.d__law_cell
  g__law_pen : mg "_law_pen" = some (.ref A.a__law_pen)
  F__law_pen : Fun K "_law_pen" "_law_pen" s__law_pen A.a__law_pen A.d__law_pen
  g__law_pick : mg "_law_pick" = some (.ref A.a__law_pick)
  F__law_pick : Fun K "_law_pick" "_law_pick" s__law_pick A.a__law_pick A.d__law_pick
  g__law_points : mg "_law_points" = some (.ref A.a__law_points)
  F__law_points : Fun K "_law_points" "_law_points" s__law_points A.a__law_points A.d__law_points
  g__law_c : mg "_law_c" = some (.ref A.a__law_c)
  F__law_c : Fun K "_law_c" "_law_c" s__law_c A.a__law_c A.d__law_c
  g__law_same : mg "_law_same" = some (.ref A.a__law_same)
  F__law_same : Fun K "_law_same" "_law_same" s__law_same A.a__law_same A.d__law_same
  g__law_is_integer : mg "_law_is_integer" = some (.ref A.a__law_is_integer)
  F__law_is_integer : Fun K "_law_is_integer" "_law_is_integer" s__law_is_integer A.a__law_is_integer A.d__law_is_integer
  g__law_due : mg "_law_due" = some (.ref A.a__law_due)
  F__law_due : Fun K "_law_due" "_law_due" s__law_due A.a__law_due A.d__law_due
  g__law_spoilt : mg "_law_spoilt" = some (.ref A.a__law_spoilt)
  F__law_spoilt : Fun K "_law_spoilt" "_law_spoilt" s__law_spoilt A.a__law_spoilt A.d__law_spoilt
  g__law_refused : mg "_law_refused" = some (.ref A.a__law_refused)
  F__law_refused : Fun K "_law_refused" "_law_refused" s__law_refused A.a__law_refused A.d__law_refused
  g__law_right_free : mg "_law_right_free" = some (.ref A.a__law_right_free)
  F__law_right_free : Fun K "_law_right_free" "_law_right_free" s__law_right_free A.a__law_right_free A.d__law_right_free
  g__law_whole : mg "_law_whole" = some (.ref A.a__law_whole)
  F__law_whole : Fun K "_law_whole" "_law_whole" s__law_whole A.a__law_whole A.d__law_whole
  g_law : mg "law" = some (.ref A.a_law)
  F_law : Fun K "law" "law" s_law A.a_law A.d_law
  X_Undefined : PySem.SupX_what.XTxt P K mg "Undefined" A.c_Undefined A.i_Undefined
  E_Undefined : Sx.ExK K A.c_Undefined
  n_abs : mg "abs" = none
  n_all : mg "all" = none
  n_any : mg "any" = none
  n_bool : mg "bool" = none
  n_int : mg "int" = none
  n_isinstance : mg "isinstance" = none
  n_len : mg "len" = none
  n_list : mg "list" = none
  n_min : mg "min" = none
  n_range : mg "range" = none
  n_str : mg "str" = none
  n_tuple : mg "tuple" = none
  g_GuessError : mg "GuessError" = some (.ref A.c_GuessError)
  kg_Undefined_GuessError : PySem.W.kitOne K (.ref A.c_Undefined) (.ref A.c_GuessError) = some true
  k_KINDS : mg "KINDS" = some (.ref A.p_KINDS)
  q_KINDS : ∃ (o : Obj) (its : Array Value) (n : Nat), K.lookup A.p_KINDS = some o ∧ o.cls = .type "tuple" ∧ o.data = .seq its n ∧ its.size ≤ sizeLine ∧ Vals [.str (Str.ofString "steps"), .str (Str.ofString "stretches"), .str (Str.ofString "boxes"), .str (Str.ofString "half planes"), .str (Str.ofString "parities"), .str (Str.ofString "ands")] its.toList
  k_OF_VALUES : mg "OF_VALUES" = some (.ref A.p_OF_VALUES)
  q_OF_VALUES : ∃ (o : Obj) (its : Array Value) (n : Nat), K.lookup A.p_OF_VALUES = some o ∧ o.cls = .type "tuple" ∧ o.data = .seq its n ∧ its.size ≤ sizeLine ∧ Vals [.str (Str.ofString "parities"), .str (Str.ofString "ands")] its.toList
  k_LENGTHS : mg "LENGTHS" = some (.ref A.p_LENGTHS)
  d_LENGTHS : ∃ es n, KDict K w A.p_LENGTHS es n
  v_LENGTHS_0 : PySem.W.nsIn K A.p_LENGTHS "steps" = some (some (.ref A.p_LENGTHS_0))
  q_LENGTHS_0 : ∃ (o : Obj) (its : Array Value) (n : Nat), K.lookup A.p_LENGTHS_0 = some o ∧ o.cls = .type "tuple" ∧ o.data = .seq its n ∧ its.size ≤ sizeLine ∧ Vals [.int 1] its.toList
  v_LENGTHS_1 : PySem.W.nsIn K A.p_LENGTHS "stretches" = some (some (.ref A.p_LENGTHS_1))
  q_LENGTHS_1 : ∃ (o : Obj) (its : Array Value) (n : Nat), K.lookup A.p_LENGTHS_1 = some o ∧ o.cls = .type "tuple" ∧ o.data = .seq its n ∧ its.size ≤ sizeLine ∧ Vals [.int 1] its.toList
  v_LENGTHS_2 : PySem.W.nsIn K A.p_LENGTHS "boxes" = some (some (.ref A.p_LENGTHS_2))
  q_LENGTHS_2 : ∃ (o : Obj) (its : Array Value) (n : Nat), K.lookup A.p_LENGTHS_2 = some o ∧ o.cls = .type "tuple" ∧ o.data = .seq its n ∧ its.size ≤ sizeLine ∧ Vals [.int 1, .int 2, .int 3] its.toList
  v_LENGTHS_3 : PySem.W.nsIn K A.p_LENGTHS "half planes" = some (some (.ref A.p_LENGTHS_3))
  q_LENGTHS_3 : ∃ (o : Obj) (its : Array Value) (n : Nat), K.lookup A.p_LENGTHS_3 = some o ∧ o.cls = .type "tuple" ∧ o.data = .seq its n ∧ its.size ≤ sizeLine ∧ Vals [.int 2] its.toList
  v_LENGTHS_4 : PySem.W.nsIn K A.p_LENGTHS "parities" = some (some (.ref A.p_LENGTHS_4))
  q_LENGTHS_4 : ∃ (o : Obj) (its : Array Value) (n : Nat), K.lookup A.p_LENGTHS_4 = some o ∧ o.cls = .type "tuple" ∧ o.data = .seq its n ∧ its.size ≤ sizeLine ∧ Vals [.int 1, .int 2, .int 3, .int 4] its.toList
  v_LENGTHS_5 : PySem.W.nsIn K A.p_LENGTHS "ands" = some (some (.ref A.p_LENGTHS_5))
  q_LENGTHS_5 : ∃ (o : Obj) (its : Array Value) (n : Nat), K.lookup A.p_LENGTHS_5 = some o ∧ o.cls = .type "tuple" ∧ o.data = .seq its n ∧ its.size ≤ sizeLine ∧ Vals [.int 1, .int 2, .int 3, .int 4] its.toList
  k_MOST_FREE : mg "MOST_FREE" = some (.ref A.p_MOST_FREE)
  d_MOST_FREE : ∃ es n, KDict K w A.p_MOST_FREE es n
  v_MOST_FREE_0 : ∃ t, PySem.W.nsIn K A.p_MOST_FREE "steps" = some (some (.int 1 t))
  v_MOST_FREE_1 : ∃ t, PySem.W.nsIn K A.p_MOST_FREE "stretches" = some (some (.int 2 t))
  v_MOST_FREE_2 : ∃ t, PySem.W.nsIn K A.p_MOST_FREE "half planes" = some (some (.int 3 t))
  z_MOST_FREE_0 : PySem.W.nsIn K A.p_MOST_FREE "parities" = some none
  z_MOST_FREE_1 : PySem.W.nsIn K A.p_MOST_FREE "ands" = some none
section
variable {P : Program} {w : World} {K : PySem.W.Frag} {mg : Str → Option Value} {A : Ad}
theorem Txt.g_Undefined (T : Txt P w K mg A) : mg "Undefined" = some (.ref A.c_Undefined) := T.X_Undefined.gC
theorem B_is_an_integer (T : Txt P w K mg A) : Binds K A.d_is_an_integer ["value"] [] := T.F_is_an_integer.binds (ps := ["value"]) fun _ _ _ _ _ _ us hl => match us, hl with | [_], _ => rfl
theorem B_is_value (T : Txt P w K mg A) : Binds K A.d_is_value ["value"] [] := T.F_is_value.binds (ps := ["value"]) fun _ _ _ _ _ _ us hl => match us, hl with | [_], _ => rfl
theorem B_demand_kind (T : Txt P w K mg A) : Binds K A.d_demand_kind ["kind"] [] := T.F_demand_kind.binds (ps := ["kind"]) fun _ _ _ _ _ _ us hl => match us, hl with | [_], _ => rfl
theorem B_is_point_of (T : Txt P w K mg A) : Binds K A.d_is_point_of ["kind", "value", "length"] [] := T.F_is_point_of.binds (ps := ["kind", "value", "length"]) fun _ _ _ _ _ _ us hl => match us, hl with | [_, _, _], _ => rfl
theorem B_are_points (T : Txt P w K mg A) : Binds K A.d_are_points ["kind", "value"] [] := T.F_are_points.binds (ps := ["kind", "value"]) fun _ _ _ _ _ _ us hl => match us, hl with | [_, _], _ => rfl
theorem B_most_free (T : Txt P w K mg A) : Binds K A.d_most_free ["kind", "c"] [] := T.F_most_free.binds (ps := ["kind", "c"]) fun _ _ _ _ _ _ us hl => match us, hl with | [_, _], _ => rfl
theorem B__law_cell (T : Txt P w K mg A) : Binds K A.d__law_cell ["script", "k"] [] := T.F__law_cell.binds (ps := ["script", "k"]) fun _ _ _ _ _ _ us hl => match us, hl with | [_, _], _ => rfl
theorem B__law_pen (T : Txt P w K mg A) : Binds K A.d__law_pen ["script", "k"] [] := T.F__law_pen.binds (ps := ["script", "k"]) fun _ _ _ _ _ _ us hl => match us, hl with | [_, _], _ => rfl
theorem B__law_pick (T : Txt P w K mg A) : Binds K A.d__law_pick ["pen", "many"] [] := T.F__law_pick.binds (ps := ["pen", "many"]) fun _ _ _ _ _ _ us hl => match us, hl with | [_, _], _ => rfl
theorem B__law_points (T : Txt P w K mg A) : Binds K A.d__law_points ["pen", "kind", "c", "most"] [] := T.F__law_points.binds (ps := ["pen", "kind", "c", "most"]) fun _ _ _ _ _ _ us hl => match us, hl with | [_, _, _, _], _ => rfl
theorem B__law_c (T : Txt P w K mg A) : Binds K A.d__law_c ["pen", "kind"] [] := T.F__law_c.binds (ps := ["pen", "kind"]) fun _ _ _ _ _ _ us hl => match us, hl with | [_, _], _ => rfl
theorem B__law_same (T : Txt P w K mg A) : Binds K A.d__law_same ["came", "due"] [] := T.F__law_same.binds (ps := ["came", "due"]) fun _ _ _ _ _ _ us hl => match us, hl with | [_, _], _ => rfl
theorem B__law_is_integer (T : Txt P w K mg A) : Binds K A.d__law_is_integer ["value"] [] := T.F__law_is_integer.binds (ps := ["value"]) fun _ _ _ _ _ _ us hl => match us, hl with | [_], _ => rfl
theorem B__law_due (T : Txt P w K mg A) : Binds K A.d__law_due ["kind", "value"] [] := T.F__law_due.binds (ps := ["kind", "value"]) fun _ _ _ _ _ _ us hl => match us, hl with | [_, _], _ => rfl
theorem B__law_spoilt (T : Txt P w K mg A) : Binds K A.d__law_spoilt ["pen", "points"] [] := T.F__law_spoilt.binds (ps := ["pen", "points"]) fun _ _ _ _ _ _ us hl => match us, hl with | [_, _], _ => rfl
theorem B__law_refused (T : Txt P w K mg A) : Binds K A.d__law_refused ["kind", "value"] [] := T.F__law_refused.binds (ps := ["kind", "value"]) fun _ _ _ _ _ _ us hl => match us, hl with | [_, _], _ => rfl
theorem B__law_right_free (T : Txt P w K mg A) : Binds K A.d__law_right_free ["kind", "c"] [] := T.F__law_right_free.binds (ps := ["kind", "c"]) fun _ _ _ _ _ _ us hl => match us, hl with | [_, _], _ => rfl
theorem B__law_whole (T : Txt P w K mg A) : Binds K A.d__law_whole ["script"] [] := T.F__law_whole.binds (ps := ["script"]) fun _ _ _ _ _ _ us hl => match us, hl with | [_], _ => rfl
theorem B_law (T : Txt P w K mg A) : Binds K A.d_law ["script"] [] := T.F_law.binds (ps := ["script"]) fun _ _ _ _ _ _ us hl => match us, hl with | [_], _ => rfl
def kg_are_points_kind_value : List Value → List Value → List Value := fun us ws => match us, ws with | [], [x0, x1] => [x0, x1] | _, _ => []
def kv_are_points_kind_value : List V → List V → List V := fun us ws => match us, ws with | [], [x0, x1] => [x0, x1] | _, _ => []
theorem KB_are_points_kind_value (T : Txt P w K mg A) : KBinds K A.d_are_points ["kind", "value"] ["kind", "value"] kg_are_points_kind_value kv_are_points_kind_value := by
  obtain ⟨oc, od, kV, doc, pm, an, cdv, ct, osl, e, _, _⟩ := T.F_are_points.ex
  rw [e]
  refine ⟨fun s us ws _ hl => ?_, fun {vs us zs ws} r rz => ?_⟩
  · match us, ws, hl with
    | [], [_, _], _ => exact .of_eq rfl
  · cases r with
    | cons _ _ => exact .nil
    | nil =>
      cases rz with
      | nil => exact .nil
      | cons r0 rz =>
        cases rz with
        | nil => exact .nil
        | cons r1 rz =>
          cases rz with
          | cons _ _ => exact .nil
          | nil => exact (.cons r0 (.cons r1 .nil))
def kg_most_free_kind_c : List Value → List Value → List Value := fun us ws => match us, ws with | [], [x0, x1] => [x0, x1] | _, _ => []
def kv_most_free_kind_c : List V → List V → List V := fun us ws => match us, ws with | [], [x0, x1] => [x0, x1] | _, _ => []
theorem KB_most_free_kind_c (T : Txt P w K mg A) : KBinds K A.d_most_free ["kind", "c"] ["kind", "c"] kg_most_free_kind_c kv_most_free_kind_c := by
  obtain ⟨oc, od, kV, doc, pm, an, cdv, ct, osl, e, _, _⟩ := T.F_most_free.ex
  rw [e]
  refine ⟨fun s us ws _ hl => ?_, fun {vs us zs ws} r rz => ?_⟩
  · match us, ws, hl with
    | [], [_, _], _ => exact .of_eq rfl
  · cases r with
    | cons _ _ => exact .nil
    | nil =>
      cases rz with
      | nil => exact .nil
      | cons r0 rz =>
        cases rz with
        | nil => exact .nil
        | cons r1 rz =>
          cases rz with
          | cons _ _ => exact .nil
          | nil => exact (.cons r0 (.cons r1 .nil))
end
abbrev inSc : Scope := { kind := .function, names := [(Str.ofString ".0", .local), (Str.ofString "length", .cell), (Str.ofString "all", .globalImplicit), (Str.ofString "kind", .cell), (Str.ofString "value", .cell)], isGenerator := false, isCoroutine := false }
end K60

set_option Elab.async false
set_option linter.all false
set_option maxRecDepth 100000
set_option maxHeartbeats 2000000
namespace K60
open PySem L2 Sx
local macro_rules | `(tactic| walk_at "cond") => `(tactic| first
  | assumption
  | decide
  | exact c_mul_r (by first | decide | omega) (by first | decide | omega)
  | exact c_mul_l (by first | decide | omega) (by first | decide | omega)
  | exact c_div (by first | decide | omega) (by first | decide | omega)
  | exact c_pow (by first | decide | omega) (by first | decide | omega) (by first | decide | omega)
  | omega)
local macro_rules | `(tactic| walk_at "ne") => `(tactic| first
  | assumption
  | (refine Ne.symm ?_; assumption)
  | (refine' Flow.ne ?nh ?nn; (case nn => assumption); (case nh => walk_at "fl"))
  | (refine Ne.symm ?_; refine' Flow.ne ?nh ?nn; (case nn => assumption); (case nh => walk_at "fl"))
  | (refine' ne_of_none ?nh ?nn; (case nn => assumption); (case nh => walk_at "at"))
  | (refine Ne.symm ?_; refine' ne_of_none ?nh ?nn; (case nn => assumption); (case nh => walk_at "at")))
local macro_rules | `(tactic| walk_at "at") => `(tactic| first
  | assumption
  | (refine Same.up (by assumption) ?_; walk_at "at")
  | (refine Keep.up (by assumption) (by walk_at "ne") ?_; walk_at "at"))
local macro_rules | `(tactic| walk_at "fl") => `(tactic| first
  | assumption
  | (refine Flow.same (by assumption) ?_; walk_at "fl")
  | (refine Flow.keep (by assumption) (by walk_at "ne") ?_; walk_at "fl"))
local macro_rules | `(tactic| walk_at "fr") => `(tactic| first
  | assumption
  | (refine same_free (by assumption) ?_; walk_at "fr")
  | (refine Keep.free (by assumption) (by walk_at "ne") ?_; walk_at "fr"))
local macro_rules | `(tactic| walk_at "kp") => `(tactic| first
  | assumption
  | exact Keep.refl _ _
  | (refine Keep.trans ?_ (by assumption); walk_at "kp")
  | (refine Keep.trans ?_ (Keep.same (by assumption)); walk_at "kp"))
local macro_rules | `(tactic| walk_at "sm") => `(tactic| first
  | assumption
  | exact L2.Same.refl _
  | (refine L2.Same.trans ?_ (by assumption); walk_at "sm"))
local macro_rules | `(tactic| walk_at "sz") => `(tactic| first | exact Nat.le_of_ble_eq_true rfl | omega)
local macro_rules | `(tactic| walk_at "new") => `(tactic| (intro p np; generalize hE : upd _ p _ = H2; have s2 := new_same np hE; have h2 := new_at hE; clear hE))
local macro_rules | `(tactic| walk_at "newx") => `(tactic| (intro e d na nd hda; generalize hE : upd (upd _ d _) e _ = H2; have s2 := newx_same na nd hE; have h2 := newx_at hE; have h3 := newx_d hda hE; clear hE))
local macro_rules | `(tactic| walk_at "s1") => `(tactic| first
  | with_reducible refine s_seq ?_
  | with_reducible refine s_asg ?_
  | with_reducible refine s_name ?_
  | with_reducible refine s_ret ?_
  | with_reducible refine s_c ?_
  | ((with_reducible refine' s_var ?hv ?_); (case hv => rfl))
  | with_reducible refine s_op ?_
  | with_reducible refine s_un ?_
  | with_reducible refine s_ifS ?_
  | with_reducible refine s_cb ?_
  | with_reducible refine s_cons ?_
  | with_reducible refine s_nil ?_
  | with_reducible refine s_call ?_
  | with_reducible refine s_test ?_
  | with_reducible refine s_tB ?_
  | with_reducible refine s_bl ?_
  | with_reducible refine s_and ?_
  | with_reducible refine s_or ?_
  | with_reducible refine s_not ?_
  | with_reducible refine s_andV ?_
  | with_reducible refine s_orV ?_
  | with_reducible refine s_notV ?_
  | with_reducible refine s_blV ?_
  | with_reducible refine s_if ?_
  | with_reducible refine s_tup ?_
  | with_reducible refine s_lst ?_
  | with_reducible refine s_drop ?_
  | with_reducible refine s_next ?_
  | with_reducible refine s_sub ?_
  | with_reducible refine s_bm ?_
  | with_reducible refine s_callK ?_
  | with_reducible refine s_brk ?_
  | with_reducible refine s_cont ?_
  | with_reducible refine r_I0 ?_
  | with_reducible refine r_U ?_
  | with_reducible refine r_eqI ?_
  | with_reducible refine r_neI ?_
  | with_reducible refine r_isB ?_
  | with_reducible refine r_notB ?_
  | with_reducible refine i_t ?_
  | with_reducible refine i_f ?_
  | with_reducible refine i_nt ?_
  | with_reducible refine i_nf ?_
  | ((with_reducible refine' r_I ?hc ?_); (case hc => walk_at "cond"))
  | (with_reducible refine .inl ⟨_, rfl, ?_⟩)
  | (with_reducible refine ⟨_, rfl, ?_⟩)
  | ((with_reducible refine' r_ixL ?hx ?ha ?_); (case hx => walk_at "at"); (case ha => rfl))
  | ((with_reducible refine' r_ixT ?hx ?ha ?_); (case hx => walk_at "at"); (case ha => rfl))
  | ((with_reducible refine' r_setL ?hx ?ha ?_); (case hx => walk_at "at"); (case ha => rfl); intro H2 k2 h2; (try dsimp only [List.set, Int.toNat] at h2))
  | ((with_reducible refine' r_app ?hx ?hl ?_); (case hx => walk_at "at"); (case hl => first | exact Nat.lt_of_ble_eq_true rfl | omega); intro H2 k2 h2)
  | ((with_reducible refine' ty_list ?hx ?_); (case hx => walk_at "at"))
  | (refine And.intro (by (with_reducible show _ ≤ sizeLine); walk_at "sz") ?_; walk_at "new")
  | with_reducible refine s_exv ?_
  | walk_at "newx")
local macro_rules | `(tactic| walk_at "sx") => `(tactic| repeat (walk_at "s1"))
local macro_rules | `(tactic| walk_at "s2") => `(tactic| first
  | ((with_reducible refine' r_ixG ?hx ?hn ?_); (case hx => walk_at "at"); (case hn => omega))
  | ((with_reducible refine' r_ixGT ?hx ?hn ?_); (case hx => walk_at "at"); (case hn => omega))
  | (with_reducible refine ig_cons (fun hix => ?_) (fun hix => ?_))
  | ((with_reducible refine ig_nil ?_); omega)
  | ((with_reducible refine' i_T ?hc ?_); (case hc => omega))
  | ((with_reducible refine' i_F ?hc ?_); (case hc => omega))
  | (with_reducible refine i_2 (fun hc => ?_) (fun hc => ?_))
  | (with_reducible refine i_n2 (fun hc => ?_) (fun hc => ?_)))
local macro_rules | `(tactic| walk_at "go") => `(tactic| repeat' (first | walk_at "s1" | walk_at "s2"))

local macro_rules | `(tactic| walk_at "s1") => `(tactic| first
  | with_reducible refine s_chain ?_
  | with_reducible refine s_fldS ?_
  | with_reducible refine s_fld ?_
  | with_reducible refine s_dIn ?_
  | with_reducible refine s_dNotIn ?_
  | with_reducible refine s_sl ?_
  | with_reducible refine s_noPart ?_
  | with_reducible refine s_part ?_
  | with_reducible refine s_meth ?_
  | with_reducible refine s_make ?_)

section
variable {P : Program} {w : World} {K : PySem.W.Frag} {mg : Str → Option Value} {base : Heap} {A : Ad}
/-- a test of one value -/
def spT1 (K : PySem.W.Frag) (f : V → Bool) : Sp := fun vs H Q _ => ∃ v, vs = [v] ∧ NI K H v ∧ Q (.bl (f v)) H
theorem c_t1 {H : Hp} {Q : VK} {E : XK} {f : V → Bool} {v : V} (n : NI K H v) (q : Q (.bl (f v)) H) : spT1 K f ([v] ++ []) H Q E := ⟨v, rfl, n, q⟩
theorem i_cases (v : V) : (∃ i, v = .int i) ∨ isI v = false := by cases v <;> simp [isI]
theorem num_no {f : Int → Bool} {v : V} (h : isI v = false) : num? f v = false := by cases v <;> first | rfl | cases h
theorem ok_isi (T : Txt P w K mg A) : FnOk P w K mg base CX0 1 A.a_is_an_integer A.d_is_an_integer ["value"] (spT1 K isI) := by
  refine T.F_is_an_integer.ok sc_is_an_integer (fun vs H Q E h => ?_) (fun cdv A' outer s H vs Q E hr h => ?_)
  · obtain ⟨v, rfl, _⟩ := h
    rfl
  · obtain ⟨v, rfl, ⟨b, c, hb, hc, e⟩, k⟩ := h
    refine ⟨_, (pss_one (ps_ret (pe_and (pe_callB (id := "isinstance") (r := rIsiV K) call_isiV (by rfl) T.n_isinstance (by decide +kernel) (pa_cons (pv 0) (pa_cons (pe_bltn (v := .ty "int") (u := .type "int") (by rfl) T.n_int (by decide +kernel) rfl) pa_nil))) (pe_one (pe_not (pe_callB (id := "isinstance") (r := rIsiV K) call_isiV (by rfl) T.n_isinstance (by decide +kernel) (pa_cons (pv 0) (pa_cons (pe_bltn (v := .ty "bool") (u := .type "bool") (by rfl) T.n_bool (by decide +kernel) rfl) pa_nil)))))))), ?_⟩
    rw [← e] at k
    walk_at "sx"
    refine isi_in hb ?_
    cases b
    · walk_at "sx"
      exact k
    · walk_at "sx"
      refine isi_in hc ?_
      walk_at "sx"
      exact k
theorem ok_isv (T : Txt P w K mg A) : FnOk P w K mg base CX0 2 A.a_is_value A.d_is_value ["value"] (spT1 K isBit) := by
  refine T.F_is_value.ok sc_is_value (fun vs H Q E h => ?_) (fun cdv A' outer s H vs Q E hr h => ?_)
  · obtain ⟨v, rfl, _⟩ := h
    rfl
  · obtain ⟨v, rfl, n, k⟩ := h
    have G_is_an_integer := ok_isi (w := w) (base := base) T
    refine ⟨_, (pss_one (ps_ret (pe_and (pe_call G_is_an_integer (hr.mono (by decide)) rfl T.g_is_an_integer T.F_is_an_integer.kp (B_is_an_integer T) .nil pass0 (pa_cons (pv 0) pa_nil)) (pe_one (pe_chain op_le op_le pe_int (pv 0) pe_int))))), ?_⟩
    walk_at "sx"
    refine c_t1 n ?_
    rcases i_cases v with ⟨i, rfl⟩ | h
    · walk_at "sx"
      refine iteT ?_
      have e : isBit (.int i) = (decide (0 ≤ i) && decide (i ≤ 1)) := rfl
      rw [e] at k
      walk_at "sx"
      refine i_2 (fun hc => ?_) (fun hc => ?_)
      · rw [decide_eq_true hc] at k
        walk_at "sx"
        exact k
      · rw [decide_eq_false hc] at k
        exact k
    · have e : isBit v = false := num_no h
      rw [e] at k
      rw [h]
      walk_at "sx"
      exact k

/-! ### the six kinds -/
inductive Kind | st | sr | bx | hp | pa | an
namespace Kind
def s : Kind → Str
  | st => Str.ofString "steps" | sr => Str.ofString "stretches" | bx => Str.ofString "boxes" | hp => Str.ofString "half planes" | pa => Str.ofString "parities" | an => Str.ofString "ands"
def vals : Kind → Bool
  | pa => true | an => true | _ => false
def lens : Kind → List Nat
  | st => [1] | sr => [1] | bx => [1, 2, 3] | hp => [2] | pa => [1, 2, 3, 4] | an => [1, 2, 3, 4]
def most : Kind → Nat
  | st => 1 | sr => 1 | bx => 3 | hp => 2 | pa => 4 | an => 4
end Kind
abbrev kinds : List V := [.str (Str.ofString "steps"), .str (Str.ofString "stretches"), .str (Str.ofString "boxes"), .str (Str.ofString "half planes"), .str (Str.ofString "parities"), .str (Str.ofString "ands")]
abbrev ofVals : List V := [.str (Str.ofString "parities"), .str (Str.ofString "ands")]
abbrev kstrs : List Str := [Str.ofString "steps", Str.ofString "stretches", Str.ofString "boxes", Str.ofString "half planes", Str.ofString "parities", Str.ofString "ands"]
theorem in_vals (k : Kind) : inV (.str k.s) ofVals = k.vals := by cases k <;> decide +kernel
theorem in_kinds (k : Kind) : inV (.str k.s) kinds = true := by cases k <;> decide +kernel
def mOk (k : Kind) (x : V) : Bool := if k.vals = true then isBit x else isI x
def pOk (k : Kind) (l : Nat) : Option (List V) → Bool
  | none => false
  | some xs => decide (xs.length = l) && xs.all (mOk k)
def vOk (k : Kind) : Option (List (Option (List V))) → Bool
  | none => false
  | some ps => k.lens.any fun l => ps.all (pOk k l)
/-- what a point is: no tuple, or a tuple of these -/
def PtOk (K : PySem.W.Frag) (H : Hp) (v : V) (p : Option (List V)) : Prop := (p = none ∧ IsIn K H v "tuple" false) ∨ ∃ a xs, v = .ref a ∧ p = some xs ∧ H a = some (.tup xs) ∧ (∀ x ∈ xs, NI K H x) ∧ xs.length < 1000
/-- what a value is: no tuple, or a tuple of such points -/
def VlOk (K : PySem.W.Frag) (H : Hp) (v : V) (q : Option (List (Option (List V)))) : Prop := (q = none ∧ IsIn K H v "tuple" false) ∨
  ∃ (a : Addr) (zs : List (V × Option (List V))), v = .ref a ∧ q = some (zs.map (·.2)) ∧ H a = some (.tup (zs.map (·.1))) ∧ (∀ z ∈ zs, PtOk K H z.1 z.2) ∧ zs.length < 1000
theorem PtOk.same {H H' : Hp} {v : V} {p : Option (List V)} (e : Same H H') (h : PtOk K H v p) : PtOk K H' v p := by
  rcases h with ⟨a, b⟩ | ⟨a, xs, h1, h2, h3, h4, h5⟩
  · exact .inl ⟨a, isIn_same e b⟩
  · exact .inr ⟨a, xs, h1, h2, e _ _ h3, fun x hx => ni_same e (h4 x hx), h5⟩
theorem VlOk.same {H H' : Hp} {v : V} {q : Option (List (Option (List V)))} (e : Same H H') (h : VlOk K H v q) : VlOk K H' v q := by
  rcases h with ⟨a, b⟩ | ⟨a, xs, h1, h2, h3, h4, h5⟩
  · exact .inl ⟨a, isIn_same e b⟩
  · exact .inr ⟨a, xs, h1, h2, e _ _ h3, fun x hx => (h4 x hx).same e, h5⟩
/-- none of the six words -/
def BadK (K : PySem.W.Frag) (H : Hp) (x : V) : Prop := (flatV x = true ∧ inV x kinds = false) ∨ ∃ q xs, x = .ref q ∧ (SqL K H q xs ∨ SqT K H q xs)
def spDem (K : PySem.W.Frag) (C : Addr) : Sp := fun vs H Q E => (∃ k : Kind, vs = [.str k.s] ∧ Q .non H) ∨ ∃ x, vs = [x] ∧ BadK K H x ∧ ∀ e, H e = none → E (.ref C) (some e) (upd H e (.xd [("what", .str (Str.ofString "kind"))]))
theorem ok_dem (T : Txt P w K mg A) : FnOk P w K mg base (L2N.CX P w) 1 A.a_demand_kind A.d_demand_kind ["kind"] (spDem K A.c_Undefined) := by
  refine T.F_demand_kind.okN sc_demand_kind (fun vs H Q E h => ?_) (fun cdv A' outer s H vs Q E hr h => ?_)
  · rcases h with ⟨k, rfl, _⟩ | ⟨x, rfl, _⟩
    · rfl
    · rfl
  · rcases h with ⟨k, rfl, q⟩ | ⟨x, rfl, bad, q⟩
    · refine ⟨_, (pss_one (ps_if (pt_cmpR (op_notIn_tS (u1 hr)) (pv 0) (pe_glob (v := .ref A.p_KINDS) rfl T.k_KINDS rfl) rfl) (pss_one (Sup_what.ps_raiseSupN rfl T.X_Undefined hr (L2N.takes_of rfl rfl rfl rfl) (pa_cons pe_str pa_nil))) pss_nil)), ?_⟩
      walk_at "sx"
      refine ⟨_, kstrs, rfl, .inr T.q_KINDS, .inl ⟨rfl, ?_⟩⟩
      rw [show inV (.str k.s) (kstrs.map V.str) = true from in_kinds k]
      walk_at "sx"
      exact q
    · refine ⟨_, (pss_one (ps_if (pt_cmpR (op_notIn_tS (u1 hr)) (pv 0) (pe_glob (v := .ref A.p_KINDS) rfl T.k_KINDS rfl) rfl) (pss_one (Sup_what.ps_raiseSupN rfl T.X_Undefined hr (L2N.takes_of rfl rfl rfl rfl) (pa_cons pe_str pa_nil))) pss_nil)), ?_⟩
      walk_at "sx"
      rcases bad with ⟨fx, nx⟩ | hq
      · refine ⟨_, kstrs, rfl, .inr T.q_KINDS, .inl ⟨fx, ?_⟩⟩
        rw [show inV x (kstrs.map V.str) = false from nx]
        walk_at "sx"
        exact ⟨_, rfl, fun e he => q e he⟩
      · refine ⟨_, kstrs, rfl, .inr T.q_KINDS, .inr ⟨hq, ?_⟩⟩
        walk_at "sx"
        exact ⟨_, rfl, fun e he => q e he⟩
def spPtOf (K : PySem.W.Frag) : Sp := fun vs H Q _ => ∃ (k : Kind) (v : V) (p : Option (List V)) (l : Nat), vs = [.str k.s, v, .int l] ∧ PtOk K H v p ∧ ∀ H', Same H H' → Q (.bl (pOk k l p)) H'
theorem ok_ptOf (T : Txt P w K mg A) : FnOk P w K mg base CX0 3 A.a_is_point_of A.d_is_point_of ["kind", "value", "length"] (spPtOf K) := by
  refine T.F_is_point_of.ok sc_is_point_of (fun vs H Q E h => ?_) (fun cdv A' outer s H vs Q E hr h => ?_)
  · obtain ⟨k, v, p, l, rfl, _⟩ := h
    rfl
  · obtain ⟨k, v, p, l, rfl, hp, q⟩ := h
    have G_is_value := ok_isv (w := w) (base := base) T
    have G_is_an_integer := ok_isi (w := w) (base := base) T
    refine ⟨_, (pss_cons (ps_if (PW.pt (pw_or (pt_not (pt_val (pe_callB (id := "isinstance") (r := rIsiV K) call_isiV (by rfl) T.n_isinstance (by decide +kernel) (pa_cons (pv 1) (pa_cons (pe_bltn (v := .ty "tuple") (u := .type "tuple") (by rfl) T.n_tuple (by decide +kernel) rfl) pa_nil))))) (pw_or1 (pt_cmpR op_ne (pe_callB call_len (by rfl) T.n_len (by decide +kernel) (pa_cons (pv 1) pa_nil)) (pv 2) (nomark _))))) (pss_one (ps_ret pe_bl)) pss_nil)
  (pss_cons (ps_if (pt_cmpR op_in_seq (pv 0) (pe_glob (v := .ref A.p_OF_VALUES) rfl T.k_OF_VALUES rfl) rfl) (pss_one (ps_ret (pe_callB (cr_all rfl) (by rfl) T.n_all (by decide +kernel) (pa_cons (pe_lc (own := [("member", 3)]) (g := (gName 3)) (by rfl) sc_is_point_of.nd (pi_tup (pv 1)) (blkOk_by (own := [("member", 3)]) (N := ["kind", "value", "length", "member"]) (sc := defScope s_is_point_of) (by decide +kernel)) (fun _ _ _ _ _ => (pg_name (i := 3) sc_is_point_of.nd rfl (Or.inl rfl))) (fun _ _ _ _ _ => pts_nil) (fun _ _ _ _ _ => (pe_call G_is_value (hr.mono (by decide)) rfl T.g_is_value T.F_is_value.kp (B_is_value T) .nil pass0 (pa_cons (pv 3) pa_nil)))) pa_nil)))) pss_nil)
  (pss_one (ps_ret (pe_callB (cr_all rfl) (by rfl) T.n_all (by decide +kernel) (pa_cons (pe_lc (own := [("member", 3)]) (g := (gName 3)) (by rfl) sc_is_point_of.nd (pi_tup (pv 1)) (blkOk_by (own := [("member", 3)]) (N := ["kind", "value", "length", "member"]) (sc := defScope s_is_point_of) (by decide +kernel)) (fun _ _ _ _ _ => (pg_name (i := 3) sc_is_point_of.nd rfl (Or.inl rfl))) (fun _ _ _ _ _ => pts_nil) (fun _ _ _ _ _ => (pe_call G_is_an_integer (hr.mono (by decide)) rfl T.g_is_an_integer T.F_is_an_integer.kp (B_is_an_integer T) .nil pass0 (pa_cons (pv 3) pa_nil)))) pa_nil)))))), ?_⟩
    walk_at "sx"
    rcases hp with ⟨rfl, no⟩ | ⟨a, xs, rfl, rfl, ha, mem, sz⟩
    · refine isi_in no ?_
      walk_at "sx"
      exact q H (L2.Same.refl _)
    · refine isi_in (in_tup ha) ?_
      walk_at "sx"
      refine ⟨_, _, rfl, .inr ⟨xs, SqT.of ha, rfl⟩, ?_⟩
      walk_at "sx"
      have q' : ∀ H', Same H H' → Q (.bl (decide (xs.length = l) && xs.all (mOk k))) H' := q
      refine i_n2 (fun hc => ?_) (fun hc => ?_)
      · rw [decide_eq_false (by omega)] at q'
        walk_at "sx"
        exact q' H (L2.Same.refl _)
      · rw [decide_eq_true (by omega)] at q'
        walk_at "sx"
        refine ⟨_, _, rfl, .inr (.inr T.q_OF_VALUES), rfl, rfl, ?_⟩
        have iv : (if false = true then !inV (.str k.s) ofVals else inV (.str k.s) ofVals) = k.vals := in_vals k
        rw [show (if false = true then !inV (.str k.s) _ else inV (.str k.s) _) = k.vals from iv]
        walk_at "sx"
        refine i_b2 (fun hv => ?_) (fun hv => ?_)
        all_goals
          walk_at "sx"
          refine ⟨_, rfl, a, rfl, ⟨_, SqT.of ha⟩, fun D hD => lc_tup (K := K) (a := a) (xs := xs) (fun i H' => Same H H' ∧ H' D = some (.lst ((xs.take i).map fun x => V.bl (mOk k x)))) ⟨Same.new hD, upd_same⟩ (fun i H' _ ⟨s, _⟩ => SqT.of (s _ _ ha)) ?_ ?_⟩
          · rintro i x H' hx ⟨s', hD'⟩
            refine s_name ⟨rfl, ?_⟩
            refine s_yes (i_t ?_)
            walk_at "sx"
            refine c_t1 (ni_same s' (mem x (List.mem_of_getElem? hx))) ?_
            refine ⟨_, hD', ?_, Sx.Same.put s' hD, ?_⟩
            · rw [List.length_map, List.length_take]
              exact Nat.lt_of_le_of_lt (Nat.min_le_right _ _) (by show xs.length < 16777216; omega)
            · rw [upd_same, List.take_succ, hx]
              simp [mOk, hv]
          · rintro H' ⟨s', hD'⟩
            rw [List.take_length] at hD'
            have e : (xs.map fun x => V.bl (mOk k x)) = (xs.map (mOk k)).map V.bl := by
              rw [List.map_map]
              rfl
            rw [e] at hD'
            have k' := q' H' s'
            rw [Bool.true_and, show xs.all (mOk k) = (xs.map (mOk k)).all id by rw [List.all_map]; rfl] at k'
            walk_at "sx"
            exact r_all hD' k'
end
end K60

set_option Elab.async false
set_option linter.all false
set_option maxRecDepth 100000
set_option maxHeartbeats 4000000
namespace K60
open PySem L2 Sx
local macro_rules | `(tactic| walk_at "cond") => `(tactic| first
  | assumption
  | decide
  | exact c_mul_r (by first | decide | omega) (by first | decide | omega)
  | exact c_mul_l (by first | decide | omega) (by first | decide | omega)
  | exact c_div (by first | decide | omega) (by first | decide | omega)
  | exact c_pow (by first | decide | omega) (by first | decide | omega) (by first | decide | omega)
  | omega)
local macro_rules | `(tactic| walk_at "ne") => `(tactic| first
  | assumption
  | (refine Ne.symm ?_; assumption)
  | (refine' Flow.ne ?nh ?nn; (case nn => assumption); (case nh => walk_at "fl"))
  | (refine Ne.symm ?_; refine' Flow.ne ?nh ?nn; (case nn => assumption); (case nh => walk_at "fl"))
  | (refine' ne_of_none ?nh ?nn; (case nn => assumption); (case nh => walk_at "at"))
  | (refine Ne.symm ?_; refine' ne_of_none ?nh ?nn; (case nn => assumption); (case nh => walk_at "at")))
local macro_rules | `(tactic| walk_at "at") => `(tactic| first
  | assumption
  | (refine Same.up (by assumption) ?_; walk_at "at")
  | (refine Keep.up (by assumption) (by walk_at "ne") ?_; walk_at "at"))
local macro_rules | `(tactic| walk_at "fl") => `(tactic| first
  | assumption
  | (refine Flow.same (by assumption) ?_; walk_at "fl")
  | (refine Flow.keep (by assumption) (by walk_at "ne") ?_; walk_at "fl"))
local macro_rules | `(tactic| walk_at "fr") => `(tactic| first
  | assumption
  | (refine same_free (by assumption) ?_; walk_at "fr")
  | (refine Keep.free (by assumption) (by walk_at "ne") ?_; walk_at "fr"))
local macro_rules | `(tactic| walk_at "kp") => `(tactic| first
  | assumption
  | exact Keep.refl _ _
  | (refine Keep.trans ?_ (by assumption); walk_at "kp")
  | (refine Keep.trans ?_ (Keep.same (by assumption)); walk_at "kp"))
local macro_rules | `(tactic| walk_at "sm") => `(tactic| first
  | assumption
  | exact L2.Same.refl _
  | (refine L2.Same.trans ?_ (by assumption); walk_at "sm"))
local macro_rules | `(tactic| walk_at "sz") => `(tactic| first | exact Nat.le_of_ble_eq_true rfl | omega)
local macro_rules | `(tactic| walk_at "new") => `(tactic| (intro p np; generalize hE : upd _ p _ = H2; have s2 := new_same np hE; have h2 := new_at hE; clear hE))
local macro_rules | `(tactic| walk_at "newx") => `(tactic| (intro e d na nd hda; generalize hE : upd (upd _ d _) e _ = H2; have s2 := newx_same na nd hE; have h2 := newx_at hE; have h3 := newx_d hda hE; clear hE))
local macro_rules | `(tactic| walk_at "s1") => `(tactic| first
  | with_reducible refine s_seq ?_
  | with_reducible refine s_asg ?_
  | with_reducible refine s_name ?_
  | with_reducible refine s_ret ?_
  | with_reducible refine s_c ?_
  | ((with_reducible refine' s_var ?hv ?_); (case hv => rfl))
  | with_reducible refine s_op ?_
  | with_reducible refine s_un ?_
  | with_reducible refine s_ifS ?_
  | with_reducible refine s_cb ?_
  | with_reducible refine s_cons ?_
  | with_reducible refine s_nil ?_
  | with_reducible refine s_call ?_
  | with_reducible refine s_test ?_
  | with_reducible refine s_tB ?_
  | with_reducible refine s_bl ?_
  | with_reducible refine s_and ?_
  | with_reducible refine s_or ?_
  | with_reducible refine s_not ?_
  | with_reducible refine s_andV ?_
  | with_reducible refine s_orV ?_
  | with_reducible refine s_notV ?_
  | with_reducible refine s_blV ?_
  | with_reducible refine s_if ?_
  | with_reducible refine s_tup ?_
  | with_reducible refine s_lst ?_
  | with_reducible refine s_drop ?_
  | with_reducible refine s_next ?_
  | with_reducible refine s_sub ?_
  | with_reducible refine s_bm ?_
  | with_reducible refine s_callK ?_
  | with_reducible refine s_brk ?_
  | with_reducible refine s_cont ?_
  | with_reducible refine r_I0 ?_
  | with_reducible refine r_U ?_
  | with_reducible refine r_eqI ?_
  | with_reducible refine r_neI ?_
  | with_reducible refine r_isB ?_
  | with_reducible refine r_notB ?_
  | with_reducible refine i_t ?_
  | with_reducible refine i_f ?_
  | with_reducible refine i_nt ?_
  | with_reducible refine i_nf ?_
  | ((with_reducible refine' r_I ?hc ?_); (case hc => walk_at "cond"))
  | (with_reducible refine .inl ⟨_, rfl, ?_⟩)
  | (with_reducible refine ⟨_, rfl, ?_⟩)
  | ((with_reducible refine' r_ixL ?hx ?ha ?_); (case hx => walk_at "at"); (case ha => rfl))
  | ((with_reducible refine' r_ixT ?hx ?ha ?_); (case hx => walk_at "at"); (case ha => rfl))
  | ((with_reducible refine' r_setL ?hx ?ha ?_); (case hx => walk_at "at"); (case ha => rfl); intro H2 k2 h2; (try dsimp only [List.set, Int.toNat] at h2))
  | ((with_reducible refine' r_app ?hx ?hl ?_); (case hx => walk_at "at"); (case hl => first | exact Nat.lt_of_ble_eq_true rfl | omega); intro H2 k2 h2)
  | ((with_reducible refine' ty_list ?hx ?_); (case hx => walk_at "at"))
  | (refine And.intro (by (with_reducible show _ ≤ sizeLine); walk_at "sz") ?_; walk_at "new")
  | with_reducible refine s_exv ?_
  | walk_at "newx")
local macro_rules | `(tactic| walk_at "sx") => `(tactic| repeat (walk_at "s1"))
local macro_rules | `(tactic| walk_at "s2") => `(tactic| first
  | ((with_reducible refine' r_ixG ?hx ?hn ?_); (case hx => walk_at "at"); (case hn => omega))
  | ((with_reducible refine' r_ixGT ?hx ?hn ?_); (case hx => walk_at "at"); (case hn => omega))
  | (with_reducible refine ig_cons (fun hix => ?_) (fun hix => ?_))
  | ((with_reducible refine ig_nil ?_); omega)
  | ((with_reducible refine' i_T ?hc ?_); (case hc => omega))
  | ((with_reducible refine' i_F ?hc ?_); (case hc => omega))
  | (with_reducible refine i_2 (fun hc => ?_) (fun hc => ?_))
  | (with_reducible refine i_n2 (fun hc => ?_) (fun hc => ?_)))
local macro_rules | `(tactic| walk_at "go") => `(tactic| repeat' (first | walk_at "s1" | walk_at "s2"))

local macro_rules | `(tactic| walk_at "s1") => `(tactic| first
  | with_reducible refine s_chain ?_
  | with_reducible refine s_fldS ?_
  | with_reducible refine s_fld ?_
  | with_reducible refine s_dIn ?_
  | with_reducible refine s_dNotIn ?_
  | with_reducible refine s_sl ?_
  | with_reducible refine s_noPart ?_
  | with_reducible refine s_part ?_
  | with_reducible refine s_meth ?_
  | with_reducible refine s_make ?_)

section
variable {P : Program} {w : World} {K : PySem.W.Frag} {mg : Str → Option Value} {base : Heap} {A : Ad}
theorem pi_tupK {X : Cx} {tg l : Expr} {tl : TE} (K : PySem.W.Frag) (ht : PE X l tl) (hk : X.K = K) : PI X tg l (iTup K tl) := by
  subst hk
  exact pi_tup ht
/-- the lengths of a kind, as the module keeps them -/
theorem lens_at (T : Txt P w K mg A) (k : Kind) : ∃ p, KDct K w A.p_LENGTHS k.s (.ref p) ∧ ∀ H, SqT K H p (k.lens.map fun l => V.int (l : Nat)) := by
  obtain ⟨es, n, D⟩ := T.d_LENGTHS
  cases k
  · exact ⟨_, ⟨es, n, _, D.at_, D.lit, T.v_LENGTHS_0, rfl⟩, fun H => .inr T.q_LENGTHS_0⟩
  · exact ⟨_, ⟨es, n, _, D.at_, D.lit, T.v_LENGTHS_1, rfl⟩, fun H => .inr T.q_LENGTHS_1⟩
  · exact ⟨_, ⟨es, n, _, D.at_, D.lit, T.v_LENGTHS_2, rfl⟩, fun H => .inr T.q_LENGTHS_2⟩
  · exact ⟨_, ⟨es, n, _, D.at_, D.lit, T.v_LENGTHS_3, rfl⟩, fun H => .inr T.q_LENGTHS_3⟩
  · exact ⟨_, ⟨es, n, _, D.at_, D.lit, T.v_LENGTHS_4, rfl⟩, fun H => .inr T.q_LENGTHS_4⟩
  · exact ⟨_, ⟨es, n, _, D.at_, D.lit, T.v_LENGTHS_5, rfl⟩, fun H => .inr T.q_LENGTHS_5⟩
theorem lens_few (k : Kind) : k.lens.length ≤ 4 := by cases k <;> decide
def spAreP (K : PySem.W.Frag) (C : Addr) : Sp := fun vs H Q E => (∃ (k : Kind) (v : V) (q : Option (List (Option (List V)))), vs = [.str k.s, v] ∧ VlOk K H v q ∧ ∀ H', Same H H' → Q (.bl (vOk k q)) H') ∨
  ∃ x v, vs = [x, v] ∧ BadK K H x ∧ ∀ e, H e = none → E (.ref C) (some e) (upd H e (.xd [("what", .str (Str.ofString "kind"))]))
theorem ok_areP (T : Txt P w K mg A) : FnOk P w K mg base (L2N.CX P w) 5 A.a_are_points A.d_are_points ["kind", "value"] (spAreP K A.c_Undefined) := by
  refine T.F_are_points.okN sc_are_points (fun vs H Q E h => ?_) (fun cdv A' outer s H vs Q E hr h => ?_)
  · rcases h with ⟨k, v, q, rfl, _⟩ | ⟨x, v, rfl, _⟩
    · rfl
    · rfl
  · have G_demand_kind := ok_dem (w := w) (base := base) T
    have G_is_point_of := ok_ptOf (w := w) (base := base) T
    rcases h with ⟨k, v, q, rfl, hv, q0⟩ | ⟨x, v, rfl, bad, q0⟩
    · refine ⟨_, (pss_cons (ps_expr (pe_call G_demand_kind (hr.mono (by decide)) rfl T.g_demand_kind T.F_demand_kind.kp (B_demand_kind T) .nil (L2N.passes_call (L2N.takes_of rfl rfl rfl rfl) (fun _ _ _ _ h => h)) (pa_cons (pv 0) pa_nil)))
  (pss_cons (ps_if (pt_not (pt_val (pe_callB (id := "isinstance") (r := rIsiV K) call_isiV (by rfl) T.n_isinstance (by decide +kernel) (pa_cons (pv 1) (pa_cons (pe_bltn (v := .ty "tuple") (u := .type "tuple") (by rfl) T.n_tuple (by decide +kernel) rfl) pa_nil))))) (pss_one (ps_ret pe_bl)) pss_nil)
  (pss_one (ps_ret (pe_callB (cr_any rfl) (by rfl) T.n_any (by decide +kernel) (pa_cons (pe_lc (own := [("length", 2)]) (g := (gName 2)) (by rfl) sc_are_points.nd (pi_tup (pe_ix (r := rIxD K w) ix_kdict (pe_glob (v := .ref A.p_LENGTHS) rfl T.k_LENGTHS rfl) (pv 0) (fun _ _ => rfl))) (blkOk_by (own := [("length", 2)]) (N := ["kind", "value", "length", "point"]) (sc := defScope s_are_points) (by decide +kernel)) (fun _ _ _ _ _ => (pg_name (i := 2) sc_are_points.nd rfl (Or.inr rfl))) (fun _ _ _ _ _ => pts_nil) (fun _ _ _ _ _ => (pe_callB (id := "all") (r := rAll K) (cr_all rfl) (by rfl) T.n_all (by decide +kernel) (pa_cons (pe_lc (own := [("point", 3)]) (g := (gName 3)) (by rfl) sc_are_points.nd (pi_tupK K (pv 1) rfl) (blkOk_by (own := [("point", 3)]) (N := ["kind", "value", "length", "point"]) (sc := inSc) (by decide +kernel)) (fun _ _ _ _ _ => (pg_name (i := 3) sc_are_points.nd rfl (Or.inl rfl))) (fun _ _ _ _ _ => pts_nil) (fun _ _ _ _ _ => (pe_call G_is_point_of (hr.mono (by decide)) rfl T.g_is_point_of T.F_is_point_of.kp (B_is_point_of T) .nil pass0 (pa_cons (pv 0) (pa_cons (pv 3) (pa_cons (pv 2) pa_nil)))))) pa_nil)))) pa_nil)))))), ?_⟩
      walk_at "sx"
      refine .inl ⟨k, rfl, ?_⟩
      walk_at "sx"
      rcases hv with ⟨rfl, no⟩ | ⟨a, zs, rfl, rfl, ha, mem, sz⟩
      · refine isi_in no ?_
        walk_at "sx"
        exact q0 H (L2.Same.refl _)
      · refine isi_in (in_tup ha) ?_
        walk_at "sx"
        obtain ⟨pl, kd, sl⟩ := lens_at T k
        refine ⟨_, rfl, A.p_LENGTHS, k.s, .ref pl, rfl, rfl, kd, pl, rfl, ⟨_, sl H⟩, fun D hD => lc_tup (K := K) (a := pl) (xs := k.lens.map fun l => V.int (l : Nat)) (fun i H' => Same H H' ∧ H' D = some (.lst ((k.lens.take i).map fun l => V.bl ((zs.map (·.2)).all (pOk k l))))) ⟨Same.new hD, upd_same⟩ (fun i H' _ _ => sl H') ?_ ?_⟩
        · rintro i x H' hx ⟨s', hD'⟩
          obtain ⟨l, hl, rfl⟩ : ∃ l, k.lens[i]? = some l ∧ V.int (l : Nat) = x := by
            rw [List.getElem?_map] at hx
            exact Option.map_eq_some_iff.mp hx
          refine s_name ⟨rfl, ?_⟩
          refine s_yes (i_t ?_)
          refine s_cb (s_cons ?_)
          have ha' : H' a = some (.tup (zs.map (·.1))) := s' _ _ ha
          refine ⟨_, rfl, a, rfl, ⟨_, SqT.of ha'⟩, fun D2 hD2 => lc_tup (K := K) (a := a) (xs := zs.map (·.1)) (fun j H2 => Same H' H2 ∧ H2 D2 = some (.lst ((zs.take j).map fun z => V.bl (pOk k l z.2)))) ⟨Same.new hD2, upd_same⟩ (fun j H2 _ h => SqT.of (h.1 _ _ ha')) ?_ ?_⟩
          · rintro j y H2 hy ⟨s2, hD2'⟩
            obtain ⟨z, hz, rfl⟩ : ∃ z, zs[j]? = some z ∧ z.1 = y := by
              rw [List.getElem?_map] at hy
              exact Option.map_eq_some_iff.mp hy
            refine s_name ⟨rfl, ?_⟩
            refine s_yes (i_t ?_)
            walk_at "sx"
            refine ⟨k, z.1, z.2, l, rfl, (mem z (List.mem_of_getElem? hz)).same (s'.trans s2), fun H3 s3 => ⟨_, s3 _ _ hD2', ?_, Sx.Same.put (s2.trans s3) hD2, ?_⟩⟩
            · rw [List.length_map, List.length_take]
              exact Nat.lt_of_le_of_lt (Nat.min_le_right _ _) (by show zs.length < 16777216; omega)
            · rw [upd_same, List.take_succ, hz]
              simp
          · rintro H2 ⟨s2, hD2'⟩
            rw [List.length_map, List.take_length] at hD2'
            have e : (zs.map fun z => V.bl (pOk k l z.2)) = (zs.map fun z => pOk k l z.2).map V.bl := by
              rw [List.map_map]
              rfl
            rw [e] at hD2'
            walk_at "sx"
            refine r_all hD2' ?_
            refine ⟨_, s2 _ _ hD', ?_, Sx.Same.put (s'.trans s2) hD, ?_⟩
            · rw [List.length_map, List.length_take]
              exact Nat.lt_of_le_of_lt (Nat.min_le_right _ _) (by have := lens_few k; show k.lens.length < 16777216; omega)
            · rw [upd_same, List.take_succ, hl]
              simp [List.all_map, Function.comp_def]
        · rintro H' ⟨s', hD'⟩
          rw [List.length_map, List.take_length] at hD'
          have e : (k.lens.map fun l => V.bl ((zs.map (·.2)).all (pOk k l))) = (k.lens.map fun l => (zs.map (·.2)).all (pOk k l)).map V.bl := by
            rw [List.map_map]
            rfl
          rw [e] at hD'
          have k' := q0 H' s'
          rw [show vOk k (some (zs.map (·.2))) = (k.lens.map fun l => (zs.map (·.2)).all (pOk k l)).any id by rw [List.any_map]; rfl] at k'
          walk_at "sx"
          exact ⟨_, _, rfl, SqL.of hD', k'⟩
    · refine ⟨_, (pss_cons (ps_expr (pe_call G_demand_kind (hr.mono (by decide)) rfl T.g_demand_kind T.F_demand_kind.kp (B_demand_kind T) .nil (L2N.passes_call (L2N.takes_of rfl rfl rfl rfl) (fun _ _ _ _ h => h)) (pa_cons (pv 0) pa_nil)))
  (pss_cons (ps_if (pt_not (pt_val (pe_callB (id := "isinstance") (r := rIsiV K) call_isiV (by rfl) T.n_isinstance (by decide +kernel) (pa_cons (pv 1) (pa_cons (pe_bltn (v := .ty "tuple") (u := .type "tuple") (by rfl) T.n_tuple (by decide +kernel) rfl) pa_nil))))) (pss_one (ps_ret pe_bl)) pss_nil)
  (pss_one (ps_ret (pe_callB (cr_any rfl) (by rfl) T.n_any (by decide +kernel) (pa_cons (pe_lc (own := [("length", 2)]) (g := (gName 2)) (by rfl) sc_are_points.nd (pi_tup (pe_ix (r := rIxD K w) ix_kdict (pe_glob (v := .ref A.p_LENGTHS) rfl T.k_LENGTHS rfl) (pv 0) (fun _ _ => rfl))) (blkOk_by (own := [("length", 2)]) (N := ["kind", "value", "length", "point"]) (sc := defScope s_are_points) (by decide +kernel)) (fun _ _ _ _ _ => (pg_name (i := 2) sc_are_points.nd rfl (Or.inr rfl))) (fun _ _ _ _ _ => pts_nil) (fun _ _ _ _ _ => (pe_callB (id := "all") (r := rAll K) (cr_all rfl) (by rfl) T.n_all (by decide +kernel) (pa_cons (pe_lc (own := [("point", 3)]) (g := (gName 3)) (by rfl) sc_are_points.nd (pi_tupK K (pv 1) rfl) (blkOk_by (own := [("point", 3)]) (N := ["kind", "value", "length", "point"]) (sc := inSc) (by decide +kernel)) (fun _ _ _ _ _ => (pg_name (i := 3) sc_are_points.nd rfl (Or.inl rfl))) (fun _ _ _ _ _ => pts_nil) (fun _ _ _ _ _ => (pe_call G_is_point_of (hr.mono (by decide)) rfl T.g_is_point_of T.F_is_point_of.kp (B_is_point_of T) .nil pass0 (pa_cons (pv 0) (pa_cons (pv 3) (pa_cons (pv 2) pa_nil)))))) pa_nil)))) pa_nil)))))), ?_⟩
      walk_at "sx"
      refine .inr ⟨x, rfl, bad, fun e he => ?_⟩
      exact q0 e he
end
end K60

set_option Elab.async false
set_option linter.all false
set_option maxRecDepth 100000
set_option maxHeartbeats 4000000
namespace K60
open PySem L2 Sx
local macro_rules | `(tactic| walk_at "cond") => `(tactic| first
  | assumption
  | decide
  | exact c_mul_r (by first | decide | omega) (by first | decide | omega)
  | exact c_mul_l (by first | decide | omega) (by first | decide | omega)
  | exact c_div (by first | decide | omega) (by first | decide | omega)
  | exact c_pow (by first | decide | omega) (by first | decide | omega) (by first | decide | omega)
  | omega)
local macro_rules | `(tactic| walk_at "ne") => `(tactic| first
  | assumption
  | (refine Ne.symm ?_; assumption)
  | (refine' Flow.ne ?nh ?nn; (case nn => assumption); (case nh => walk_at "fl"))
  | (refine Ne.symm ?_; refine' Flow.ne ?nh ?nn; (case nn => assumption); (case nh => walk_at "fl"))
  | (refine' ne_of_none ?nh ?nn; (case nn => assumption); (case nh => walk_at "at"))
  | (refine Ne.symm ?_; refine' ne_of_none ?nh ?nn; (case nn => assumption); (case nh => walk_at "at")))
local macro_rules | `(tactic| walk_at "at") => `(tactic| first
  | assumption
  | (refine Same.up (by assumption) ?_; walk_at "at")
  | (refine Keep.up (by assumption) (by walk_at "ne") ?_; walk_at "at"))
local macro_rules | `(tactic| walk_at "fl") => `(tactic| first
  | assumption
  | (refine Flow.same (by assumption) ?_; walk_at "fl")
  | (refine Flow.keep (by assumption) (by walk_at "ne") ?_; walk_at "fl"))
local macro_rules | `(tactic| walk_at "fr") => `(tactic| first
  | assumption
  | (refine same_free (by assumption) ?_; walk_at "fr")
  | (refine Keep.free (by assumption) (by walk_at "ne") ?_; walk_at "fr"))
local macro_rules | `(tactic| walk_at "kp") => `(tactic| first
  | assumption
  | exact Keep.refl _ _
  | (refine Keep.trans ?_ (by assumption); walk_at "kp")
  | (refine Keep.trans ?_ (Keep.same (by assumption)); walk_at "kp"))
local macro_rules | `(tactic| walk_at "sm") => `(tactic| first
  | assumption
  | exact L2.Same.refl _
  | (refine L2.Same.trans ?_ (by assumption); walk_at "sm"))
local macro_rules | `(tactic| walk_at "sz") => `(tactic| first | exact Nat.le_of_ble_eq_true rfl | omega)
local macro_rules | `(tactic| walk_at "new") => `(tactic| (intro p np; generalize hE : upd _ p _ = H2; have s2 := new_same np hE; have h2 := new_at hE; clear hE))
local macro_rules | `(tactic| walk_at "newx") => `(tactic| (intro e d na nd hda; generalize hE : upd (upd _ d _) e _ = H2; have s2 := newx_same na nd hE; have h2 := newx_at hE; have h3 := newx_d hda hE; clear hE))
local macro_rules | `(tactic| walk_at "s1") => `(tactic| first
  | with_reducible refine s_seq ?_
  | with_reducible refine s_asg ?_
  | with_reducible refine s_name ?_
  | with_reducible refine s_ret ?_
  | with_reducible refine s_c ?_
  | ((with_reducible refine' s_var ?hv ?_); (case hv => rfl))
  | with_reducible refine s_op ?_
  | with_reducible refine s_un ?_
  | with_reducible refine s_ifS ?_
  | with_reducible refine s_cb ?_
  | with_reducible refine s_cons ?_
  | with_reducible refine s_nil ?_
  | with_reducible refine s_call ?_
  | with_reducible refine s_test ?_
  | with_reducible refine s_tB ?_
  | with_reducible refine s_bl ?_
  | with_reducible refine s_and ?_
  | with_reducible refine s_or ?_
  | with_reducible refine s_not ?_
  | with_reducible refine s_andV ?_
  | with_reducible refine s_orV ?_
  | with_reducible refine s_notV ?_
  | with_reducible refine s_blV ?_
  | with_reducible refine s_if ?_
  | with_reducible refine s_tup ?_
  | with_reducible refine s_lst ?_
  | with_reducible refine s_drop ?_
  | with_reducible refine s_next ?_
  | with_reducible refine s_sub ?_
  | with_reducible refine s_bm ?_
  | with_reducible refine s_callK ?_
  | with_reducible refine s_brk ?_
  | with_reducible refine s_cont ?_
  | with_reducible refine r_I0 ?_
  | with_reducible refine r_U ?_
  | with_reducible refine r_eqI ?_
  | with_reducible refine r_neI ?_
  | with_reducible refine r_isB ?_
  | with_reducible refine r_notB ?_
  | with_reducible refine i_t ?_
  | with_reducible refine i_f ?_
  | with_reducible refine i_nt ?_
  | with_reducible refine i_nf ?_
  | ((with_reducible refine' r_I ?hc ?_); (case hc => walk_at "cond"))
  | (with_reducible refine .inl ⟨_, rfl, ?_⟩)
  | (with_reducible refine ⟨_, rfl, ?_⟩)
  | ((with_reducible refine' r_ixL ?hx ?ha ?_); (case hx => walk_at "at"); (case ha => rfl))
  | ((with_reducible refine' r_ixT ?hx ?ha ?_); (case hx => walk_at "at"); (case ha => rfl))
  | ((with_reducible refine' r_setL ?hx ?ha ?_); (case hx => walk_at "at"); (case ha => rfl); intro H2 k2 h2; (try dsimp only [List.set, Int.toNat] at h2))
  | ((with_reducible refine' r_app ?hx ?hl ?_); (case hx => walk_at "at"); (case hl => first | exact Nat.lt_of_ble_eq_true rfl | omega); intro H2 k2 h2)
  | ((with_reducible refine' ty_list ?hx ?_); (case hx => walk_at "at"))
  | (refine And.intro (by (with_reducible show _ ≤ sizeLine); walk_at "sz") ?_; walk_at "new")
  | with_reducible refine s_exv ?_
  | walk_at "newx")
local macro_rules | `(tactic| walk_at "sx") => `(tactic| repeat (walk_at "s1"))
local macro_rules | `(tactic| walk_at "s2") => `(tactic| first
  | ((with_reducible refine' r_ixG ?hx ?hn ?_); (case hx => walk_at "at"); (case hn => omega))
  | ((with_reducible refine' r_ixGT ?hx ?hn ?_); (case hx => walk_at "at"); (case hn => omega))
  | (with_reducible refine ig_cons (fun hix => ?_) (fun hix => ?_))
  | ((with_reducible refine ig_nil ?_); omega)
  | ((with_reducible refine' i_T ?hc ?_); (case hc => omega))
  | ((with_reducible refine' i_F ?hc ?_); (case hc => omega))
  | (with_reducible refine i_2 (fun hc => ?_) (fun hc => ?_))
  | (with_reducible refine i_n2 (fun hc => ?_) (fun hc => ?_)))
local macro_rules | `(tactic| walk_at "go") => `(tactic| repeat' (first | walk_at "s1" | walk_at "s2"))

local macro_rules | `(tactic| walk_at "s1") => `(tactic| first
  | with_reducible refine s_chain ?_
  | with_reducible refine s_fldS ?_
  | with_reducible refine s_fld ?_
  | with_reducible refine s_dIn ?_
  | with_reducible refine s_dNotIn ?_
  | with_reducible refine s_sl ?_
  | with_reducible refine s_noPart ?_
  | with_reducible refine s_part ?_
  | with_reducible refine s_meth ?_
  | with_reducible refine s_make ?_)

section
variable {P : Program} {w : World} {K : PySem.W.Frag} {mg : Str → Option Value} {base : Heap} {A : Ad}
def free (k : Kind) (c : Int) : Int := match k with
  | .st => 1 | .sr => 2 | .bx => 2 * c | .hp => 3 | .pa => c | .an => c
def spFree : Sp := fun vs H Q _ => ∃ (k : Kind) (c : Int), vs = [.str k.s, .int c] ∧ Q (.int (free k c)) H
theorem ok_free (T : Txt P w K mg A) : FnOk P w K mg base CX0 1 A.a_most_free A.d_most_free ["kind", "c"] spFree := by
  refine T.F_most_free.ok sc_most_free (fun vs H Q E h => ?_) (fun cdv A' outer s H vs Q E hr h => ?_)
  · obtain ⟨k, c, rfl, _⟩ := h
    rfl
  · obtain ⟨k, c, rfl, q⟩ := h
    obtain ⟨es, n, D⟩ := T.d_MOST_FREE
    refine ⟨_, (pss_one (ps_ret (pe_ifExp (pt_cmpR op_eq (pv 0) pe_str (nomark _)) (pe_op op_mul pe_int (pv 1)) (pe_kget2 (pe_glob (v := .ref A.p_MOST_FREE) rfl T.k_MOST_FREE rfl) (pv 0) (pv 1) ⟨rfl, rfl, rfl, rfl⟩)))), ?_⟩
    walk_at "sx"
    refine r_eq rfl ?_
    cases k
    · refine ⟨_, rfl, i_F (by decide +kernel) ?_⟩
      obtain ⟨t, h1⟩ := T.v_MOST_FREE_0
      exact ⟨_, es, n, rfl, D, _, rfl, _, rfl, _, _, rfl, h1, .int 1, fun u _ => ⟨t, rfl⟩, q⟩
    · refine ⟨_, rfl, i_F (by decide +kernel) ?_⟩
      obtain ⟨t, h1⟩ := T.v_MOST_FREE_1
      exact ⟨_, es, n, rfl, D, _, rfl, _, rfl, _, _, rfl, h1, .int 2, fun u _ => ⟨t, rfl⟩, q⟩
    · refine ⟨_, rfl, i_T rfl ?_⟩
      walk_at "sx"
      exact q
    · refine ⟨_, rfl, i_F (by decide +kernel) ?_⟩
      obtain ⟨t, h1⟩ := T.v_MOST_FREE_2
      exact ⟨_, es, n, rfl, D, _, rfl, _, rfl, _, _, rfl, h1, .int 3, fun u _ => ⟨t, rfl⟩, q⟩
    · refine ⟨_, rfl, i_F (by decide +kernel) ?_⟩
      exact ⟨_, es, n, rfl, D, _, rfl, _, rfl, _, _, rfl, T.z_MOST_FREE_0, .int c, fun u h => h, q⟩
    · refine ⟨_, rfl, i_F (by decide +kernel) ?_⟩
      exact ⟨_, es, n, rfl, D, _, rfl, _, rfl, _, _, rfl, T.z_MOST_FREE_1, .int c, fun u h => h, q⟩
/-- the pen -/
def Pen (H : Hp) (a : Addr) : Prop := ∃ c b n p, H a = some (.lst [.int c, .bl b, .int n, .int p])
def spCell (K : PySem.W.Frag) : Sp := fun vs H Q _ => ∃ (l : Addr) (ns : List Int) (j : Nat), vs = [.ref l, .int (j : Int)] ∧ SqL K H l (ns.map V.int) ∧ ∀ c, Q (.int c) H
theorem ok_cell (T : Txt P w K mg A) : FnOk P w K mg base CX0 1 A.a__law_cell A.d__law_cell ["script", "k"] (spCell K) := by
  refine T.F__law_cell.ok sc__law_cell (fun vs H Q E h => ?_) (fun cdv A' outer s H vs Q E hr h => ?_)
  · obtain ⟨l, ns, j, rfl, _⟩ := h
    rfl
  · obtain ⟨l, ns, j, rfl, hs, k⟩ := h
    refine ⟨_, (pss_cons (ps_if (pt_cmpR op_lt (pv 1) (pe_callB call_len (by rfl) T.n_len (by decide +kernel) (pa_cons (pv 0) pa_nil)) (nomark _)) (pss_one (ps_ret (pe_callB call_abs (by rfl) T.n_abs (by decide +kernel) (pa_cons (pe_callTy call_int1 (by rfl) T.n_int (by decide +kernel) (pa_cons (pe_ix ix_seq (pv 0) (pv 1) (fun _ _ => rfl)) pa_nil)) pa_nil)))) pss_nil)
  (pss_one (ps_ret pe_int))), ?_⟩
    walk_at "sx"
    refine ⟨_, _, rfl, .inl ⟨_, hs, rfl⟩, ?_⟩
    walk_at "sx"
    refine i_2 (fun hb => ?_) (fun hb => ?_)
    · walk_at "sx"
      have hj : j < ns.length := by
        rw [List.length_map] at hb
        omega
      refine r_ixS hs (v := .int (ns[j])) (atI_nat (by rw [List.getElem?_map, List.getElem?_eq_getElem hj]; rfl)) ?_
      walk_at "sx"
      exact k _
    · walk_at "sx"
      exact k _
def spPen (K : PySem.W.Frag) : Sp := fun vs H Q _ => ∃ (l : Addr) (ns : List Int) (j : Nat), vs = [.ref l, .int (j : Int)] ∧ SqL K H l (ns.map V.int) ∧ ∀ p H', H p = none → Same H H' → Pen H' p → Q (.ref p) H'
theorem ok_pen (T : Txt P w K mg A) : FnOk P w K mg base CX0 2 A.a__law_pen A.d__law_pen ["script", "k"] (spPen K) := by
  refine T.F__law_pen.ok sc__law_pen (fun vs H Q E h => ?_) (fun cdv A' outer s H vs Q E hr h => ?_)
  · obtain ⟨l, ns, j, rfl, _⟩ := h
    rfl
  · obtain ⟨l, ns, j, rfl, hs, k⟩ := h
    have G__law_cell := ok_cell (w := w) (base := base) T
    refine ⟨_, (pss_cons (ps_set (i := 2) sc__law_pen.nd rfl (Or.inl rfl) (pe_call G__law_cell (hr.mono (by decide)) rfl T.g__law_cell T.F__law_cell.kp (B__law_cell T) .nil pass0 (pa_cons (pv 0) (pa_cons (pv 1) pa_nil))))
  (pss_one (ps_ret (pe_lst (pa_cons (pv 2) (pa_cons (pe_cmpR op_ge (pv 2) (pe_op op_pow pe_int pe_int) (nomark _)) (pa_cons pe_int (pa_cons (pe_op op_mod (pe_callTy call_int1 (by rfl) T.n_int (by decide +kernel) (pa_cons (pe_op op_add (pv 2) (pe_op op_mul pe_int (pv 1))) pa_nil)) pe_int) pa_nil)))))))), ?_⟩
    walk_at "sx"
    refine ⟨l, ns, j, rfl, hs, fun c => ?_⟩
    walk_at "sx"
    exact k _ _ (by walk_at "fr") (by walk_at "sm") ⟨_, _, _, _, by assumption⟩
def spPick : Sp := fun vs H Q _ => ∃ (a : Addr) (m : Int), vs = [.ref a, .int m] ∧ Pen H a ∧ 0 < m ∧ m < 1073741824 ∧ ∀ d H', 0 ≤ d → d < m → Pen H' a → Keep a H H' → Q (.int d) H'
theorem c_pick {H : Hp} {Q : VK} {E : XK} {a : Addr} {m : Int} (f : Pen H a) (m0 : 0 < m) (m1 : m < 1073741824) (q : ∀ d H', 0 ≤ d → d < m → Pen H' a → Keep a H H' → Q (.int d) H') : spPick ([.ref a, .int m] ++ []) H Q E := ⟨a, m, rfl, f, m0, m1, q⟩
theorem ok_pick (T : Txt P w K mg A) : FnOk P w K mg base CX0 1 A.a__law_pick A.d__law_pick ["pen", "many"] spPick := by
  refine T.F__law_pick.ok sc__law_pick (fun vs H Q E h => ?_) (fun cdv A' outer s H vs Q E hr h => ?_)
  · obtain ⟨a, m, rfl, _⟩ := h
    rfl
  · obtain ⟨a, m, rfl, ⟨c, b, n, p, hL⟩, m0, m1, k⟩ := h
    refine ⟨_, (pss_cons (ps_if (PW.pt (pw_and (pt_val (pe_ix ix_seq (pv 0) pe_int (fun _ _ => rfl))) (pw_and1 (pt_cmpR op_gt (pe_ix ix_seq (pv 0) pe_int (fun _ _ => rfl)) pe_int (nomark _))))) (pss_cons (ps_set (i := 2) sc__law_pick.nd rfl (Or.inl rfl) (pe_op op_mod (pe_callTy call_int1 (by rfl) T.n_int (by decide +kernel) (pa_cons (pe_ix ix_seq (pv 0) pe_int (fun _ _ => rfl)) pa_nil)) (pv 1)))
  (pss_cons (ps_asg (pe_op op_fdiv (pe_ix ix_seq (pv 0) pe_int (fun _ _ => rfl)) (pv 1)) (pg_sub (pv 0) pe_int set_list))
  (pss_one (ps_ret (pv 2))))) pss_nil)
  (pss_cons (ps_asg (pe_op op_add (pe_ix ix_seq (pv 0) pe_int (fun _ _ => rfl)) pe_int) (pg_sub (pv 0) pe_int set_list))
  (pss_cons (ps_set (i := 3) sc__law_pick.nd rfl (Or.inl rfl) (pe_op op_mod (pe_callTy call_int1 (by rfl) T.n_int (by decide +kernel) (pa_cons (pe_op op_add (pe_op op_add (pe_op op_mul (pe_ix ix_seq (pv 0) pe_int (fun _ _ => rfl)) pe_int) (pe_op op_mul (pe_ix ix_seq (pv 0) pe_int (fun _ _ => rfl)) pe_int)) pe_int) pa_nil)) pe_int))
  (pss_cons (ps_set (i := 3) sc__law_pick.nd rfl (Or.inl rfl) (pe_op op_mod (pe_callTy call_int1 (by rfl) T.n_int (by decide +kernel) (pa_cons (pe_op op_add (pe_op op_add (pe_op op_mul (pv 3) (pv 3)) (pe_op op_mul (pe_ix ix_seq (pv 0) pe_int (fun _ _ => rfl)) pe_int)) pe_int) pa_nil)) pe_int))
  (pss_one (ps_ret (pe_op op_mod (pe_callTy call_int1 (by rfl) T.n_int (by decide +kernel) (pa_cons (pe_op op_fdiv (pv 3) pe_int) pa_nil)) (pv 1)))))))), ?_⟩
    walk_at "sx"
    refine i_b2 (fun hb => ?_) (fun hb => ?_)
    · walk_at "sx"
      refine i_2 (fun hc => ?_) (fun hc => ?_)
      · walk_at "sx"
        exact k _ _ (Int.emod_nonneg _ (by omega)) (Int.emod_lt_of_pos _ m0) ⟨_, _, _, _, by assumption⟩ (by walk_at "kp")
      · walk_at "sx"
        exact k _ _ (Int.emod_nonneg _ (by omega)) (Int.emod_lt_of_pos _ m0) ⟨_, _, _, _, by assumption⟩ (by walk_at "kp")
    · walk_at "sx"
      exact k _ _ (Int.emod_nonneg _ (by omega)) (Int.emod_lt_of_pos _ m0) ⟨_, _, _, _, by assumption⟩ (by walk_at "kp")
end
end K60

set_option Elab.async false
set_option linter.all false
set_option maxRecDepth 100000
set_option maxHeartbeats 4000000
namespace K60
open PySem L2 Sx
local macro_rules | `(tactic| walk_at "cond") => `(tactic| first
  | assumption
  | decide
  | exact c_mul_r (by first | decide | omega) (by first | decide | omega)
  | exact c_mul_l (by first | decide | omega) (by first | decide | omega)
  | exact c_div (by first | decide | omega) (by first | decide | omega)
  | exact c_pow (by first | decide | omega) (by first | decide | omega) (by first | decide | omega)
  | omega)
local macro_rules | `(tactic| walk_at "ne") => `(tactic| first
  | assumption
  | (refine Ne.symm ?_; assumption)
  | (refine' Flow.ne ?nh ?nn; (case nn => assumption); (case nh => walk_at "fl"))
  | (refine Ne.symm ?_; refine' Flow.ne ?nh ?nn; (case nn => assumption); (case nh => walk_at "fl"))
  | (refine' ne_of_none ?nh ?nn; (case nn => assumption); (case nh => walk_at "at"))
  | (refine Ne.symm ?_; refine' ne_of_none ?nh ?nn; (case nn => assumption); (case nh => walk_at "at")))
local macro_rules | `(tactic| walk_at "at") => `(tactic| first
  | assumption
  | (refine Same.up (by assumption) ?_; walk_at "at")
  | (refine Keep.up (by assumption) (by walk_at "ne") ?_; walk_at "at"))
local macro_rules | `(tactic| walk_at "fl") => `(tactic| first
  | assumption
  | (refine Flow.same (by assumption) ?_; walk_at "fl")
  | (refine Flow.keep (by assumption) (by walk_at "ne") ?_; walk_at "fl"))
local macro_rules | `(tactic| walk_at "fr") => `(tactic| first
  | assumption
  | (refine same_free (by assumption) ?_; walk_at "fr")
  | (refine Keep.free (by assumption) (by walk_at "ne") ?_; walk_at "fr"))
local macro_rules | `(tactic| walk_at "kp") => `(tactic| first
  | assumption
  | exact Keep.refl _ _
  | (refine Keep.trans ?_ (by assumption); walk_at "kp")
  | (refine Keep.trans ?_ (Keep.same (by assumption)); walk_at "kp"))
local macro_rules | `(tactic| walk_at "sm") => `(tactic| first
  | assumption
  | exact L2.Same.refl _
  | (refine L2.Same.trans ?_ (by assumption); walk_at "sm"))
local macro_rules | `(tactic| walk_at "sz") => `(tactic| first | exact Nat.le_of_ble_eq_true rfl | omega)
local macro_rules | `(tactic| walk_at "new") => `(tactic| (intro p np; generalize hE : upd _ p _ = H2; have s2 := new_same np hE; have h2 := new_at hE; clear hE))
local macro_rules | `(tactic| walk_at "newx") => `(tactic| (intro e d na nd hda; generalize hE : upd (upd _ d _) e _ = H2; have s2 := newx_same na nd hE; have h2 := newx_at hE; have h3 := newx_d hda hE; clear hE))
local macro_rules | `(tactic| walk_at "s1") => `(tactic| first
  | with_reducible refine s_seq ?_
  | with_reducible refine s_asg ?_
  | with_reducible refine s_name ?_
  | with_reducible refine s_ret ?_
  | with_reducible refine s_c ?_
  | ((with_reducible refine' s_var ?hv ?_); (case hv => rfl))
  | with_reducible refine s_op ?_
  | with_reducible refine s_un ?_
  | with_reducible refine s_ifS ?_
  | with_reducible refine s_cb ?_
  | with_reducible refine s_cons ?_
  | with_reducible refine s_nil ?_
  | with_reducible refine s_call ?_
  | with_reducible refine s_test ?_
  | with_reducible refine s_tB ?_
  | with_reducible refine s_bl ?_
  | with_reducible refine s_and ?_
  | with_reducible refine s_or ?_
  | with_reducible refine s_not ?_
  | with_reducible refine s_andV ?_
  | with_reducible refine s_orV ?_
  | with_reducible refine s_notV ?_
  | with_reducible refine s_blV ?_
  | with_reducible refine s_if ?_
  | with_reducible refine s_tup ?_
  | with_reducible refine s_lst ?_
  | with_reducible refine s_drop ?_
  | with_reducible refine s_next ?_
  | with_reducible refine s_sub ?_
  | with_reducible refine s_bm ?_
  | with_reducible refine s_callK ?_
  | with_reducible refine s_brk ?_
  | with_reducible refine s_cont ?_
  | with_reducible refine r_I0 ?_
  | with_reducible refine r_U ?_
  | with_reducible refine r_eqI ?_
  | with_reducible refine r_neI ?_
  | with_reducible refine r_isB ?_
  | with_reducible refine r_notB ?_
  | with_reducible refine i_t ?_
  | with_reducible refine i_f ?_
  | with_reducible refine i_nt ?_
  | with_reducible refine i_nf ?_
  | ((with_reducible refine' r_I ?hc ?_); (case hc => walk_at "cond"))
  | (with_reducible refine .inl ⟨_, rfl, ?_⟩)
  | (with_reducible refine ⟨_, rfl, ?_⟩)
  | ((with_reducible refine' r_ixL ?hx ?ha ?_); (case hx => walk_at "at"); (case ha => rfl))
  | ((with_reducible refine' r_ixT ?hx ?ha ?_); (case hx => walk_at "at"); (case ha => rfl))
  | ((with_reducible refine' r_setL ?hx ?ha ?_); (case hx => walk_at "at"); (case ha => rfl); intro H2 k2 h2; (try dsimp only [List.set, Int.toNat] at h2))
  | ((with_reducible refine' r_app ?hx ?hl ?_); (case hx => walk_at "at"); (case hl => first | exact Nat.lt_of_ble_eq_true rfl | omega); intro H2 k2 h2)
  | ((with_reducible refine' ty_list ?hx ?_); (case hx => walk_at "at"))
  | (refine And.intro (by (with_reducible show _ ≤ sizeLine); walk_at "sz") ?_; walk_at "new")
  | with_reducible refine s_exv ?_
  | walk_at "newx")
local macro_rules | `(tactic| walk_at "sx") => `(tactic| repeat (walk_at "s1"))
local macro_rules | `(tactic| walk_at "s2") => `(tactic| first
  | ((with_reducible refine' r_ixG ?hx ?hn ?_); (case hx => walk_at "at"); (case hn => omega))
  | ((with_reducible refine' r_ixGT ?hx ?hn ?_); (case hx => walk_at "at"); (case hn => omega))
  | (with_reducible refine ig_cons (fun hix => ?_) (fun hix => ?_))
  | ((with_reducible refine ig_nil ?_); omega)
  | ((with_reducible refine' i_T ?hc ?_); (case hc => omega))
  | ((with_reducible refine' i_F ?hc ?_); (case hc => omega))
  | (with_reducible refine i_2 (fun hc => ?_) (fun hc => ?_))
  | (with_reducible refine i_n2 (fun hc => ?_) (fun hc => ?_)))
local macro_rules | `(tactic| walk_at "go") => `(tactic| repeat' (first | walk_at "s1" | walk_at "s2"))

local macro_rules | `(tactic| walk_at "s1") => `(tactic| first
  | with_reducible refine s_chain ?_
  | with_reducible refine s_fldS ?_
  | with_reducible refine s_fld ?_
  | with_reducible refine s_dIn ?_
  | with_reducible refine s_dNotIn ?_
  | with_reducible refine s_sl ?_
  | with_reducible refine s_noPart ?_
  | with_reducible refine s_part ?_
  | with_reducible refine s_meth ?_
  | with_reducible refine s_make ?_)

theorem Pen.same {H H' : Hp} {a : Addr} (f : Pen H a) (s : Same H H') : Pen H' a := by
  obtain ⟨c, b, n, p, h⟩ := f
  exact ⟨c, b, n, p, s _ _ h⟩
theorem Pen.ne {H : Hp} {a p : Addr} (f : Pen H a) (n : H p = none) : a ≠ p := by
  obtain ⟨c, b, n', p', h⟩ := f
  exact ne_of_none h n
theorem Pen.keep {H H' : Hp} {a p : Addr} (f : Pen H a) (k : Keep p H H') (n : a ≠ p) : Pen H' a := by
  obtain ⟨c, b, n', p', h⟩ := f
  exact ⟨c, b, n', p', k _ _ n h⟩
theorem ix_mem {xs : List V} {d : Int} (h0 : 0 ≤ d) (h1 : d < (xs.length : Nat)) : ∃ v, atI xs d = some v ∧ v ∈ xs := by
  obtain ⟨m, rfl⟩ := Int.eq_ofNat_of_zero_le h0
  have hm : m < xs.length := by omega
  exact ⟨xs[m], atI_nat (List.getElem?_eq_getElem hm), List.getElem_mem hm⟩
theorem keep_new {a D : Addr} {H H8 H9 : Hp} (k : Keep a H H8) (n : H D = none) (k9 : Keep D H8 H9) : Keep a H H9 := fun b o hb h => k9 b o (ne_of_none h n) (k b o hb h)
section
variable {P : Program} {w : World} {K : PySem.W.Frag} {mg : Str → Option Value} {base : Heap} {A : Ad}
def spC : Sp := fun vs H Q _ => ∃ (a : Addr) (k : Kind), vs = [.ref a, .str k.s] ∧ Pen H a ∧ ∀ (c : Nat) H', 1 ≤ c → c ≤ 4 → Pen H' a → Keep a H H' → Q (.int c) H'
theorem ok_c (T : Txt P w K mg A) : FnOk P w K mg base CX0 2 A.a__law_c A.d__law_c ["pen", "kind"] spC := by
  refine T.F__law_c.ok sc__law_c (fun vs H Q E h => ?_) (fun cdv A' outer s H vs Q E hr h => ?_)
  · obtain ⟨a, k, rfl, _⟩ := h
    rfl
  · obtain ⟨a, k, rfl, hp, q⟩ := h
    have G__law_pick := ok_pick (w := w) (base := base) T
    refine ⟨_, (pss_cons (ps_if (pt_cmpR op_eq (pv 1) pe_str (nomark _)) (pss_one (ps_ret (pe_op op_add pe_int (pe_call G__law_pick (hr.mono (by decide)) rfl T.g__law_pick T.F__law_pick.kp (B__law_pick T) .nil pass0 (pa_cons (pv 0) (pa_cons pe_int pa_nil)))))) pss_nil)
  (pss_cons (ps_if (PW.pt (pw_or (pt_cmpR op_eq (pv 1) pe_str (nomark _)) (pw_or1 (pt_cmpR op_eq (pv 1) pe_str (nomark _))))) (pss_one (ps_ret (pe_op op_add pe_int (pe_call G__law_pick (hr.mono (by decide)) rfl T.g__law_pick T.F__law_pick.kp (B__law_pick T) .nil pass0 (pa_cons (pv 0) (pa_cons pe_int pa_nil)))))) pss_nil)
  (pss_one (ps_ret (pe_ifExp (pt_cmpR op_eq (pv 1) pe_str (nomark _)) pe_int pe_int))))), ?_⟩
    have fin : ∀ (m : Int) (d : Int) H', 0 ≤ d → d < m → m ≤ 4 → Pen H' a → Keep a H H' → Q (.int (1 + d)) H' := fun m d H' l u l4 p' k' => by
      obtain ⟨c, rfl⟩ := Int.eq_ofNat_of_zero_le l
      have := q (1 + c) H' (by omega) (by omega) p' k'
      rw [show ((1 + c : Nat) : Int) = 1 + (c : Int) by omega] at this
      exact this
    have q1 := q 1 H (by decide) (by decide) hp (Keep.refl _ _)
    have q2 := q 2 H (by decide) (by decide) hp (Keep.refl _ _)
    cases k
    all_goals
      repeat (first
        | (refine c_pick hp (by decide) (by decide) (fun d H' l u p' k' => ?_))
        | (refine r_eq rfl ?_; refine ⟨_, rfl, ?_⟩; first | refine i_T rfl ?_ | refine i_F (by decide +kernel) ?_)
        | exact fin _ _ _ l u (by decide) p' k'
        | exact q1
        | exact q2
        | walk_at "s1")
end
end K60

set_option Elab.async false
set_option linter.all false
set_option maxRecDepth 100000
set_option maxHeartbeats 4000000
namespace K60
open PySem L2 Sx
local macro_rules | `(tactic| walk_at "cond") => `(tactic| first
  | assumption
  | decide
  | exact c_mul_r (by first | decide | omega) (by first | decide | omega)
  | exact c_mul_l (by first | decide | omega) (by first | decide | omega)
  | exact c_div (by first | decide | omega) (by first | decide | omega)
  | exact c_pow (by first | decide | omega) (by first | decide | omega) (by first | decide | omega)
  | omega)
local macro_rules | `(tactic| walk_at "ne") => `(tactic| first
  | assumption
  | (refine Ne.symm ?_; assumption)
  | (refine' Flow.ne ?nh ?nn; (case nn => assumption); (case nh => walk_at "fl"))
  | (refine Ne.symm ?_; refine' Flow.ne ?nh ?nn; (case nn => assumption); (case nh => walk_at "fl"))
  | (refine' ne_of_none ?nh ?nn; (case nn => assumption); (case nh => walk_at "at"))
  | (refine Ne.symm ?_; refine' ne_of_none ?nh ?nn; (case nn => assumption); (case nh => walk_at "at")))
local macro_rules | `(tactic| walk_at "at") => `(tactic| first
  | assumption
  | (refine Same.up (by assumption) ?_; walk_at "at")
  | (refine Keep.up (by assumption) (by walk_at "ne") ?_; walk_at "at"))
local macro_rules | `(tactic| walk_at "fl") => `(tactic| first
  | assumption
  | (refine Flow.same (by assumption) ?_; walk_at "fl")
  | (refine Flow.keep (by assumption) (by walk_at "ne") ?_; walk_at "fl"))
local macro_rules | `(tactic| walk_at "fr") => `(tactic| first
  | assumption
  | (refine same_free (by assumption) ?_; walk_at "fr")
  | (refine Keep.free (by assumption) (by walk_at "ne") ?_; walk_at "fr"))
local macro_rules | `(tactic| walk_at "kp") => `(tactic| first
  | assumption
  | exact Keep.refl _ _
  | (refine Keep.trans ?_ (by assumption); walk_at "kp")
  | (refine Keep.trans ?_ (Keep.same (by assumption)); walk_at "kp"))
local macro_rules | `(tactic| walk_at "sm") => `(tactic| first
  | assumption
  | exact L2.Same.refl _
  | (refine L2.Same.trans ?_ (by assumption); walk_at "sm"))
local macro_rules | `(tactic| walk_at "sz") => `(tactic| first | exact Nat.le_of_ble_eq_true rfl | omega)
local macro_rules | `(tactic| walk_at "new") => `(tactic| (intro p np; generalize hE : upd _ p _ = H2; have s2 := new_same np hE; have h2 := new_at hE; clear hE))
local macro_rules | `(tactic| walk_at "newx") => `(tactic| (intro e d na nd hda; generalize hE : upd (upd _ d _) e _ = H2; have s2 := newx_same na nd hE; have h2 := newx_at hE; have h3 := newx_d hda hE; clear hE))
local macro_rules | `(tactic| walk_at "s1") => `(tactic| first
  | with_reducible refine s_seq ?_
  | with_reducible refine s_asg ?_
  | with_reducible refine s_name ?_
  | with_reducible refine s_ret ?_
  | with_reducible refine s_c ?_
  | ((with_reducible refine' s_var ?hv ?_); (case hv => rfl))
  | with_reducible refine s_op ?_
  | with_reducible refine s_un ?_
  | with_reducible refine s_ifS ?_
  | with_reducible refine s_cb ?_
  | with_reducible refine s_cons ?_
  | with_reducible refine s_nil ?_
  | with_reducible refine s_call ?_
  | with_reducible refine s_test ?_
  | with_reducible refine s_tB ?_
  | with_reducible refine s_bl ?_
  | with_reducible refine s_and ?_
  | with_reducible refine s_or ?_
  | with_reducible refine s_not ?_
  | with_reducible refine s_andV ?_
  | with_reducible refine s_orV ?_
  | with_reducible refine s_notV ?_
  | with_reducible refine s_blV ?_
  | with_reducible refine s_if ?_
  | with_reducible refine s_tup ?_
  | with_reducible refine s_lst ?_
  | with_reducible refine s_drop ?_
  | with_reducible refine s_next ?_
  | with_reducible refine s_sub ?_
  | with_reducible refine s_bm ?_
  | with_reducible refine s_callK ?_
  | with_reducible refine s_brk ?_
  | with_reducible refine s_cont ?_
  | with_reducible refine r_I0 ?_
  | with_reducible refine r_U ?_
  | with_reducible refine r_eqI ?_
  | with_reducible refine r_neI ?_
  | with_reducible refine r_isB ?_
  | with_reducible refine r_notB ?_
  | with_reducible refine i_t ?_
  | with_reducible refine i_f ?_
  | with_reducible refine i_nt ?_
  | with_reducible refine i_nf ?_
  | ((with_reducible refine' r_I ?hc ?_); (case hc => walk_at "cond"))
  | (with_reducible refine .inl ⟨_, rfl, ?_⟩)
  | (with_reducible refine ⟨_, rfl, ?_⟩)
  | ((with_reducible refine' r_ixL ?hx ?ha ?_); (case hx => walk_at "at"); (case ha => rfl))
  | ((with_reducible refine' r_ixT ?hx ?ha ?_); (case hx => walk_at "at"); (case ha => rfl))
  | ((with_reducible refine' r_setL ?hx ?ha ?_); (case hx => walk_at "at"); (case ha => rfl); intro H2 k2 h2; (try dsimp only [List.set, Int.toNat] at h2))
  | ((with_reducible refine' r_app ?hx ?hl ?_); (case hx => walk_at "at"); (case hl => first | exact Nat.lt_of_ble_eq_true rfl | omega); intro H2 k2 h2)
  | ((with_reducible refine' ty_list ?hx ?_); (case hx => walk_at "at"))
  | (refine And.intro (by (with_reducible show _ ≤ sizeLine); walk_at "sz") ?_; walk_at "new")
  | with_reducible refine s_exv ?_
  | walk_at "newx")
local macro_rules | `(tactic| walk_at "sx") => `(tactic| repeat (walk_at "s1"))
local macro_rules | `(tactic| walk_at "s2") => `(tactic| first
  | ((with_reducible refine' r_ixG ?hx ?hn ?_); (case hx => walk_at "at"); (case hn => omega))
  | ((with_reducible refine' r_ixGT ?hx ?hn ?_); (case hx => walk_at "at"); (case hn => omega))
  | (with_reducible refine ig_cons (fun hix => ?_) (fun hix => ?_))
  | ((with_reducible refine ig_nil ?_); omega)
  | ((with_reducible refine' i_T ?hc ?_); (case hc => omega))
  | ((with_reducible refine' i_F ?hc ?_); (case hc => omega))
  | (with_reducible refine i_2 (fun hc => ?_) (fun hc => ?_))
  | (with_reducible refine i_n2 (fun hc => ?_) (fun hc => ?_)))
local macro_rules | `(tactic| walk_at "go") => `(tactic| repeat' (first | walk_at "s1" | walk_at "s2"))

local macro_rules | `(tactic| walk_at "s1") => `(tactic| first
  | with_reducible refine s_chain ?_
  | with_reducible refine s_fldS ?_
  | with_reducible refine s_fld ?_
  | with_reducible refine s_dIn ?_
  | with_reducible refine s_dNotIn ?_
  | with_reducible refine s_sl ?_
  | with_reducible refine s_noPart ?_
  | with_reducible refine s_part ?_
  | with_reducible refine s_meth ?_
  | with_reducible refine s_make ?_)

/-- a tuple of ints, at its place -/
abbrev rf (p : Addr × List Int) : V := .ref p.1
def PtsAt (H : Hp) (c : Nat) (qs : List (Addr × List Int)) : Prop := ∀ q ∈ qs, H q.1 = some (.tup (q.2.map V.int)) ∧ q.2.length = c
theorem PtsAt.same {H H' : Hp} {c : Nat} {qs : List (Addr × List Int)} (s : Same H H') (h : PtsAt H c qs) : PtsAt H' c qs := fun q hq => ⟨s _ _ (h q hq).1, (h q hq).2⟩
theorem ne_tl {H : Hp} {a b : Addr} {xs ys : List V} (h : H a = some (.tup xs)) (g : H b = some (.lst ys)) : a ≠ b := ne_of h g fun e => nomatch e
theorem PtsAt.keep {H H' : Hp} {a : Addr} {c : Nat} {xs : List V} {qs : List (Addr × List Int)} (k : Keep a H H') (ha : H a = some (.lst xs)) (h : PtsAt H c qs) : PtsAt H' c qs := fun q hq => ⟨k _ _ (ne_tl (h q hq).1 ha) (h q hq).1, (h q hq).2⟩
theorem PtsAt.pen {H H' : Hp} {a : Addr} {c : Nat} {qs : List (Addr × List Int)} (k : Keep a H H') (ha : Pen H a) (h : PtsAt H c qs) : PtsAt H' c qs := by
  obtain ⟨_, _, _, _, e⟩ := ha
  exact h.keep k e
theorem ix_nats {ns : List Nat} {d : Int} {B : Nat} (hB : ∀ n ∈ ns, n ≤ B) (h0 : 0 ≤ d) (h1 : d < (ns.length : Nat)) : ∃ n : Nat, n ≤ B ∧ atI (ns.map fun n => V.int (n : Nat)) d = some (.int n) := by
  obtain ⟨v, e, m⟩ := ix_mem (xs := ns.map fun n => V.int (n : Nat)) h0 (by rw [List.length_map]; exact h1)
  obtain ⟨n, hn, rfl⟩ := List.mem_map.mp m
  exact ⟨n, hB n hn, e⟩
section
variable {P : Program} {w : World} {K : PySem.W.Frag} {mg : Str → Option Value} {base : Heap} {A : Ad}
def spPts : Sp := fun vs H Q _ => ∃ (a : Addr) (k : Kind) (c m : Nat), vs = [.ref a, .str k.s, .int c, .int m] ∧ Pen H a ∧ 1 ≤ c ∧ c ≤ 4 ∧ m ≤ 6 ∧ ∀ p qs H', Pen H' a → Keep a H H' → H' p = some (.tup (qs.map rf)) → PtsAt H' c qs → qs.length ≤ 6 → Q (.ref p) H'
theorem ok_pts (T : Txt P w K mg A) : FnOk P w K mg base CX0 2 A.a__law_points A.d__law_points ["pen", "kind", "c", "most"] spPts := by
  refine T.F__law_points.ok sc__law_points (fun vs H Q E h => ?_) (fun cdv A' outer s H vs Q E hr h => ?_)
  · obtain ⟨a, k, c, m, rfl, _⟩ := h
    rfl
  · obtain ⟨a, k, c, m, rfl, hp, c1, c4, m6, q⟩ := h
    have G__law_pick := ok_pick (w := w) (base := base) T
    refine ⟨_, (pss_cons (ps_set (i := 4) sc__law_points.nd rfl (Or.inl rfl) (pe_callB (call_min2 rfl) (by rfl) T.n_min (by decide +kernel) (pa_cons (pv 3) (pa_cons (pe_ix ix_seq (pe_lst (pa_cons pe_int (pa_cons pe_int (pa_cons pe_int (pa_cons pe_int (pa_cons pe_int (pa_cons pe_int (pa_cons pe_int (pa_cons pe_int (pa_cons pe_int (pa_cons pe_int pa_nil))))))))))) (pe_call G__law_pick (hr.mono (by decide)) rfl T.g__law_pick T.F__law_pick.kp (B__law_pick T) .nil pass0 (pa_cons (pv 0) (pa_cons pe_int pa_nil))) (fun _ _ => rfl)) pa_nil))))
  (pss_cons (ps_set (i := 5) sc__law_points.nd rfl (Or.inr rfl) (pe_ix ix_seq (pe_lst (pa_cons pe_int (pa_cons pe_int (pa_cons pe_int (pa_cons pe_int (pa_cons pe_int (pa_cons pe_int pa_nil))))))) (pe_call G__law_pick (hr.mono (by decide)) rfl T.g__law_pick T.F__law_pick.kp (B__law_pick T) .nil pass0 (pa_cons (pv 0) (pa_cons pe_int pa_nil))) (fun _ _ => rfl)))
  (pss_cons (ps_set (i := 6) sc__law_points.nd rfl (Or.inl rfl) (pe_lst pa_nil))
  (pss_cons (ps_for PassesOwn.never rfl (pi_range1 rfl T.n_range (pa_cons (pv 4) pa_nil)) (pg_name (i := 7) sc__law_points.nd rfl (Or.inl rfl))
  (pss_one (ps_if (PW.pt (pw_and (pt_cmpR op_gt (pv 7) pe_int (nomark _)) (pw_and1 (pt_cmpR op_eq (pe_call G__law_pick (hr.mono (by decide)) rfl T.g__law_pick T.F__law_pick.kp (B__law_pick T) .nil pass0 (pa_cons (pv 0) (pa_cons pe_int pa_nil))) pe_int (nomark _))))) (pss_one (ps_expr (pe_bm PySem.F.plainAttrs_list PySem.F.slot_list_append PySem.F.type_list_append mt_append (pv 6) (pa_cons (pe_ix ix_seq (pv 6) (pe_call G__law_pick (hr.mono (by decide)) rfl T.g__law_pick T.F__law_pick.kp (B__law_pick T) .nil pass0 (pa_cons (pv 0) (pa_cons (pv 7) pa_nil))) (fun _ _ => rfl)) pa_nil)))) (pss_one (ps_if (PW.pt (pw_or (pt_cmpR op_eq (pv 1) pe_str (nomark _)) (pw_or1 (pt_cmpR op_eq (pv 1) pe_str (nomark _))))) (pss_one (ps_expr (pe_bm PySem.F.plainAttrs_list PySem.F.slot_list_append PySem.F.type_list_append mt_append (pv 6) (pa_cons (pe_callTy call_tuple_of (by rfl) T.n_tuple (by decide +kernel) (pa_cons (pe_lc (own := [("t", 8)]) (g := (gName 8)) (by rfl) sc__law_points.nd (pi_range1 rfl T.n_range (pa_cons (pv 2) pa_nil)) (blkOk_by (own := [("t", 8)]) (N := ["pen", "kind", "c", "most", "many", "span", "points", "k", "t"]) (sc := defScope s__law_points) (by decide +kernel)) (fun _ _ _ _ _ => (pg_name (i := 8) sc__law_points.nd rfl (Or.inl rfl))) (fun _ _ _ _ _ => pts_nil) (fun _ _ _ _ _ => (pe_call G__law_pick (hr.mono (by decide)) rfl T.g__law_pick T.F__law_pick.kp (B__law_pick T) .nil pass0 (pa_cons (pv 0) (pa_cons pe_int pa_nil))))) pa_nil)) pa_nil)))) (pss_one (ps_expr (pe_bm PySem.F.plainAttrs_list PySem.F.slot_list_append PySem.F.type_list_append mt_append (pv 6) (pa_cons (pe_callTy call_tuple_of (by rfl) T.n_tuple (by decide +kernel) (pa_cons (pe_lc (own := [("t", 8)]) (g := (gName 8)) (by rfl) sc__law_points.nd (pi_range1 rfl T.n_range (pa_cons (pv 2) pa_nil)) (blkOk_by (own := [("t", 8)]) (N := ["pen", "kind", "c", "most", "many", "span", "points", "k", "t"]) (sc := defScope s__law_points) (by decide +kernel)) (fun _ _ _ _ _ => (pg_name (i := 8) sc__law_points.nd rfl (Or.inl rfl))) (fun _ _ _ _ _ => pts_nil) (fun _ _ _ _ _ => (pe_op op_sub (pe_call G__law_pick (hr.mono (by decide)) rfl T.g__law_pick T.F__law_pick.kp (B__law_pick T) .nil pass0 (pa_cons (pv 0) (pa_cons (pe_op op_add (pe_op op_mul pe_int (pv 5)) pe_int) pa_nil))) (pv 5)))) pa_nil)) pa_nil)))))))))
  (pss_one (ps_ret (pe_callTy call_tuple_of (by rfl) T.n_tuple (by decide +kernel) (pa_cons (pv 6) pa_nil)))))))), ?_⟩
    walk_at "sx"
    rename_i p2 np2 H2 s2 h2
    refine c_pick (hp.same s2) (by decide) (by decide) (fun d1 H3 l1 u1 P3 K3 => ?_)
    have h3 := K3 p2 _ (hp.ne np2).symm h2
    obtain ⟨v1, b1, e1⟩ : ∃ n : Nat, n ≤ 6 ∧ atI [V.int 0, V.int 1, V.int 2, V.int 3, V.int 3, V.int 4, V.int 4, V.int 5, V.int 5, V.int 6] d1 = some (.int n) := ix_nats (ns := [0, 1, 2, 3, 3, 4, 4, 5, 5, 6]) (by decide) l1 u1
    refine r_ixL h3 e1 ?_
    have K03 : Keep a H H3 := (Keep.same s2).trans K3
    clear h2 h3
    obtain ⟨many, em, bm⟩ : ∃ many : Nat, (if (v1 : Int) < (m : Int) then (v1 : Int) else (m : Int)) = many ∧ many ≤ 6 := by
      by_cases z : (v1 : Int) < (m : Int)
      · exact ⟨v1, if_pos z, b1⟩
      · exact ⟨m, if_neg z, m6⟩
    walk_at "sx"
    refine ⟨_, _, rfl, ?_⟩
    rw [em]
    walk_at "sx"
    rename_i p4 np4 H4 s4 h4
    refine c_pick (P3.same s4) (by decide) (by decide) (fun d2 H5 l2 u2 P5 K5 => ?_)
    have h5 := K5 p4 _ (P3.ne np4).symm h4
    obtain ⟨v2, b2, e2⟩ : ∃ n : Nat, n ≤ 9999 ∧ atI [V.int 1, V.int 1, V.int 2, V.int 3, V.int 9, V.int 9999] d2 = some (.int n) := ix_nats (ns := [1, 1, 2, 3, 9, 9999]) (by decide) l2 u2
    refine r_ixL h5 e2 ?_
    have K05 : Keep a H H5 := K03.trans ((Keep.same s4).trans K5)
    clear h4 h5
    walk_at "sx"
    rename_i pr npr H6 s6 h6
    have P6 := P5.same s6
    have K06 : Keep a H H6 := K05.trans (Keep.same s6)
    have apr : a ≠ pr := P5.ne npr
    have npr0 : H pr = none := Keep.free K05 apr.symm npr
    have h6' : True → H6 pr = some (.lst (([] : List (Addr × List Int)).map rf)) := fun _ => h6
    clear h6
    refine ⟨_, rfl, _, rfl, by omega, by omega, for_range (lo := 0) (n := many) (fun i σ H' => Pen H' a ∧ Keep a H H' ∧ ∃ (qs : List (Addr × List Int)) (v7 : Option V), (True → H' pr = some (.lst (qs.map rf))) ∧ PtsAt H' c qs ∧ qs.length = i ∧ σ = [some (.ref a), some (.str k.s), some (.int c), some (.int m), some (.int many), some (.int v2), some (.ref pr), v7, none]) ?_ ?_ ?_⟩
    · exact ⟨P6, K06, [], none, h6', (fun q hq => by cases hq), rfl, rfl⟩
    · rintro i σ H' hi ⟨P', K', qs, v7, hq, pa, lq, rfl⟩
      have fin : ∀ (H7 H8 : Hp) (r : Addr) (ms : List Int) (v7 : Option V), Pen H7 a → Keep a H' H7 → H7 r = some (.tup (ms.map V.int)) → ms.length = c → Keep pr H7 H8 → H8 pr = some (.lst (qs.map rf ++ [.ref r])) →
          Pen H8 a ∧ Keep a H H8 ∧ ∃ (qs : List (Addr × List Int)) (v7' : Option V), (True → H8 pr = some (.lst (qs.map rf))) ∧ PtsAt H8 c qs ∧ qs.length = i + 1 ∧ [some (.ref a), some (.str k.s), some (.int c), some (.int m), some (.int many), some (.int v2), some (.ref pr), v7, none] = [some (.ref a), some (.str k.s), some (.int c), some (.int m), some (.int many), some (.int v2), some (.ref pr), v7', none] := by
        intro H7 H8 r ms v7 P7 K7 hr lm k8 h8
        have hq7 := K7 _ _ apr.symm (hq trivial)
        refine ⟨P7.keep k8 apr, keep_new (K'.trans K7) npr0 k8, qs ++ [(r, ms)], v7, fun _ => by rw [h8, List.map_append]; rfl, fun z hz => ?_, by rw [List.length_append, lq]; rfl, rfl⟩
        rcases List.mem_append.mp hz with y | y
        · exact (pa.pen K7 P').keep k8 hq7 z y
        · rw [List.mem_singleton.mp y]
          exact ⟨k8 _ _ (ne_tl hr hq7) hr, lm⟩
      have hq0 := hq trivial
      walk_at "sx"
      refine i_2 (fun c1 => ?x) (fun c1 => ?y)
      case' y =>
        obtain ⟨H7, eH, P7, K7⟩ : ∃ H7, H7 = H' ∧ Pen H7 a ∧ Keep a H' H7 := ⟨H', rfl, P', Keep.refl _ _⟩
        rw [← eH]
        clear eH
      case' x =>
        walk_at "sx"
        refine c_pick P' (by decide) (by decide) (fun d3 H7 l3 u3 P7 K7 => ?_)
        walk_at "sx"
        refine i_2 (fun c2 => ?x1) (fun c2 => ?x2)
        case x1 =>
          have hq7 := K7 _ _ apr.symm hq0
          walk_at "sx"
          refine c_pick P7 (by omega) (by omega) (fun d4 H8 l4 u4 P8 K8 => ?_)
          obtain ⟨e, rfl⟩ := Int.eq_ofNat_of_zero_le l4
          have he : e < qs.length := by omega
          have hq8 := K8 _ _ apr.symm hq7
          refine r_ixL hq8 (v := .ref (qs[e]).1) (atI_nat (by simp [he])) ?_
          walk_at "sx"
          refine r_app hq8 (by rw [List.length_map, sizeLine_eq]; omega) (fun H9 k9 h9 => ?_)
          have z := pa.pen (K7.trans K8) P' qs[e] (List.getElem_mem he)
          exact fin H8 H9 _ _ _ P8 (K7.trans K8) z.1 z.2 k9 h9
      all_goals
        have hq7 := K7 _ _ apr.symm hq0
        walk_at "sx"
        refine r_eq rfl ?_
        refine ⟨_, rfl, ?_⟩
        refine i_2 (fun c3 => ?_) (fun c3 => ?_)
        rotate_left
        walk_at "sx"
        refine r_eq rfl ?_
        refine ⟨_, rfl, ?_⟩
        refine i_2 (fun c5 => ?_) (fun c5 => ?_)
        all_goals
          walk_at "sx"
          refine ⟨_, rfl, _, rfl, by omega, by omega, fun D hD => lc_range (lo := 0) (n := c) (fun j H9 => Pen H9 a ∧ Keep a H7 H9 ∧ ∃ ms : List Int, H9 D = some (.lst (ms.map V.int)) ∧ ms.length = j) ⟨P7.same (Same.new hD), Keep.same (Same.new hD), [], upd_same, rfl⟩ ?_ ?_⟩
          · rintro j H9 hj ⟨P9, K9, ms, hD9, lm⟩
            refine s_name ⟨rfl, ?_⟩
            refine s_yes (i_t ?_)
            walk_at "sx"
            refine c_pick P9 (by omega) (by omega) (fun d5 H10 l5 u5 P10 K10 => ?_)
            walk_at "sx"
            have aD := P7.ne hD
            have h10 := K10 _ _ aD.symm hD9
            refine ⟨_, h10, by rw [List.length_map, lm, sizeLine_eq]; omega, P10.keep (put_keep rfl) aD, keep_new (K9.trans K10) hD (put_keep rfl), ms ++ [_], by rw [upd_same, List.map_append]; rfl, by rw [List.length_append, lm]; rfl⟩
          · rintro H9 ⟨P9, K9, ms, hD9, lm⟩
            walk_at "sx"
            refine ⟨D, _, rfl, .inl ⟨SqL.of hD9, fun p np => ?_⟩⟩
            generalize hE : upd H9 p _ = H10
            have s10 := new_same np hE
            have h10 := new_at hE
            clear hE
            have K10 : Keep a H7 H10 := K9.trans (Keep.same s10)
            have hq10 := K10 _ _ apr.symm hq7
            walk_at "sx"
            refine r_app hq10 (by rw [List.length_map, sizeLine_eq]; omega) (fun H11 k11 h11 => ?_)
            exact fin H10 H11 _ _ _ (P9.same s10) (K7.trans K10) h10 lm k11 h11
    · rintro σ H' ⟨P', K', qs, v7, hq, pa, lq, rfl⟩
      have hq0 := hq trivial
      walk_at "sx"
      refine ⟨pr, _, rfl, .inl ⟨SqL.of hq0, fun p np => ?_⟩⟩
      generalize hE : upd H' p _ = H8
      have s8 := new_same np hE
      have h8 := new_at hE
      clear hE
      walk_at "sx"
      exact q p qs H8 (P'.same s8) (K'.trans (Keep.same s8)) h8 (pa.same s8) (by omega)
end
end K60

set_option Elab.async false
set_option linter.all false
set_option maxRecDepth 100000
set_option maxHeartbeats 4000000
namespace K60
open PySem L2 Sx
local macro_rules | `(tactic| walk_at "cond") => `(tactic| first
  | assumption
  | decide
  | exact c_mul_r (by first | decide | omega) (by first | decide | omega)
  | exact c_mul_l (by first | decide | omega) (by first | decide | omega)
  | exact c_div (by first | decide | omega) (by first | decide | omega)
  | exact c_pow (by first | decide | omega) (by first | decide | omega) (by first | decide | omega)
  | omega)
local macro_rules | `(tactic| walk_at "ne") => `(tactic| first
  | assumption
  | (refine Ne.symm ?_; assumption)
  | (refine' Flow.ne ?nh ?nn; (case nn => assumption); (case nh => walk_at "fl"))
  | (refine Ne.symm ?_; refine' Flow.ne ?nh ?nn; (case nn => assumption); (case nh => walk_at "fl"))
  | (refine' ne_of_none ?nh ?nn; (case nn => assumption); (case nh => walk_at "at"))
  | (refine Ne.symm ?_; refine' ne_of_none ?nh ?nn; (case nn => assumption); (case nh => walk_at "at")))
local macro_rules | `(tactic| walk_at "at") => `(tactic| first
  | assumption
  | (refine Same.up (by assumption) ?_; walk_at "at")
  | (refine Keep.up (by assumption) (by walk_at "ne") ?_; walk_at "at"))
local macro_rules | `(tactic| walk_at "fl") => `(tactic| first
  | assumption
  | (refine Flow.same (by assumption) ?_; walk_at "fl")
  | (refine Flow.keep (by assumption) (by walk_at "ne") ?_; walk_at "fl"))
local macro_rules | `(tactic| walk_at "fr") => `(tactic| first
  | assumption
  | (refine same_free (by assumption) ?_; walk_at "fr")
  | (refine Keep.free (by assumption) (by walk_at "ne") ?_; walk_at "fr"))
local macro_rules | `(tactic| walk_at "kp") => `(tactic| first
  | assumption
  | exact Keep.refl _ _
  | (refine Keep.trans ?_ (by assumption); walk_at "kp")
  | (refine Keep.trans ?_ (Keep.same (by assumption)); walk_at "kp"))
local macro_rules | `(tactic| walk_at "sm") => `(tactic| first
  | assumption
  | exact L2.Same.refl _
  | (refine L2.Same.trans ?_ (by assumption); walk_at "sm"))
local macro_rules | `(tactic| walk_at "sz") => `(tactic| first | exact Nat.le_of_ble_eq_true rfl | omega)
local macro_rules | `(tactic| walk_at "new") => `(tactic| (intro p np; generalize hE : upd _ p _ = H2; have s2 := new_same np hE; have h2 := new_at hE; clear hE))
local macro_rules | `(tactic| walk_at "newx") => `(tactic| (intro e d na nd hda; generalize hE : upd (upd _ d _) e _ = H2; have s2 := newx_same na nd hE; have h2 := newx_at hE; have h3 := newx_d hda hE; clear hE))
local macro_rules | `(tactic| walk_at "s1") => `(tactic| first
  | with_reducible refine s_seq ?_
  | with_reducible refine s_asg ?_
  | with_reducible refine s_name ?_
  | with_reducible refine s_ret ?_
  | with_reducible refine s_c ?_
  | ((with_reducible refine' s_var ?hv ?_); (case hv => rfl))
  | with_reducible refine s_op ?_
  | with_reducible refine s_un ?_
  | with_reducible refine s_ifS ?_
  | with_reducible refine s_cb ?_
  | with_reducible refine s_cons ?_
  | with_reducible refine s_nil ?_
  | with_reducible refine s_call ?_
  | with_reducible refine s_test ?_
  | with_reducible refine s_tB ?_
  | with_reducible refine s_bl ?_
  | with_reducible refine s_and ?_
  | with_reducible refine s_or ?_
  | with_reducible refine s_not ?_
  | with_reducible refine s_andV ?_
  | with_reducible refine s_orV ?_
  | with_reducible refine s_notV ?_
  | with_reducible refine s_blV ?_
  | with_reducible refine s_if ?_
  | with_reducible refine s_tup ?_
  | with_reducible refine s_lst ?_
  | with_reducible refine s_drop ?_
  | with_reducible refine s_next ?_
  | with_reducible refine s_sub ?_
  | with_reducible refine s_bm ?_
  | with_reducible refine s_callK ?_
  | with_reducible refine s_brk ?_
  | with_reducible refine s_cont ?_
  | with_reducible refine r_I0 ?_
  | with_reducible refine r_U ?_
  | with_reducible refine r_eqI ?_
  | with_reducible refine r_neI ?_
  | with_reducible refine r_isB ?_
  | with_reducible refine r_notB ?_
  | with_reducible refine i_t ?_
  | with_reducible refine i_f ?_
  | with_reducible refine i_nt ?_
  | with_reducible refine i_nf ?_
  | ((with_reducible refine' r_I ?hc ?_); (case hc => walk_at "cond"))
  | (with_reducible refine .inl ⟨_, rfl, ?_⟩)
  | (with_reducible refine ⟨_, rfl, ?_⟩)
  | ((with_reducible refine' r_ixL ?hx ?ha ?_); (case hx => walk_at "at"); (case ha => rfl))
  | ((with_reducible refine' r_ixT ?hx ?ha ?_); (case hx => walk_at "at"); (case ha => rfl))
  | ((with_reducible refine' r_setL ?hx ?ha ?_); (case hx => walk_at "at"); (case ha => rfl); intro H2 k2 h2; (try dsimp only [List.set, Int.toNat] at h2))
  | ((with_reducible refine' r_app ?hx ?hl ?_); (case hx => walk_at "at"); (case hl => first | exact Nat.lt_of_ble_eq_true rfl | omega); intro H2 k2 h2)
  | ((with_reducible refine' ty_list ?hx ?_); (case hx => walk_at "at"))
  | (refine And.intro (by (with_reducible show _ ≤ sizeLine); walk_at "sz") ?_; walk_at "new")
  | with_reducible refine s_exv ?_
  | walk_at "newx")
local macro_rules | `(tactic| walk_at "sx") => `(tactic| repeat (walk_at "s1"))
local macro_rules | `(tactic| walk_at "s2") => `(tactic| first
  | ((with_reducible refine' r_ixG ?hx ?hn ?_); (case hx => walk_at "at"); (case hn => omega))
  | ((with_reducible refine' r_ixGT ?hx ?hn ?_); (case hx => walk_at "at"); (case hn => omega))
  | (with_reducible refine ig_cons (fun hix => ?_) (fun hix => ?_))
  | ((with_reducible refine ig_nil ?_); omega)
  | ((with_reducible refine' i_T ?hc ?_); (case hc => omega))
  | ((with_reducible refine' i_F ?hc ?_); (case hc => omega))
  | (with_reducible refine i_2 (fun hc => ?_) (fun hc => ?_))
  | (with_reducible refine i_n2 (fun hc => ?_) (fun hc => ?_)))
local macro_rules | `(tactic| walk_at "go") => `(tactic| repeat' (first | walk_at "s1" | walk_at "s2"))

local macro_rules | `(tactic| walk_at "s1") => `(tactic| first
  | with_reducible refine s_chain ?_
  | with_reducible refine s_fldS ?_
  | with_reducible refine s_fld ?_
  | with_reducible refine s_dIn ?_
  | with_reducible refine s_dNotIn ?_
  | with_reducible refine s_sl ?_
  | with_reducible refine s_noPart ?_
  | with_reducible refine s_part ?_
  | with_reducible refine s_meth ?_
  | with_reducible refine s_make ?_)

abbrev All : Addr → Prop := fun _ => True
theorem s_callS {σ : L2.St} {H : Hp} {Q : VK} {sp : Sp} {E : L2.St → XK} {t : TA} (h : t σ H fun vs H1 => sp vs H1 Q (E σ)) : tCallS sp E t σ H Q := h
local macro_rules | `(tactic| walk_at "s1") => `(tactic| first
  | with_reducible refine s_callS ?_)
theorem hotX {CX : CXT} {P : Program} {w : World} {K : PySem.W.Frag} {mg : Str → Option Value} {base : Heap} {N : List Str} {qual : Str} {scope : Scope} {f : Addr} {cd : Value} {A : Around} {outer : List Env} {s : Shared} {H : Hp} {E : XK} {p : Addr × Obj} (h : L2H.Hot1 A p) : L2H.HotC (L2H.cxH CX P w K mg base N qual scope f cd A outer s H E p) := ⟨p, ⟨h.1, h.2⟩, List.mem_cons_self⟩
theorem _root_.L2.Fun.okHH {CX : CXT} {P : Program} {w : World} {K : PySem.W.Frag} {mg : Str → Option Value} {base : Heap} {x qual : Str} {st : Stmt} {f : Addr} {fd : FuncData} {N ps : List Str} {k : Nat} {sp : Sp} (F : Fun K x qual st f fd) (S : FnScope N ps (defScope st)) (len : ∀ vs H Q E, sp vs H Q E → vs.length = ps.length)
    (hbody : ∀ (cdv : Value) (A : Around) (outer : List Env) (s : Shared) (H : Hp) (vs : List V) (Q : VK) (E : XK) (p : Addr × Obj), L2H.Hot1 A p → L2H.RoomH k (A.deeper (PyProof.Rows.envOfC qual (defScope st) s.heap.objs.size f cdv)) → sp vs H Q E →
      ∃ t, PSs (L2H.cxH CX P w K mg base N qual (defScope st) f cdv A outer s H E p) (defBody st) t ∧ t { nx := fun _ H' => Q .non H', rt := Q } (start N vs) H) : L2H.FnH P w K mg base CX (k + 1) f fd ps sp := by
  obtain ⟨oc, od, kV, doc, pm, an, cdv, ct, osl, rfl, lk, hcd⟩ := F.ex
  exact L2H.fn_ofH lk hcd S len fun A outer s H vs Q E p hot hr hsp => hbody cdv A outer s H vs Q E p hot hr hsp
section
variable {P : Program} {w : World} {K : PySem.W.Frag} {mg : Str → Option Value} {base : Heap} {A : Ad}
local macro_rules | `(tactic| walk_at "knd") => `(tactic| first
  | exact Kn.int _
  | exact Kn.str _
  | exact Kn.tup (by assumption) trivial
  | exact Kn.lst (by assumption) trivial)
local macro_rules | `(tactic| walk_at "no") => `(tactic| first
  | exact in_bK (B := All) (by walk_at "knd")
  | exact in_iK (B := All) (by walk_at "knd")
  | exact in_sK (B := All) (by walk_at "knd"))
local macro_rules | `(tactic| walk_at "is") => `(tactic| (walk_at "sx"; refine isi_in (b := false) (by walk_at "no") ?_; walk_at "sx"))
/-- a value compared with itself -/
def spSame : Sp := fun vs H Q _ => ∃ x : V, vs = [x, x] ∧ ((∃ b, x = .bl b) ∨ (∃ i, x = .int i) ∨ ∃ z, x = .str z) ∧ Q (.bl true) H
theorem ok_same (T : Txt P w K mg A) : FnOk P w K mg base CX0 1 A.a__law_same A.d__law_same ["came", "due"] spSame := by
    refine T.F__law_same.ok sc__law_same (fun vs H Q E h => ?_) (fun cdv A' outer s H vs Q E hr h => ?_)
    · obtain ⟨x, rfl, _⟩ := h
      rfl
    · obtain ⟨x, rfl, fl, k⟩ := h
      refine ⟨_, (pss_cons (ps_if (pt_cmpR op_isN (pv 1) pe_non (nomark _)) (pss_one (ps_ret (pe_cmpR op_isN (pv 0) pe_non (nomark _)))) pss_nil)
  (pss_cons (ps_if (pt_val (pe_callB (id := "isinstance") (r := rIsiV K) call_isiV (by rfl) T.n_isinstance (by decide +kernel) (pa_cons (pv 1) (pa_cons (pe_bltn (v := .ty "bool") (u := .type "bool") (by rfl) T.n_bool (by decide +kernel) rfl) pa_nil)))) (pss_one (ps_ret (pe_and (pe_callB (id := "isinstance") (r := rIsiV K) call_isiV (by rfl) T.n_isinstance (by decide +kernel) (pa_cons (pv 0) (pa_cons (pe_bltn (v := .ty "bool") (u := .type "bool") (by rfl) T.n_bool (by decide +kernel) rfl) pa_nil))) (pe_one (pe_cmpR op_eq (pv 0) (pv 1) (nomark _)))))) pss_nil)
  (pss_cons (ps_if (pt_val (pe_callB (id := "isinstance") (r := rIsiV K) call_isiV (by rfl) T.n_isinstance (by decide +kernel) (pa_cons (pv 1) (pa_cons (pe_bltn (v := .ty "int") (u := .type "int") (by rfl) T.n_int (by decide +kernel) rfl) pa_nil)))) (pss_one (ps_ret (pe_and (pe_callB (id := "isinstance") (r := rIsiV K) call_isiV (by rfl) T.n_isinstance (by decide +kernel) (pa_cons (pv 0) (pa_cons (pe_bltn (v := .ty "int") (u := .type "int") (by rfl) T.n_int (by decide +kernel) rfl) pa_nil))) (pe_and (pe_not (pe_callB (id := "isinstance") (r := rIsiV K) call_isiV (by rfl) T.n_isinstance (by decide +kernel) (pa_cons (pv 0) (pa_cons (pe_bltn (v := .ty "bool") (u := .type "bool") (by rfl) T.n_bool (by decide +kernel) rfl) pa_nil)))) (pe_one (pe_cmpR op_eq (pv 0) (pv 1) (nomark _))))))) pss_nil)
  (pss_cons (ps_if (pt_val (pe_callB (id := "isinstance") (r := rIsiV K) call_isiV (by rfl) T.n_isinstance (by decide +kernel) (pa_cons (pv 1) (pa_cons (pe_bltn (v := .ty "str") (u := .type "str") (by rfl) T.n_str (by decide +kernel) rfl) pa_nil)))) (pss_one (ps_ret (pe_and (pe_callB (id := "isinstance") (r := rIsiV K) call_isiV (by rfl) T.n_isinstance (by decide +kernel) (pa_cons (pv 0) (pa_cons (pe_bltn (v := .ty "str") (u := .type "str") (by rfl) T.n_str (by decide +kernel) rfl) pa_nil))) (pe_one (pe_cmpR op_eq (pv 0) (pv 1) (nomark _)))))) pss_nil)
  (pss_cons ps_never
  (pss_cons ps_never
  (pss_one (ps_ret pe_bl)))))))), ?_⟩
      walk_at "sx"
      refine ⟨rfl, ?_⟩
      walk_at "sx"
      rcases fl with ⟨b, rfl⟩ | ⟨i, rfl⟩ | ⟨z, rfl⟩
      · refine i_F (fun e => nomatch e) ?_
        walk_at "sx"
        refine isi_in (b := true) (in_bK (B := All) (.bl b)) ?_
        walk_at "sx"
        refine isi_in (b := true) (in_bK (B := All) (.bl b)) ?_
        walk_at "sx"
        refine r_eq rfl ?_
        rw [decide_eq_true rfl]
        exact k
      · refine i_F (fun e => nomatch e) ?_
        walk_at "is"
        refine isi_in (b := true) (in_iK (B := All) (.int i)) ?_
        walk_at "sx"
        refine isi_in (b := true) (in_iK (B := All) (.int i)) ?_
        walk_at "sx"
        refine isi_in (b := false) (in_bK (B := All) (.int i)) ?_
        walk_at "sx"
        rw [decide_eq_true rfl]
        exact k
      · refine i_F (fun e => nomatch e) ?_
        walk_at "is"
        walk_at "is"
        refine isi_in (b := true) (in_sK (B := All) (.str z)) ?_
        walk_at "sx"
        refine isi_in (b := true) (in_sK (B := All) (.str z)) ?_
        walk_at "sx"
        refine r_eq rfl ?_
        rw [decide_eq_true rfl]
        exact k
theorem ok_sameH (T : Txt P w K mg A) : L2H.FnH P w K mg base CX0 1 A.a__law_same A.d__law_same ["came", "due"] spSame := by
    refine T.F__law_same.okHH sc__law_same (fun vs H Q E h => ?_) (fun cdv A' outer s H vs Q E p0 hot hr h => ?_)
    · obtain ⟨x, rfl, _⟩ := h
      rfl
    · obtain ⟨x, rfl, fl, k⟩ := h
      refine ⟨_, (pss_cons (ps_if (pt_cmpR op_isN (pv 1) pe_non (nomark _)) (pss_one (ps_ret (pe_cmpR op_isN (pv 0) pe_non (nomark _)))) pss_nil)
  (pss_cons (ps_if (pt_val (pe_callB (id := "isinstance") (r := rIsiV K) call_isiV (by rfl) T.n_isinstance (by decide +kernel) (pa_cons (pv 1) (pa_cons (pe_bltn (v := .ty "bool") (u := .type "bool") (by rfl) T.n_bool (by decide +kernel) rfl) pa_nil)))) (pss_one (ps_ret (pe_and (pe_callB (id := "isinstance") (r := rIsiV K) call_isiV (by rfl) T.n_isinstance (by decide +kernel) (pa_cons (pv 0) (pa_cons (pe_bltn (v := .ty "bool") (u := .type "bool") (by rfl) T.n_bool (by decide +kernel) rfl) pa_nil))) (pe_one (pe_cmpR op_eq (pv 0) (pv 1) (nomark _)))))) pss_nil)
  (pss_cons (ps_if (pt_val (pe_callB (id := "isinstance") (r := rIsiV K) call_isiV (by rfl) T.n_isinstance (by decide +kernel) (pa_cons (pv 1) (pa_cons (pe_bltn (v := .ty "int") (u := .type "int") (by rfl) T.n_int (by decide +kernel) rfl) pa_nil)))) (pss_one (ps_ret (pe_and (pe_callB (id := "isinstance") (r := rIsiV K) call_isiV (by rfl) T.n_isinstance (by decide +kernel) (pa_cons (pv 0) (pa_cons (pe_bltn (v := .ty "int") (u := .type "int") (by rfl) T.n_int (by decide +kernel) rfl) pa_nil))) (pe_and (pe_not (pe_callB (id := "isinstance") (r := rIsiV K) call_isiV (by rfl) T.n_isinstance (by decide +kernel) (pa_cons (pv 0) (pa_cons (pe_bltn (v := .ty "bool") (u := .type "bool") (by rfl) T.n_bool (by decide +kernel) rfl) pa_nil)))) (pe_one (pe_cmpR op_eq (pv 0) (pv 1) (nomark _))))))) pss_nil)
  (pss_cons (ps_if (pt_val (pe_callB (id := "isinstance") (r := rIsiV K) call_isiV (by rfl) T.n_isinstance (by decide +kernel) (pa_cons (pv 1) (pa_cons (pe_bltn (v := .ty "str") (u := .type "str") (by rfl) T.n_str (by decide +kernel) rfl) pa_nil)))) (pss_one (ps_ret (pe_and (pe_callB (id := "isinstance") (r := rIsiV K) call_isiV (by rfl) T.n_isinstance (by decide +kernel) (pa_cons (pv 0) (pa_cons (pe_bltn (v := .ty "str") (u := .type "str") (by rfl) T.n_str (by decide +kernel) rfl) pa_nil))) (pe_one (pe_cmpR op_eq (pv 0) (pv 1) (nomark _)))))) pss_nil)
  (pss_cons ps_never
  (pss_cons ps_never
  (pss_one (ps_ret pe_bl)))))))), ?_⟩
      walk_at "sx"
      refine ⟨rfl, ?_⟩
      walk_at "sx"
      rcases fl with ⟨b, rfl⟩ | ⟨i, rfl⟩ | ⟨z, rfl⟩
      · refine i_F (fun e => nomatch e) ?_
        walk_at "sx"
        refine isi_in (b := true) (in_bK (B := All) (.bl b)) ?_
        walk_at "sx"
        refine isi_in (b := true) (in_bK (B := All) (.bl b)) ?_
        walk_at "sx"
        refine r_eq rfl ?_
        rw [decide_eq_true rfl]
        exact k
      · refine i_F (fun e => nomatch e) ?_
        walk_at "is"
        refine isi_in (b := true) (in_iK (B := All) (.int i)) ?_
        walk_at "sx"
        refine isi_in (b := true) (in_iK (B := All) (.int i)) ?_
        walk_at "sx"
        refine isi_in (b := false) (in_bK (B := All) (.int i)) ?_
        walk_at "sx"
        rw [decide_eq_true rfl]
        exact k
      · refine i_F (fun e => nomatch e) ?_
        walk_at "is"
        walk_at "is"
        refine isi_in (b := true) (in_sK (B := All) (.str z)) ?_
        walk_at "sx"
        refine isi_in (b := true) (in_sK (B := All) (.str z)) ?_
        walk_at "sx"
        refine r_eq rfl ?_
        rw [decide_eq_true rfl]
        exact k
theorem ok_isint (T : Txt P w K mg A) : FnOk P w K mg base CX0 1 A.a__law_is_integer A.d__law_is_integer ["value"] (spT1 K isI) := by
  refine T.F__law_is_integer.ok sc__law_is_integer (fun vs H Q E h => ?_) (fun cdv A' outer s H vs Q E hr h => ?_)
  · obtain ⟨v, rfl, _⟩ := h
    rfl
  · obtain ⟨v, rfl, ⟨b, c, hb, hc, e⟩, k⟩ := h
    refine ⟨_, (pss_one (ps_ret (pe_and (pe_callB (id := "isinstance") (r := rIsiV K) call_isiV (by rfl) T.n_isinstance (by decide +kernel) (pa_cons (pv 0) (pa_cons (pe_bltn (v := .ty "int") (u := .type "int") (by rfl) T.n_int (by decide +kernel) rfl) pa_nil))) (pe_one (pe_not (pe_callB (id := "isinstance") (r := rIsiV K) call_isiV (by rfl) T.n_isinstance (by decide +kernel) (pa_cons (pv 0) (pa_cons (pe_bltn (v := .ty "bool") (u := .type "bool") (by rfl) T.n_bool (by decide +kernel) rfl) pa_nil)))))))), ?_⟩
    rw [← e] at k
    walk_at "sx"
    refine isi_in hb ?_
    cases b
    · walk_at "sx"
      exact k
    · walk_at "sx"
      refine isi_in hc ?_
      walk_at "sx"
      exact k
end
end K60

set_option Elab.async false
set_option linter.all false
set_option maxRecDepth 100000
set_option maxHeartbeats 4000000
namespace K60
open PySem L2 Sx
local macro_rules | `(tactic| walk_at "cond") => `(tactic| first
  | assumption
  | decide
  | exact c_mul_r (by first | decide | omega) (by first | decide | omega)
  | exact c_mul_l (by first | decide | omega) (by first | decide | omega)
  | exact c_div (by first | decide | omega) (by first | decide | omega)
  | exact c_pow (by first | decide | omega) (by first | decide | omega) (by first | decide | omega)
  | omega)
local macro_rules | `(tactic| walk_at "ne") => `(tactic| first
  | assumption
  | (refine Ne.symm ?_; assumption)
  | (refine' Flow.ne ?nh ?nn; (case nn => assumption); (case nh => walk_at "fl"))
  | (refine Ne.symm ?_; refine' Flow.ne ?nh ?nn; (case nn => assumption); (case nh => walk_at "fl"))
  | (refine' ne_of_none ?nh ?nn; (case nn => assumption); (case nh => walk_at "at"))
  | (refine Ne.symm ?_; refine' ne_of_none ?nh ?nn; (case nn => assumption); (case nh => walk_at "at")))
local macro_rules | `(tactic| walk_at "at") => `(tactic| first
  | assumption
  | (refine Same.up (by assumption) ?_; walk_at "at")
  | (refine Keep.up (by assumption) (by walk_at "ne") ?_; walk_at "at"))
local macro_rules | `(tactic| walk_at "fl") => `(tactic| first
  | assumption
  | (refine Flow.same (by assumption) ?_; walk_at "fl")
  | (refine Flow.keep (by assumption) (by walk_at "ne") ?_; walk_at "fl"))
local macro_rules | `(tactic| walk_at "fr") => `(tactic| first
  | assumption
  | (refine same_free (by assumption) ?_; walk_at "fr")
  | (refine Keep.free (by assumption) (by walk_at "ne") ?_; walk_at "fr"))
local macro_rules | `(tactic| walk_at "kp") => `(tactic| first
  | assumption
  | exact Keep.refl _ _
  | (refine Keep.trans ?_ (by assumption); walk_at "kp")
  | (refine Keep.trans ?_ (Keep.same (by assumption)); walk_at "kp"))
local macro_rules | `(tactic| walk_at "sm") => `(tactic| first
  | assumption
  | exact L2.Same.refl _
  | (refine L2.Same.trans ?_ (by assumption); walk_at "sm"))
local macro_rules | `(tactic| walk_at "sz") => `(tactic| first | exact Nat.le_of_ble_eq_true rfl | omega)
local macro_rules | `(tactic| walk_at "new") => `(tactic| (intro p np; generalize hE : upd _ p _ = H2; have s2 := new_same np hE; have h2 := new_at hE; clear hE))
local macro_rules | `(tactic| walk_at "newx") => `(tactic| (intro e d na nd hda; generalize hE : upd (upd _ d _) e _ = H2; have s2 := newx_same na nd hE; have h2 := newx_at hE; have h3 := newx_d hda hE; clear hE))
local macro_rules | `(tactic| walk_at "s1") => `(tactic| first
  | with_reducible refine s_seq ?_
  | with_reducible refine s_asg ?_
  | with_reducible refine s_name ?_
  | with_reducible refine s_ret ?_
  | with_reducible refine s_c ?_
  | ((with_reducible refine' s_var ?hv ?_); (case hv => rfl))
  | with_reducible refine s_op ?_
  | with_reducible refine s_un ?_
  | with_reducible refine s_ifS ?_
  | with_reducible refine s_cb ?_
  | with_reducible refine s_cons ?_
  | with_reducible refine s_nil ?_
  | with_reducible refine s_call ?_
  | with_reducible refine s_test ?_
  | with_reducible refine s_tB ?_
  | with_reducible refine s_bl ?_
  | with_reducible refine s_and ?_
  | with_reducible refine s_or ?_
  | with_reducible refine s_not ?_
  | with_reducible refine s_andV ?_
  | with_reducible refine s_orV ?_
  | with_reducible refine s_notV ?_
  | with_reducible refine s_blV ?_
  | with_reducible refine s_if ?_
  | with_reducible refine s_tup ?_
  | with_reducible refine s_lst ?_
  | with_reducible refine s_drop ?_
  | with_reducible refine s_next ?_
  | with_reducible refine s_sub ?_
  | with_reducible refine s_bm ?_
  | with_reducible refine s_callK ?_
  | with_reducible refine s_brk ?_
  | with_reducible refine s_cont ?_
  | with_reducible refine r_I0 ?_
  | with_reducible refine r_U ?_
  | with_reducible refine r_eqI ?_
  | with_reducible refine r_neI ?_
  | with_reducible refine r_isB ?_
  | with_reducible refine r_notB ?_
  | with_reducible refine i_t ?_
  | with_reducible refine i_f ?_
  | with_reducible refine i_nt ?_
  | with_reducible refine i_nf ?_
  | ((with_reducible refine' r_I ?hc ?_); (case hc => walk_at "cond"))
  | (with_reducible refine .inl ⟨_, rfl, ?_⟩)
  | (with_reducible refine ⟨_, rfl, ?_⟩)
  | ((with_reducible refine' r_ixL ?hx ?ha ?_); (case hx => walk_at "at"); (case ha => rfl))
  | ((with_reducible refine' r_ixT ?hx ?ha ?_); (case hx => walk_at "at"); (case ha => rfl))
  | ((with_reducible refine' r_setL ?hx ?ha ?_); (case hx => walk_at "at"); (case ha => rfl); intro H2 k2 h2; (try dsimp only [List.set, Int.toNat] at h2))
  | ((with_reducible refine' r_app ?hx ?hl ?_); (case hx => walk_at "at"); (case hl => first | exact Nat.lt_of_ble_eq_true rfl | omega); intro H2 k2 h2)
  | ((with_reducible refine' ty_list ?hx ?_); (case hx => walk_at "at"))
  | (refine And.intro (by (with_reducible show _ ≤ sizeLine); walk_at "sz") ?_; walk_at "new")
  | with_reducible refine s_exv ?_
  | walk_at "newx")
local macro_rules | `(tactic| walk_at "sx") => `(tactic| repeat (walk_at "s1"))
local macro_rules | `(tactic| walk_at "s2") => `(tactic| first
  | ((with_reducible refine' r_ixG ?hx ?hn ?_); (case hx => walk_at "at"); (case hn => omega))
  | ((with_reducible refine' r_ixGT ?hx ?hn ?_); (case hx => walk_at "at"); (case hn => omega))
  | (with_reducible refine ig_cons (fun hix => ?_) (fun hix => ?_))
  | ((with_reducible refine ig_nil ?_); omega)
  | ((with_reducible refine' i_T ?hc ?_); (case hc => omega))
  | ((with_reducible refine' i_F ?hc ?_); (case hc => omega))
  | (with_reducible refine i_2 (fun hc => ?_) (fun hc => ?_))
  | (with_reducible refine i_n2 (fun hc => ?_) (fun hc => ?_)))
local macro_rules | `(tactic| walk_at "go") => `(tactic| repeat' (first | walk_at "s1" | walk_at "s2"))

local macro_rules | `(tactic| walk_at "s1") => `(tactic| first
  | with_reducible refine s_chain ?_
  | with_reducible refine s_fldS ?_
  | with_reducible refine s_fld ?_
  | with_reducible refine s_dIn ?_
  | with_reducible refine s_dNotIn ?_
  | with_reducible refine s_sl ?_
  | with_reducible refine s_noPart ?_
  | with_reducible refine s_part ?_
  | with_reducible refine s_meth ?_
  | with_reducible refine s_make ?_)

local macro_rules | `(tactic| walk_at "kq") => `(tactic| (refine r_eq rfl ?_; refine ⟨_, rfl, ?_⟩; first | refine i_T rfl ?_ | refine i_F (by decide +kernel) ?_))
local macro_rules | `(tactic| walk_at "sy") => `(tactic| repeat (fail_if_success (with_reducible show rIx _ _ _ _ _); walk_at "s1"))
theorem s_seqP {s rest : TS} {D : L2.Ends} {σ : L2.St} {H : Hp} (P : L2.St → Hp → Prop) (h1 : ∀ X : L2.St → Hp → Prop, (∀ σ' H', P σ' H' → X σ' H') → s { D with nx := X } σ H) (h2 : ∀ σ' H', P σ' H' → rest D σ' H') : tSeq s rest D σ H := h1 _ h2
def m1 : Kind → Int
  | .bx => 3 | _ => 1
def m2 : Kind → Int
  | .bx => 3 | .hp => 2 | _ => 1
section
variable {P : Program} {w : World} {K : PySem.W.Frag} {mg : Str → Option Value} {base : Heap} {A : Ad}
theorem lens_in {k : Kind} {l : Nat} (h : l ∈ k.lens) : 1 ≤ l ∧ l ≤ k.most ∧ (k = .hp → l = 2) := by
  cases k <;> simp [Kind.lens] at h <;> simp [Kind.most] <;> omega
theorem in_lens {k : Kind} {l : Nat} (h1 : 1 ≤ l) (h2 : l ≤ k.most) (h3 : k = .hp → l = 2) : l ∈ k.lens := by
  cases k <;> simp [Kind.most] at h2 <;> simp [Kind.lens] <;> first | omega | exact h3 rfl
theorem lens_ne (k : Kind) : ∃ l, l ∈ k.lens := by
  cases k <;> exact ⟨_, List.mem_cons_self⟩
theorem k_hp {k : Kind} (h : V.str k.s = V.str (Str.ofString "half planes")) : k = .hp := by
  cases k
  all_goals first | rfl | exact absurd h (by decide +kernel)
theorem k_vals (k : Kind) : k.vals = true ↔ (V.str k.s = V.str (Str.ofString "parities") ∨ V.str k.s = V.str (Str.ofString "ands")) := by
  cases k <;> decide +kernel
theorem v_no {k : Kind} {ps : List (Option (List V))} (h : ∀ l ∈ k.lens, ∃ p ∈ ps, pOk k l p = false) : vOk k (some ps) = false := by
  show k.lens.any (fun l => ps.all (pOk k l)) = false
  rw [List.any_eq_false]
  intro l hl e
  obtain ⟨p, hp, z⟩ := h l hl
  have := List.all_eq_true.mp e p hp
  rw [z] at this
  cases this
theorem v_yes {k : Kind} {ps : List (Option (List V))} {l : Nat} (hl : ps ≠ [] → l ∈ k.lens) (h : ∀ p ∈ ps, pOk k l p = true) : vOk k (some ps) = true := by
  show k.lens.any (fun l => ps.all (pOk k l)) = true
  rw [List.any_eq_true]
  by_cases e : ps = []
  · subst e
    obtain ⟨l, hl⟩ := lens_ne k
    exact ⟨l, hl, rfl⟩
  · exact ⟨l, hl e, List.all_eq_true.mpr h⟩
theorem p_len {k : Kind} {l : Nat} {xs : List V} (h : xs.length ≠ l) : pOk k l (some xs) = false := by
  show (decide (xs.length = l) && xs.all (mOk k)) = false
  rw [decide_eq_false h]
  rfl
theorem p_mem {k : Kind} {l : Nat} {xs : List V} {x : V} (hx : x ∈ xs) (h : mOk k x = false) : pOk k l (some xs) = false := by
  show (decide (xs.length = l) && xs.all (mOk k)) = false
  have : xs.all (mOk k) = false := by
    rw [List.all_eq_false]
    exact ⟨x, hx, by simp [h]⟩
  rw [this, Bool.and_false]
def spDue (K : PySem.W.Frag) : Sp := fun vs H Q _ => ∃ (k : Kind) (v : V) (q : Option (List (Option (List V)))), vs = [.str k.s, v] ∧ VlOk K H v q ∧ Q (.bl (vOk k q)) H
theorem ok_due (T : Txt P w K mg A) : FnOk P w K mg base CX0 2 A.a__law_due A.d__law_due ["kind", "value"] (spDue K) := by
  refine T.F__law_due.ok sc__law_due (fun vs H Q E h => ?_) (fun cdv A' outer s H vs Q E hr h => ?_)
  · obtain ⟨k, v, q, rfl, _⟩ := h
    rfl
  · obtain ⟨k, v, q, rfl, hv, q0⟩ := h
    have G__law_is_integer := ok_isint (w := w) (base := base) T
    refine ⟨_, (pss_cons (ps_if (pt_not (pt_val (pe_callB (id := "isinstance") (r := rIsiV K) call_isiV (by rfl) T.n_isinstance (by decide +kernel) (pa_cons (pv 1) (pa_cons (pe_bltn (v := .ty "tuple") (u := .type "tuple") (by rfl) T.n_tuple (by decide +kernel) rfl) pa_nil))))) (pss_one (ps_ret pe_bl)) pss_nil)
  (pss_cons (ps_set (i := 2) sc__law_due.nd rfl (Or.inl rfl) pe_int)
  (pss_cons (ps_if (pt_cmpR op_eq (pv 0) pe_str (nomark _)) (pss_one (ps_set (i := 2) sc__law_due.nd rfl (Or.inl rfl) pe_int)) pss_nil)
  (pss_cons (ps_if (pt_cmpR op_eq (pv 0) pe_str (nomark _)) (pss_one (ps_set (i := 2) sc__law_due.nd rfl (Or.inl rfl) pe_int)) pss_nil)
  (pss_cons (ps_if (PW.pt (pw_or (pt_cmpR op_eq (pv 0) pe_str (nomark _)) (pw_or1 (pt_cmpR op_eq (pv 0) pe_str (nomark _))))) (pss_one (ps_set (i := 2) sc__law_due.nd rfl (Or.inl rfl) pe_int)) pss_nil)
  (pss_cons (ps_for PassesOwn.never rfl (pi_tup (pv 1)) (pg_name (i := 3) sc__law_due.nd rfl (Or.inl rfl))
  (pss_cons (ps_if (PW.pt (pw_or (pt_not (pt_val (pe_callB (id := "isinstance") (r := rIsiV K) call_isiV (by rfl) T.n_isinstance (by decide +kernel) (pa_cons (pv 3) (pa_cons (pe_bltn (v := .ty "tuple") (u := .type "tuple") (by rfl) T.n_tuple (by decide +kernel) rfl) pa_nil))))) (pw_or (pt_cmpR op_lt (pe_callB call_len (by rfl) T.n_len (by decide +kernel) (pa_cons (pv 3) pa_nil)) pe_int (nomark _)) (pw_or (pt_cmpR op_gt (pe_callB call_len (by rfl) T.n_len (by decide +kernel) (pa_cons (pv 3) pa_nil)) (pv 2) (nomark _)) (pw_or1 (pt_cmpR op_ne (pe_callB call_len (by rfl) T.n_len (by decide +kernel) (pa_cons (pv 3) pa_nil)) (pe_callB call_len (by rfl) T.n_len (by decide +kernel) (pa_cons (pe_ix ix_seq (pv 1) pe_int (fun _ _ => rfl)) pa_nil)) (nomark _))))))) (pss_one (ps_ret pe_bl)) pss_nil)
  (pss_cons (ps_if (PW.pt (pw_and (pt_cmpR op_eq (pv 0) pe_str (nomark _)) (pw_and1 (pt_cmpR op_ne (pe_callB call_len (by rfl) T.n_len (by decide +kernel) (pa_cons (pv 3) pa_nil)) pe_int (nomark _))))) (pss_one (ps_ret pe_bl)) pss_nil)
  (pss_one (ps_for PassesOwn.never rfl (pi_tup (pv 3)) (pg_name (i := 4) sc__law_due.nd rfl (Or.inl rfl))
  (pss_cons (ps_if (pt_not (pt_val (pe_call G__law_is_integer (hr.mono (by decide)) rfl T.g__law_is_integer T.F__law_is_integer.kp (B__law_is_integer T) .nil pass0 (pa_cons (pv 4) pa_nil)))) (pss_one (ps_ret pe_bl)) pss_nil)
  (pss_one (ps_if (PW.pt (pw_and (PW.pt (pw_or (pt_cmpR op_eq (pv 0) pe_str (nomark _)) (pw_or1 (pt_cmpR op_eq (pv 0) pe_str (nomark _))))) (pw_and (pt_cmpR op_ne (pv 4) pe_int (nomark _)) (pw_and1 (pt_cmpR op_ne (pv 4) pe_int (nomark _)))))) (pss_one (ps_ret pe_bl)) pss_nil))))))))
  (pss_one (ps_ret pe_bl)))))))), ?_⟩
    walk_at "sx"
    rcases hv with ⟨rfl, no⟩ | ⟨a, zs, rfl, rfl, ha0, mem, sz⟩
    · refine isi_in no ?_
      walk_at "sx"
      exact q0
    · refine isi_in (in_tup ha0) ?_
      have ha : True → H a = some (.tup (zs.map (·.1))) := fun _ => ha0
      clear ha0
      obtain ⟨ps, eps⟩ : ∃ ps, ps = zs.map (·.2) := ⟨_, rfl⟩
      obtain ⟨l0, el0⟩ : ∃ l0 : Nat, l0 = (match ps[0]? with | some (some xs) => xs.length | _ => 0) := ⟨_, rfl⟩
      rw [← eps] at q0
      have vno : (∀ l ∈ k.lens, ∃ p ∈ ps, pOk k l p = false) → Q (.bl false) H := fun h => by
        rw [v_no h] at q0
        exact q0
      have vyes : (ps ≠ [] → l0 ∈ k.lens) → (∀ p ∈ ps, pOk k l0 p = true) → Q (.bl true) H := fun h1 h2 => by
        rw [v_yes h1 h2] at q0
        exact q0
      have lin : ∀ l ∈ k.lens, 1 ≤ l ∧ l ≤ k.most ∧ (k = .hp → l = 2) := fun l h => lens_in h
      have inl : ∀ l, 1 ≤ l → l ≤ k.most → (k = .hp → l = 2) → l ∈ k.lens := fun l => in_lens
      have mI : ∀ x, isI x = false → mOk k x = false := fun x h => by
        unfold mOk
        split
        · exact num_no h
        · exact h
      clear q0
      refine ⟨_, rfl, i_nt (s_next ?_)⟩
      dsimp only
      refine s_seq (s_asg (s_c (s_name ?_)))
      dsimp only
      refine s_seqP (fun σ' H' => H = H' ∧ σ' = [some (.str k.s), some (.ref a), some (.int (m1 k)), none, none]) (fun X hX => ?_) ?_
      · cases k
        all_goals
          repeat (first | exact hX _ _ ⟨rfl, rfl⟩ | walk_at "kq" | walk_at "s1")
      rintro _ _ ⟨rfl, rfl⟩
      refine s_seqP (fun σ' H' => H = H' ∧ σ' = [some (.str k.s), some (.ref a), some (.int (m2 k)), none, none]) (fun X hX => ?_) ?_
      · cases k
        all_goals
          repeat (first | exact hX _ _ ⟨rfl, rfl⟩ | walk_at "kq" | walk_at "s1")
      rintro _ _ ⟨rfl, rfl⟩
      refine s_seqP (fun σ' H' => H = H' ∧ σ' = [some (.str k.s), some (.ref a), some (.int k.most), none, none]) (fun X hX => ?_) ?_
      · cases k
        all_goals
          repeat (first | exact hX _ _ ⟨rfl, rfl⟩ | walk_at "kq" | walk_at "s1")
      rintro _ _ ⟨rfl, rfl⟩
      walk_at "s1"
      refine ⟨_, rfl, a, rfl, ⟨_, SqT.of (ha trivial)⟩, for_tup (K := K) (a := a) (xs := zs.map (·.1)) (fun i σ H' => H = H' ∧ (∀ p ∈ ps.take i, pOk k l0 p = true ∧ l0 ∈ k.lens) ∧ ∃ v3 v4, σ = [some (.str k.s), some (.ref a), some (.int k.most), v3, v4]) ⟨rfl, (fun p hp => by cases hp), none, none, rfl⟩ (fun i σ H' _ h => by rw [← h.1]; exact SqT.of (ha trivial)) ?_ ?_⟩
      · rintro i x σ H' hx ⟨rfl, ok, v3, v4, rfl⟩
        obtain ⟨⟨zv, zp⟩, hz, rfl⟩ : ∃ z, zs[i]? = some z ∧ z.1 = x := by
          rw [List.getElem?_map] at hx
          exact Option.map_eq_some_iff.mp hx
        have hp : ps[i]? = some zp := by rw [eps, List.getElem?_map, hz]; rfl
        have zin : zp ∈ ps := List.mem_of_getElem? hp
        have mz := mem _ (List.mem_of_getElem? hz)
        simp only at mz
        walk_at "sx"
        rcases mz with ⟨rfl, no⟩ | ⟨pa, xs, rfl, rfl, hpa0, mx, sx⟩
        · refine isi_in no ?_
          walk_at "sx"
          exact vno fun l _ => ⟨none, zin, rfl⟩
        · have hpa : True → H pa = some (.tup xs) := fun _ => hpa0
          refine isi_in (in_tup hpa0) ?_
          clear hpa0
          have first : ∃ a0 xs0, (zs.map (·.1))[0]? = some (V.ref a0) ∧ H a0 = some (.tup xs0) ∧ l0 = xs0.length ∧ some xs0 ∈ ps := by
            rcases Nat.eq_zero_or_pos i with rfl | ip
            · exact ⟨pa, xs, by rw [List.getElem?_map, hz]; rfl, hpa trivial, by rw [el0, hp], zin⟩
            · have lz := (List.getElem?_eq_some_iff.mp hz).1
              obtain ⟨⟨y, py⟩, hy⟩ : ∃ y, zs[0]? = some y := ⟨_, List.getElem?_eq_getElem (by omega)⟩
              have hy2 : ps[0]? = some py := by rw [eps, List.getElem?_map, hy]; rfl
              have t0 : (ps.take i)[0]? = some py := by rw [List.getElem?_take_of_lt ip, hy2]
              have o0 := (ok py (List.mem_of_getElem? t0)).1
              have m0 := mem _ (List.mem_of_getElem? hy)
              simp only at m0
              rcases m0 with ⟨rfl, _⟩ | ⟨a0, xs0, rfl, rfl, h0, _, _⟩
              · cases o0
              · exact ⟨a0, xs0, by rw [List.getElem?_map, hy]; rfl, h0, by rw [el0, hy2], List.mem_of_getElem? hy2⟩
          obtain ⟨a0, xs0, z0, h00, e0, in0⟩ := first
          have h0 : True → H a0 = some (.tup xs0) := fun _ => h00
          clear h00
          walk_at "sx"
          refine ⟨_, _, rfl, .inr ⟨xs, SqT.of (hpa trivial), rfl⟩, ?_⟩
          walk_at "sx"
          refine i_2 (fun c1 => ?_) (fun c1 => ?_)
          · walk_at "sx"
            exact vno fun l hl => ⟨some xs, zin, p_len (by have := lin l hl; omega)⟩
          · walk_at "sx"
            refine ⟨_, _, rfl, .inr ⟨xs, SqT.of (hpa trivial), rfl⟩, ?_⟩
            walk_at "sx"
            refine i_2 (fun c2 => ?_) (fun c2 => ?_)
            · walk_at "sx"
              exact vno fun l hl => ⟨some xs, zin, p_len (by have := lin l hl; omega)⟩
            · walk_at "sx"
              refine ⟨_, _, rfl, .inr ⟨xs, SqT.of (hpa trivial), rfl⟩, ?_⟩
              refine s_cb (s_cons (s_op (s_var rfl (s_c ?_))))
              refine r_ixT (ha trivial) (v := .ref a0) (atI_nat (j := 0) z0) ?_
              walk_at "s1"
              refine ⟨_, _, rfl, .inr ⟨xs0, SqT.of (h0 trivial), rfl⟩, ?_⟩
              walk_at "sx"
              refine i_n2 (fun c3 => ?_) (fun c3 => ?_)
              · walk_at "sx"
                exact vno fun l hl => by
                  by_cases e : xs.length = l
                  · exact ⟨some xs0, in0, p_len (by omega)⟩
                  · exact ⟨some xs, zin, p_len e⟩
              · refine s_next ?_
                dsimp only
                refine s_seqP (fun σ' H' => H = H' ∧ σ' = [some (.str k.s), some (.ref a), some (.int k.most), some (.ref pa), v4] ∧ (k = .hp → xs.length = 2)) (fun X hX => ?_) ?_
                · walk_at "sx"
                  refine r_eq rfl ?_
                  refine ⟨_, rfl, i_2 (fun c4 => ?_) (fun c4 => ?_)⟩
                  · have ek := k_hp c4
                    walk_at "sx"
                    refine ⟨_, _, rfl, .inr ⟨xs, SqT.of (hpa trivial), rfl⟩, ?_⟩
                    walk_at "sx"
                    refine i_n2 (fun c5 => ?_) (fun c5 => ?_)
                    · walk_at "sx"
                      exact vno fun l hl => ⟨some xs, zin, p_len (by have := (lin l hl).2.2 ek; omega)⟩
                    · exact hX _ _ ⟨rfl, rfl, fun _ => by omega⟩
                  · exact hX _ _ ⟨rfl, rfl, fun e => absurd (by rw [e]; rfl) c4⟩
                rintro _ _ ⟨rfl, rfl, chp⟩
                refine ⟨_, rfl, pa, rfl, ⟨_, SqT.of (hpa trivial)⟩, for_tup (K := K) (a := pa) (xs := xs) (fun j σ H' => H = H' ∧ (∀ x ∈ xs.take j, mOk k x = true) ∧ ∃ v4, σ = [some (.str k.s), some (.ref a), some (.int k.most), some (.ref pa), v4]) ⟨rfl, (fun p hp => by cases hp), _, rfl⟩ (fun i σ H' _ h => by rw [← h.1]; exact SqT.of (hpa trivial)) ?_ ?_⟩
                · rintro j x σ H' hx ⟨rfl, okx, v4, rfl⟩
                  have xin := List.mem_of_getElem? hx
                  have nxt : mOk k x = true → ∀ y ∈ xs.take (j + 1), mOk k y = true := fun h y hy => by
                    rw [List.take_succ, hx] at hy
                    rcases List.mem_append.mp hy with hy | hy
                    · exact okx y hy
                    · rw [List.mem_singleton.mp hy]
                      exact h
                  walk_at "sx"
                  refine c_t1 (mx x xin) ?_
                  rcases i_cases x with ⟨n, rfl⟩ | h
                  · have nv : k.vals = false → mOk k (.int n) = true := fun h => by
                      unfold mOk
                      rw [h]
                      rfl
                    have bit : k.vals = true → mOk k (.int n) = (decide (0 ≤ n) && decide (n ≤ 1)) := fun h => by
                      unfold mOk
                      rw [h]
                      rfl
                    have bv := k_vals k
                    walk_at "sx"
                    rw [show isI (V.int n) = true from rfl]
                    walk_at "sx"
                    refine r_eq rfl ?_
                    refine ⟨_, rfl, i_2 (fun c6 => ?_) (fun c6 => ?_)⟩
                    rotate_left
                    · walk_at "sx"
                      refine r_eq rfl ?_
                      refine ⟨_, rfl, i_2 (fun c7 => ?_) (fun c7 => ?_)⟩
                      rotate_left
                      · have nvv : k.vals = false := by
                          cases e : k.vals with
                          | false => rfl
                          | true => exact absurd (bv.mp e) (fun z => z.elim c6 c7)
                        walk_at "sx"
                        exact ⟨rfl, nxt (nv nvv), _, rfl⟩
                      have b := bit (bv.mpr (.inr c7))
                      walk_at "sx"
                      refine i_n2 (fun d0 => ?_) (fun d0 => ?_)
                      · walk_at "sx"
                        refine i_n2 (fun d1 => ?_) (fun d1 => ?_)
                        · walk_at "sx"
                          exact vno fun l _ => ⟨some xs, zin, p_mem xin (by rw [b]; by_cases z : 0 ≤ n <;> simp [z] <;> omega)⟩
                        · walk_at "sx"
                          exact ⟨rfl, nxt (by rw [b, d1]; rfl), _, rfl⟩
                      · walk_at "sx"
                        exact ⟨rfl, nxt (by rw [b, d0]; rfl), _, rfl⟩
                    · have b := bit (bv.mpr (.inl c6))
                      walk_at "sx"
                      refine i_n2 (fun d0 => ?_) (fun d0 => ?_)
                      · walk_at "sx"
                        refine i_n2 (fun d1 => ?_) (fun d1 => ?_)
                        · walk_at "sx"
                          exact vno fun l _ => ⟨some xs, zin, p_mem xin (by rw [b]; by_cases z : 0 ≤ n <;> simp [z] <;> omega)⟩
                        · walk_at "sx"
                          exact ⟨rfl, nxt (by rw [b, d1]; rfl), _, rfl⟩
                      · walk_at "sx"
                        exact ⟨rfl, nxt (by rw [b, d0]; rfl), _, rfl⟩
                  · rw [h]
                    walk_at "sx"
                    exact vno fun l _ => ⟨some xs, zin, p_mem xin (mI x h)⟩
                · rintro σ H' ⟨rfl, okx, v4, rfl⟩
                  rw [List.take_length] at okx
                  refine ⟨rfl, fun p hp' => ?_, _, _, rfl⟩
                  rw [List.take_succ, hp] at hp'
                  rcases List.mem_append.mp hp' with y | y
                  · exact ok p y
                  · rw [List.mem_singleton.mp y]
                    refine ⟨?_, ?_⟩
                    · show (decide (xs.length = l0) && xs.all (mOk k)) = true
                      rw [decide_eq_true (by omega), List.all_eq_true.mpr okx]
                      rfl
                    · exact inl l0 (by omega) (by omega) (fun e => by have := chp e; omega)
      · rintro σ H' ⟨rfl, ok, v3, v4, rfl⟩
        rw [List.length_map, ← List.length_map (f := (·.2)), ← eps, List.take_length] at ok
        walk_at "sx"
        exact vyes (fun h => by
          obtain ⟨p, r, e⟩ := List.exists_cons_of_ne_nil h
          exact (ok p (by rw [e]; exact List.mem_cons_self)).2) fun p hp => (ok p hp).1
end
end K60

set_option Elab.async false
set_option linter.all false
set_option maxRecDepth 100000
set_option maxHeartbeats 4000000
namespace K60
open PySem L2 Sx
local macro_rules | `(tactic| walk_at "cond") => `(tactic| first
  | assumption
  | decide
  | exact c_mul_r (by first | decide | omega) (by first | decide | omega)
  | exact c_mul_l (by first | decide | omega) (by first | decide | omega)
  | exact c_div (by first | decide | omega) (by first | decide | omega)
  | exact c_pow (by first | decide | omega) (by first | decide | omega) (by first | decide | omega)
  | omega)
local macro_rules | `(tactic| walk_at "ne") => `(tactic| first
  | assumption
  | (refine Ne.symm ?_; assumption)
  | (refine' Flow.ne ?nh ?nn; (case nn => assumption); (case nh => walk_at "fl"))
  | (refine Ne.symm ?_; refine' Flow.ne ?nh ?nn; (case nn => assumption); (case nh => walk_at "fl"))
  | (refine' ne_of_none ?nh ?nn; (case nn => assumption); (case nh => walk_at "at"))
  | (refine Ne.symm ?_; refine' ne_of_none ?nh ?nn; (case nn => assumption); (case nh => walk_at "at")))
local macro_rules | `(tactic| walk_at "at") => `(tactic| first
  | assumption
  | (refine Same.up (by assumption) ?_; walk_at "at")
  | (refine Keep.up (by assumption) (by walk_at "ne") ?_; walk_at "at"))
local macro_rules | `(tactic| walk_at "fl") => `(tactic| first
  | assumption
  | (refine Flow.same (by assumption) ?_; walk_at "fl")
  | (refine Flow.keep (by assumption) (by walk_at "ne") ?_; walk_at "fl"))
local macro_rules | `(tactic| walk_at "fr") => `(tactic| first
  | assumption
  | (refine same_free (by assumption) ?_; walk_at "fr")
  | (refine Keep.free (by assumption) (by walk_at "ne") ?_; walk_at "fr"))
local macro_rules | `(tactic| walk_at "kp") => `(tactic| first
  | assumption
  | exact Keep.refl _ _
  | (refine Keep.trans ?_ (by assumption); walk_at "kp")
  | (refine Keep.trans ?_ (Keep.same (by assumption)); walk_at "kp"))
local macro_rules | `(tactic| walk_at "sm") => `(tactic| first
  | assumption
  | exact L2.Same.refl _
  | (refine L2.Same.trans ?_ (by assumption); walk_at "sm"))
local macro_rules | `(tactic| walk_at "sz") => `(tactic| first | exact Nat.le_of_ble_eq_true rfl | omega)
local macro_rules | `(tactic| walk_at "new") => `(tactic| (intro p np; generalize hE : upd _ p _ = H2; have s2 := new_same np hE; have h2 := new_at hE; clear hE))
local macro_rules | `(tactic| walk_at "newx") => `(tactic| (intro e d na nd hda; generalize hE : upd (upd _ d _) e _ = H2; have s2 := newx_same na nd hE; have h2 := newx_at hE; have h3 := newx_d hda hE; clear hE))
local macro_rules | `(tactic| walk_at "s1") => `(tactic| first
  | with_reducible refine s_seq ?_
  | with_reducible refine s_asg ?_
  | with_reducible refine s_name ?_
  | with_reducible refine s_ret ?_
  | with_reducible refine s_c ?_
  | ((with_reducible refine' s_var ?hv ?_); (case hv => rfl))
  | with_reducible refine s_op ?_
  | with_reducible refine s_un ?_
  | with_reducible refine s_ifS ?_
  | with_reducible refine s_cb ?_
  | with_reducible refine s_cons ?_
  | with_reducible refine s_nil ?_
  | with_reducible refine s_call ?_
  | with_reducible refine s_test ?_
  | with_reducible refine s_tB ?_
  | with_reducible refine s_bl ?_
  | with_reducible refine s_and ?_
  | with_reducible refine s_or ?_
  | with_reducible refine s_not ?_
  | with_reducible refine s_andV ?_
  | with_reducible refine s_orV ?_
  | with_reducible refine s_notV ?_
  | with_reducible refine s_blV ?_
  | with_reducible refine s_if ?_
  | with_reducible refine s_tup ?_
  | with_reducible refine s_lst ?_
  | with_reducible refine s_drop ?_
  | with_reducible refine s_next ?_
  | with_reducible refine s_sub ?_
  | with_reducible refine s_bm ?_
  | with_reducible refine s_callK ?_
  | with_reducible refine s_brk ?_
  | with_reducible refine s_cont ?_
  | with_reducible refine r_I0 ?_
  | with_reducible refine r_U ?_
  | with_reducible refine r_eqI ?_
  | with_reducible refine r_neI ?_
  | with_reducible refine r_isB ?_
  | with_reducible refine r_notB ?_
  | with_reducible refine i_t ?_
  | with_reducible refine i_f ?_
  | with_reducible refine i_nt ?_
  | with_reducible refine i_nf ?_
  | ((with_reducible refine' r_I ?hc ?_); (case hc => walk_at "cond"))
  | (with_reducible refine .inl ⟨_, rfl, ?_⟩)
  | (with_reducible refine ⟨_, rfl, ?_⟩)
  | ((with_reducible refine' r_ixL ?hx ?ha ?_); (case hx => walk_at "at"); (case ha => rfl))
  | ((with_reducible refine' r_ixT ?hx ?ha ?_); (case hx => walk_at "at"); (case ha => rfl))
  | ((with_reducible refine' r_setL ?hx ?ha ?_); (case hx => walk_at "at"); (case ha => rfl); intro H2 k2 h2; (try dsimp only [List.set, Int.toNat] at h2))
  | ((with_reducible refine' r_app ?hx ?hl ?_); (case hx => walk_at "at"); (case hl => first | exact Nat.lt_of_ble_eq_true rfl | omega); intro H2 k2 h2)
  | ((with_reducible refine' ty_list ?hx ?_); (case hx => walk_at "at"))
  | (refine And.intro (by (with_reducible show _ ≤ sizeLine); walk_at "sz") ?_; walk_at "new")
  | with_reducible refine s_exv ?_
  | walk_at "newx")
local macro_rules | `(tactic| walk_at "sx") => `(tactic| repeat (walk_at "s1"))
local macro_rules | `(tactic| walk_at "s2") => `(tactic| first
  | ((with_reducible refine' r_ixG ?hx ?hn ?_); (case hx => walk_at "at"); (case hn => omega))
  | ((with_reducible refine' r_ixGT ?hx ?hn ?_); (case hx => walk_at "at"); (case hn => omega))
  | (with_reducible refine ig_cons (fun hix => ?_) (fun hix => ?_))
  | ((with_reducible refine ig_nil ?_); omega)
  | ((with_reducible refine' i_T ?hc ?_); (case hc => omega))
  | ((with_reducible refine' i_F ?hc ?_); (case hc => omega))
  | (with_reducible refine i_2 (fun hc => ?_) (fun hc => ?_))
  | (with_reducible refine i_n2 (fun hc => ?_) (fun hc => ?_)))
local macro_rules | `(tactic| walk_at "go") => `(tactic| repeat' (first | walk_at "s1" | walk_at "s2"))

local macro_rules | `(tactic| walk_at "s1") => `(tactic| first
  | with_reducible refine s_chain ?_
  | with_reducible refine s_fldS ?_
  | with_reducible refine s_fld ?_
  | with_reducible refine s_dIn ?_
  | with_reducible refine s_dNotIn ?_
  | with_reducible refine s_sl ?_
  | with_reducible refine s_noPart ?_
  | with_reducible refine s_part ?_
  | with_reducible refine s_meth ?_
  | with_reducible refine s_make ?_)

section
variable {P : Program} {w : World} {K : PySem.W.Frag} {mg : Str → Option Value} {base : Heap} {A : Ad}
theorem r_cut {H : Hp} {Q : VK} {p : Addr} {xs : List V} {lo hi : Option Int} (h : H p = some (.tup xs)) (q : ∀ p' H2 ys, Same H H2 → H2 p' = some (.tup ys) → (∀ y ∈ ys, y ∈ xs) → ys.length ≤ xs.length → Q (.ref p') H2) : rSlA K (.ref p) lo hi H Q := by
  have sub : ∀ y ∈ cutV xs lo hi, y ∈ xs := fun y hy => List.mem_of_mem_drop (List.mem_of_mem_take hy)
  refine ⟨p, xs, rfl, SqT.of h, fun z => q p H xs (L2.Same.refl H) h (fun y hy => hy) (Nat.le_refl _), fun _ p' np => q p' _ _ (Sx.Same.new np) upd_same sub (cutV_length xs lo hi)⟩
/-- a value that is asked of -/
def Vl (K : PySem.W.Frag) (H : Hp) (v : V) : Prop := ∃ q, VlOk K H v q
def Pt (K : PySem.W.Frag) (H : Hp) (v : V) : Prop := ∃ p, PtOk K H v p
theorem Vl.same {H H' : Hp} {v : V} (e : Same H H') (h : Vl K H v) : Vl K H' v := by
  obtain ⟨q, h⟩ := h
  exact ⟨q, h.same e⟩
theorem Pt.same {H H' : Hp} {v : V} (e : Same H H') (h : Pt K H v) : Pt K H' v := by
  obtain ⟨q, h⟩ := h
  exact ⟨q, h.same e⟩
theorem pt_no {H : Hp} {v : V} (h : IsIn K H v "tuple" false) : Pt K H v := ⟨none, .inl ⟨rfl, h⟩⟩
theorem vl_no {H : Hp} {v : V} (h : IsIn K H v "tuple" false) : Vl K H v := ⟨none, .inl ⟨rfl, h⟩⟩
theorem pt_tup {H : Hp} {a : Addr} {xs : List V} (h : H a = some (.tup xs)) (m : ∀ x ∈ xs, NI K H x) (sz : xs.length < 1000) : Pt K H (.ref a) := ⟨some xs, .inr ⟨a, xs, rfl, rfl, h, m, sz⟩⟩
theorem zip_of {H : Hp} : ∀ xs : List V, (∀ x ∈ xs, Pt K H x) → ∃ zs : List (V × Option (List V)), zs.map (·.1) = xs ∧ ∀ z ∈ zs, PtOk K H z.1 z.2
  | [], _ => ⟨[], rfl, fun z hz => nomatch hz⟩
  | x :: xs, h => by
    obtain ⟨zs, e, m⟩ := zip_of xs fun y hy => h y (List.mem_cons_of_mem _ hy)
    obtain ⟨p, hp⟩ := h x List.mem_cons_self
    refine ⟨(x, p) :: zs, by rw [List.map_cons, e], fun z hz => ?_⟩
    rcases List.mem_cons.mp hz with rfl | hz
    · exact hp
    · exact m z hz
theorem vl_tup {H : Hp} {a : Addr} {xs : List V} (h : H a = some (.tup xs)) (m : ∀ x ∈ xs, Pt K H x) (sz : xs.length < 1000) : Vl K H (.ref a) := by
  obtain ⟨zs, e, mz⟩ := zip_of xs m
  exact ⟨some (zs.map (·.2)), .inr ⟨a, zs, rfl, rfl, by rw [e]; exact h, mz, by rw [← e, List.length_map] at sz; exact sz⟩⟩
theorem pts_pt {H : Hp} {c : Nat} {qs : List (Addr × List Int)} (h : PtsAt H c qs) (c4 : c ≤ 4) : ∀ x ∈ qs.map rf, Pt K H x := fun x hx => by
  obtain ⟨q, hq, rfl⟩ := List.mem_map.mp hx
  obtain ⟨h1, h2⟩ := h q hq
  exact pt_tup h1 (fun y hy => by
    obtain ⟨i, _, rfl⟩ := List.mem_map.mp hy
    exact ni_int i) (by rw [List.length_map]; omega)
theorem in_non {H : Hp} : IsIn K H .non "tuple" false := in_tK (B := fun _ => True) .non
theorem in_int0 {H : Hp} (i : Int) : IsIn K H (.int i) "tuple" false := in_int_t i
theorem in_str0 {H : Hp} (z : Str) : IsIn K H (.str z) "tuple" false := in_tK (B := fun _ => True) (.str z)
theorem in_bl0 {H : Hp} (b : Bool) : IsIn K H (.bl b) "tuple" false := in_tK (B := fun _ => True) (.bl b)
theorem ni_lst {H : Hp} {p : Addr} {xs : List V} (h : H p = some (.lst xs)) : NI K H (.ref p) := ⟨false, false, ⟨_, .inl (.base (.lst h)), kit_ty (by decide +kernel)⟩, ⟨_, .inl (.base (.lst h)), kit_ty (by decide +kernel)⟩, rfl⟩
theorem ni_tup {H : Hp} {p : Addr} {xs : List V} (h : H p = some (.tup xs)) : NI K H (.ref p) := ⟨_, _, in_tup_i h, in_tup_b h, rfl⟩
theorem mem3 {M : V → Prop} {ys zs : List V} {y : V} (h1 : ∀ x ∈ ys, M x) (h2 : M y) (h3 : ∀ x ∈ zs, M x) : ∀ x ∈ ys ++ [y] ++ zs, M x := fun x hx => by
  rcases List.mem_append.mp hx with hx | hx
  · rcases List.mem_append.mp hx with hx | hx
    · exact h1 x hx
    · rw [List.mem_singleton.mp hx]
      exact h2
  · exact h3 x hx
def spSpoilt (K : PySem.W.Frag) : Sp := fun vs H Q _ => ∃ (a p : Addr) (c : Nat) (qs : List (Addr × List Int)), vs = [.ref a, .ref p] ∧ Pen H a ∧ H p = some (.tup (qs.map rf)) ∧ PtsAt H c qs ∧ 1 ≤ c ∧ c ≤ 4 ∧ qs.length ≤ 6 ∧
  ∀ v H', Pen H' a → Keep a H H' → Vl K H' v → Q v H'
theorem ok_spoilt (T : Txt P w K mg A) : FnOk P w K mg base CX0 2 A.a__law_spoilt A.d__law_spoilt ["pen", "points"] (spSpoilt K) := by
  refine T.F__law_spoilt.ok sc__law_spoilt (fun vs H Q E h => ?_) (fun cdv A' outer s H vs Q E hr h => ?_)
  · obtain ⟨a, p, c, qs, rfl, _⟩ := h
    rfl
  · obtain ⟨a, p, c, qs, rfl, hP, hp0, pa, c1, c4, q6, q⟩ := h
    have G__law_pick := ok_pick (w := w) (base := base) T
    have hp : True → H p = some (.tup (qs.map rf)) := fun _ => hp0
    clear hp0
    refine ⟨_, (pss_cons (ps_if (pt_cmpR op_eq (pe_callB call_len (by rfl) T.n_len (by decide +kernel) (pa_cons (pv 1) pa_nil)) pe_int (nomark _)) (pss_one (ps_ret (pe_ix ix_seq (pe_lst (pa_cons (pe_lst pa_nil) (pa_cons pe_non (pa_cons pe_int (pa_cons pe_str (pa_cons (pe_tup (pa_cons (pe_tup pa_nil) pa_nil)) (pa_cons (pe_tup (pa_cons pe_int pa_nil)) (pa_cons pe_bl (pa_cons (pe_tup (pa_cons (pe_lst (pa_cons pe_int pa_nil)) pa_nil)) pa_nil))))))))) (pe_call G__law_pick (hr.mono (by decide)) rfl T.g__law_pick T.F__law_pick.kp (B__law_pick T) .nil pass0 (pa_cons (pv 0) (pa_cons pe_int pa_nil))) (fun _ _ => rfl)))) pss_nil)
  (pss_cons (ps_set (i := 2) sc__law_spoilt.nd rfl (Or.inl rfl) (pe_call G__law_pick (hr.mono (by decide)) rfl T.g__law_pick T.F__law_pick.kp (B__law_pick T) .nil pass0 (pa_cons (pv 0) (pa_cons (pe_callB call_len (by rfl) T.n_len (by decide +kernel) (pa_cons (pv 1) pa_nil)) pa_nil))))
  (pss_cons (ps_set (i := 3) sc__law_spoilt.nd rfl (Or.inl rfl) (pe_ix ix_seq (pv 1) (pv 2) (fun _ _ => rfl)))
  (pss_cons (ps_set (i := 4) sc__law_spoilt.nd rfl (Or.inl rfl) (pe_call G__law_pick (hr.mono (by decide)) rfl T.g__law_pick T.F__law_pick.kp (B__law_pick T) .nil pass0 (pa_cons (pv 0) (pa_cons (pe_callB call_len (by rfl) T.n_len (by decide +kernel) (pa_cons (pv 3) pa_nil)) pa_nil))))
  (pss_cons (ps_set (i := 5) sc__law_spoilt.nd rfl (Or.inl rfl) (pe_call G__law_pick (hr.mono (by decide)) rfl T.g__law_pick T.F__law_pick.kp (B__law_pick T) .nil pass0 (pa_cons (pv 0) (pa_cons pe_int pa_nil))))
  (pss_cons (ps_if (pt_cmpR op_eq (pv 5) pe_int (nomark _)) (pss_one (ps_ret (pe_callTy call_list_of (by rfl) T.n_list (by decide +kernel) (pa_cons (pv 1) pa_nil)))) pss_nil)
  (pss_cons (ps_if (pt_cmpR op_eq (pv 5) pe_int (nomark _)) (pss_one (ps_ret (pe_op op_catA (pe_op op_catA (pe_slice sl_tupA (pv 1) po_none (po_some (pv 2))) (pe_tup (pa_cons (pe_callTy call_list_of (by rfl) T.n_list (by decide +kernel) (pa_cons (pv 3) pa_nil)) pa_nil))) (pe_slice sl_tupA (pv 1) (po_some (pe_op op_add (pv 2) pe_int)) po_none)))) pss_nil)
  (pss_cons (ps_if (pt_cmpR op_eq (pv 5) pe_int (nomark _)) (pss_one (ps_ret (pe_op op_catA (pe_op op_catA (pe_slice sl_tupA (pv 1) po_none (po_some (pv 2))) (pe_tup (pa_cons (pe_op op_catA (pv 3) (pe_tup (pa_cons pe_int pa_nil))) pa_nil))) (pe_slice sl_tupA (pv 1) (po_some (pe_op op_add (pv 2) pe_int)) po_none)))) pss_nil)
  (pss_cons (ps_if (pt_cmpR op_eq (pv 5) pe_int (nomark _)) (pss_one (ps_ret (pe_op op_catA (pe_op op_catA (pe_slice sl_tupA (pv 1) po_none (po_some (pv 2))) (pe_tup (pa_cons (pe_op op_catA (pe_slice sl_tupA (pv 3) po_none (po_some (pv 4))) (pe_slice sl_tupA (pv 3) (po_some (pe_op op_add (pv 4) pe_int)) po_none)) pa_nil))) (pe_slice sl_tupA (pv 1) (po_some (pe_op op_add (pv 2) pe_int)) po_none)))) pss_nil)
  (pss_cons (ps_if (pt_cmpR op_lt (pv 5) pe_int (nomark _)) (pss_cons (ps_set (i := 6) sc__law_spoilt.nd rfl (Or.inl rfl) (pe_ix ix_seq (pe_lst (pa_cons pe_bl (pa_cons pe_bl (pa_cons pe_non (pa_cons pe_str (pa_cons (pe_tup (pa_cons pe_int pa_nil)) (pa_cons pe_int (pa_cons (pe_op op_sub pe_int pe_int) (pa_cons (pe_lst (pa_cons pe_int pa_nil)) (pa_cons pe_int pa_nil)))))))))) (pe_call G__law_pick (hr.mono (by decide)) rfl T.g__law_pick T.F__law_pick.kp (B__law_pick T) .nil pass0 (pa_cons (pv 0) (pa_cons pe_int pa_nil))) (fun _ _ => rfl)))
  (pss_one (ps_ret (pe_op op_catA (pe_op op_catA (pe_slice sl_tupA (pv 1) po_none (po_some (pv 2))) (pe_tup (pa_cons (pe_op op_catA (pe_op op_catA (pe_slice sl_tupA (pv 3) po_none (po_some (pv 4))) (pe_tup (pa_cons (pv 6) pa_nil))) (pe_slice sl_tupA (pv 3) (po_some (pe_op op_add (pv 4) pe_int)) po_none)) pa_nil))) (pe_slice sl_tupA (pv 1) (po_some (pe_op op_add (pv 2) pe_int)) po_none))))) pss_nil)
  (pss_one (ps_ret (pe_op op_catA (pe_op op_catA (pe_slice sl_tupA (pv 1) po_none (po_some (pv 2))) (pe_tup (pa_cons (pe_ix ix_seq (pe_lst (pa_cons pe_int (pa_cons pe_non (pa_cons pe_str (pa_cons (pe_tup pa_nil) pa_nil))))) (pe_call G__law_pick (hr.mono (by decide)) rfl T.g__law_pick T.F__law_pick.kp (B__law_pick T) .nil pass0 (pa_cons (pv 0) (pa_cons pe_int pa_nil))) (fun _ _ => rfl)) pa_nil))) (pe_slice sl_tupA (pv 1) (po_some (pe_op op_add (pv 2) pe_int)) po_none)))))))))))))), ?_⟩
    walk_at "sx"
    refine ⟨_, _, rfl, .inr ⟨_, SqT.of (hp trivial), rfl⟩, ?_⟩
    walk_at "sx"
    rw [List.length_map]
    refine i_2 (fun c1 => ?_) (fun c1 => ?_)
    · walk_at "sx"
      rename_i p6 n6 H6 s6 h6 p5 n5 H5 s5 h5 p4 n4 H4 s4 h4 p3 n3 H3 s3 h3 p2 n2 H2 s2 h2 p1 n1 H1 s1 h1 p0 n0 H0 s0 h0
      have S : Same H H0 := s6.trans (s5.trans (s4.trans (s3.trans (s2.trans (s1.trans s0)))))
      refine c_pick (hP.same S) (by decide) (by decide) (fun d H9 l u P9 K9 => ?_)
      have a6 := (hP.ne n6).symm
      have a2 := ((hP.same (s6.trans (s5.trans (s4.trans s3)))).ne n2).symm
      have a0 := ((hP.same (s6.trans (s5.trans (s4.trans (s3.trans (s2.trans s1)))))).ne n0).symm
      have P0 := hP.same S
      have tl : ∀ {b : Addr} {xs : List V}, H0 b = some (.tup xs) → H9 b = some (.tup xs) := fun {b xs} h => by
        obtain ⟨_, _, _, _, e⟩ := P0
        exact K9 _ _ (ne_tl h e) h
      have g6 := K9 _ _ a6 (s0 _ _ (s1 _ _ (s2 _ _ (s3 _ _ (s4 _ _ (s5 _ _ h6))))))
      have g2 := K9 _ _ a2 (s0 _ _ (s1 _ _ h2))
      have g5 := tl (s0 _ _ (s1 _ _ (s2 _ _ (s3 _ _ (s4 _ _ h5)))))
      have g4 := tl (s0 _ _ (s1 _ _ (s2 _ _ (s3 _ _ h4))))
      have g3 := tl (s0 _ _ (s1 _ _ (s2 _ _ h3)))
      have g1 := tl (s0 _ _ h1)
      have g0 := K9 _ _ a0 h0
      have menu : ∃ v, atI [V.ref p6, V.non, V.int 0, V.str (Str.ofString ""), V.ref p4, V.ref p3, V.bl true, V.ref p1] d = some v ∧ Vl K H9 v := by
        have h : d = 0 ∨ d = 1 ∨ d = 2 ∨ d = 3 ∨ d = 4 ∨ d = 5 ∨ d = 6 ∨ d = 7 := by omega
        rcases h with rfl | rfl | rfl | rfl | rfl | rfl | rfl | rfl
        · exact ⟨_, rfl, vl_no (in_lst_t g6)⟩
        · exact ⟨_, rfl, vl_no in_non⟩
        · exact ⟨_, rfl, vl_no (in_int0 _)⟩
        · exact ⟨_, rfl, vl_no (in_str0 _)⟩
        · exact ⟨_, rfl, vl_tup g4 (fun x hx => by rw [List.mem_singleton.mp hx]; exact pt_tup g5 (fun y hy => nomatch hy) (by decide)) (show 1 < 1000 by decide)⟩
        · exact ⟨_, rfl, vl_tup g3 (fun x hx => by rw [List.mem_singleton.mp hx]; exact pt_no (in_int0 _)) (show 1 < 1000 by decide)⟩
        · exact ⟨_, rfl, vl_no (in_bl0 _)⟩
        · exact ⟨_, rfl, vl_tup g1 (fun x hx => by rw [List.mem_singleton.mp hx]; exact pt_no (in_lst_t g2)) (show 1 < 1000 by decide)⟩
      obtain ⟨v, ev, vv⟩ := menu
      refine r_ixL g0 ev ?_
      exact q v H9 P9 ((Keep.same S).trans K9) vv
    · walk_at "sx"
      refine ⟨_, _, rfl, .inr ⟨_, SqT.of (hp trivial), rfl⟩, ?_⟩
      have apt : ∀ {H' : Hp} {b : Addr} {xs : List V}, Pen H' a → H' b = some (.tup xs) → b ≠ a := fun {H' b xs} hP h => by
        obtain ⟨_, _, _, _, e⟩ := hP
        exact ne_tl h e
      walk_at "sx"
      rw [List.length_map]
      refine c_pick hP (by omega) (by omega) (fun d1 H1 l1 u1 P1 K1 => ?_)
      obtain ⟨e, rfl⟩ := Int.eq_ofNat_of_zero_le l1
      have he : e < qs.length := by omega
      obtain ⟨⟨z, ms⟩, hz⟩ : ∃ z, qs[e]? = some z := ⟨_, List.getElem?_eq_getElem he⟩
      have pz := pa _ (List.mem_of_getElem? hz)
      simp only at pz
      have hp1 : True → H1 p = some (.tup (qs.map rf)) := fun _ => K1 _ _ (apt hP (hp trivial)) (hp trivial)
      have hz1 : True → H1 z = some (.tup (ms.map V.int)) := fun _ => K1 _ _ (apt hP pz.1) pz.1
      refine s_name ?_
      dsimp only
      refine s_seq (s_asg (s_op (s_var rfl (s_var rfl ?_))))
      refine r_ixT (hp1 trivial) (v := .ref z) (atI_nat (by rw [List.getElem?_map, hz]; rfl)) ?_
      walk_at "sx"
      refine ⟨_, _, rfl, .inr ⟨_, SqT.of (hz1 trivial), rfl⟩, ?_⟩
      walk_at "sx"
      rw [List.length_map]
      refine c_pick P1 (by omega) (by omega) (fun d2 H2 l2 u2 P2 K2 => ?_)
      walk_at "sx"
      refine c_pick P2 (by decide) (by decide) (fun d3 H3 l3 u3 P3 K3 => ?_)
      have K13 := K2.trans K3
      have K03 := K1.trans K13
      have hp3 : True → H3 p = some (.tup (qs.map rf)) := fun _ => K13 _ _ (apt P1 (hp1 trivial)) (hp1 trivial)
      have hz3 : True → H3 z = some (.tup (ms.map V.int)) := fun _ => K13 _ _ (apt P1 (hz1 trivial)) (hz1 trivial)
      have pt3 : ∀ x ∈ qs.map rf, Pt K H3 x := pts_pt (pa.pen K03 hP) c4
      have lz := pz.2
      have ni3 : ∀ x ∈ ms.map V.int, NI K H3 x := fun x hx => by
        obtain ⟨i, _, rfl⟩ := List.mem_map.mp hx
        exact ni_int i
      clear pz
      have lq : (qs.map rf).length ≤ 6 := by rw [List.length_map]; exact q6
      have lm : (ms.map V.int).length ≤ 4 := by rw [List.length_map]; omega
      have fin : ∀ (G : Hp) (r : Addr) (ys zs : List V) (y : V), Pen G a → Keep a H3 G → G r = some (.tup (ys ++ [y] ++ zs)) → (∀ x ∈ ys, x ∈ qs.map rf) → ys.length ≤ (qs.map rf).length → Pt K G y → (∀ x ∈ zs, x ∈ qs.map rf) → zs.length ≤ (qs.map rf).length → Q (.ref r) G := by
        intro G r ys zs y PG KG hr mY lY hy mZ lZ
        have ptG : ∀ x ∈ qs.map rf, Pt K G x := pts_pt (pa.pen (K03.trans KG) hP) c4
        exact q (.ref r) G PG (K03.trans KG) (vl_tup hr (mem3 (fun x hx => ptG x (mY x hx)) hy fun x hx => ptG x (mZ x hx)) (by rw [List.length_append, List.length_append]; show (_ + 1) + _ < _; omega))
      walk_at "sx"
      refine i_2 (fun w0 => ?_) (fun w0 => ?_)
      · walk_at "sx"
        refine ⟨p, _, rfl, .inr (SqT.of (hp3 trivial)), fun l nl => ?_⟩
        generalize hE : upd H3 l _ = H4
        have s4 := new_same nl hE
        have h4 := new_at hE
        clear hE
        walk_at "sx"
        exact q (.ref l) H4 (P3.same s4) (K03.trans (Keep.same s4)) (vl_no (in_lst_t h4))
      walk_at "sx"
      refine i_2 (fun w1 => ?_) (fun w1 => ?_)
      · walk_at "sx"
        refine r_cut (hp3 trivial) fun p1 G1 ys s1 h1 m1 b1 => ?_
        walk_at "sx"
        refine ⟨z, _, rfl, .inr (SqT.of (s1 _ _ (hz3 trivial))), fun l nl => ?_⟩
        generalize hE : upd G1 l _ = G2
        have s2 := new_same nl hE
        have h2 := new_at hE
        clear hE
        walk_at "sx"
        rename_i p3 n3 G3 s3 h3
        refine r_cat (s3 _ _ (s2 _ _ h1)) h3 (by rw [sizeLine_eq]; show _ + 1 ≤ _; omega) fun p4 G4 s4 h4 => ?_
        walk_at "sx"
        have S := s1.trans (s2.trans (s3.trans s4))
        refine r_cut (S _ _ (hp3 trivial)) fun p5 G5 zs s5 h5 m5 b5 => ?_
        refine r_cat (s5 _ _ h4) h5 (by rw [sizeLine_eq, List.length_append]; show (_ + 1) + _ ≤ _; omega) fun p6 G6 s6 h6 => ?_
        exact fin G6 p6 ys zs _ (P3.same (S.trans (s5.trans s6))) (Keep.same (S.trans (s5.trans s6))) h6 m1 b1 (pt_no (in_lst_t (s6 _ _ (s5 _ _ (s4 _ _ (s3 _ _ h2)))))) m5 b5
      walk_at "sx"
      refine i_2 (fun w2 => ?_) (fun w2 => ?_)
      · walk_at "sx"
        refine r_cut (hp3 trivial) fun p1 G1 ys s1 h1 m1 b1 => ?_
        walk_at "sx"
        rename_i p2 n2 G2 s2 h2
        refine r_cat ((s1.trans s2) _ _ (hz3 trivial)) h2 (by rw [sizeLine_eq]; show _ + 1 ≤ _; omega) fun p7 G7 s7 h7 => ?_
        walk_at "sx"
        rename_i p3 n3 G3 s3 h3
        refine r_cat (s3 _ _ (s7 _ _ (s2 _ _ h1))) h3 (by rw [sizeLine_eq]; show _ + 1 ≤ _; omega) fun p4 G4 s4 h4 => ?_
        walk_at "sx"
        have S := s1.trans (s2.trans (s7.trans (s3.trans s4)))
        refine r_cut (S _ _ (hp3 trivial)) fun p5 G5 zs s5 h5 m5 b5 => ?_
        refine r_cat (s5 _ _ h4) h5 (by rw [sizeLine_eq, List.length_append]; show (_ + 1) + _ ≤ _; omega) fun p6 G6 s6 h6 => ?_
        have S' := S.trans (s5.trans s6)
        exact fin G6 p6 ys zs _ (P3.same S') (Keep.same S') h6 m1 b1 (pt_tup (s6 _ _ (s5 _ _ (s4 _ _ (s3 _ _ h7)))) (fun x hx => by
          rcases List.mem_append.mp hx with hx | hx
          · exact ni_same S' (ni3 x hx)
          · rw [List.mem_singleton.mp hx]
            exact ni_int _) (by rw [List.length_append]; show _ + 1 < _; omega)) m5 b5
      walk_at "sx"
      refine i_2 (fun w3 => ?_) (fun w3 => ?_)
      · walk_at "sx"
        refine r_cut (hp3 trivial) fun p1 G1 ys s1 h1 m1 b1 => ?_
        walk_at "sx"
        refine r_cut (s1 _ _ (hz3 trivial)) fun p2 G2 us s2 h2 m2 b2 => ?_
        walk_at "sx"
        refine r_cut ((s1.trans s2) _ _ (hz3 trivial)) fun p8 G8 vs s8 h8 m8 b8 => ?_
        refine r_cat (s8 _ _ h2) h8 (by rw [sizeLine_eq]; omega) fun p7 G7 s7 h7 => ?_
        walk_at "sx"
        rename_i p3 n3 G3 s3 h3
        refine r_cat (s3 _ _ (s7 _ _ (s8 _ _ (s2 _ _ h1)))) h3 (by rw [sizeLine_eq]; show _ + 1 ≤ _; omega) fun p4 G4 s4 h4 => ?_
        walk_at "sx"
        have S := s1.trans (s2.trans (s8.trans (s7.trans (s3.trans s4))))
        refine r_cut (S _ _ (hp3 trivial)) fun p5 G5 zs s5 h5 m5 b5 => ?_
        refine r_cat (s5 _ _ h4) h5 (by rw [sizeLine_eq, List.length_append]; show (_ + 1) + _ ≤ _; omega) fun p6 G6 s6 h6 => ?_
        have S' := S.trans (s5.trans s6)
        exact fin G6 p6 ys zs _ (P3.same S') (Keep.same S') h6 m1 b1 (pt_tup (s6 _ _ (s5 _ _ (s4 _ _ (s3 _ _ h7)))) (fun x hx => by
          rcases List.mem_append.mp hx with hx | hx
          · exact ni_same S' (ni3 x (m2 x hx))
          · exact ni_same S' (ni3 x (m8 x hx))) (by rw [List.length_append]; omega)) m5 b5
      walk_at "sx"
      refine i_2 (fun w4 => ?_) (fun w4 => ?_)
      · walk_at "sx"
        rename_i b1 n1 G1 s1 h1 b2 n2 G2 s2 h2 b3 n3 G3 s3 h3
        have S3 : Same H3 G3 := s1.trans (s2.trans s3)
        have PG3 := P3.same S3
        refine c_pick PG3 (by decide) (by decide) (fun d5 G l5 u5 PG KG => ?_)
        have a2 := ((P3.same s1).ne n2).symm
        have a3 := ((P3.same (s1.trans s2)).ne n3).symm
        have g1 := KG _ _ (apt PG3 (s3 _ _ (s2 _ _ h1))) (s3 _ _ (s2 _ _ h1))
        have g2 := KG _ _ a2 (s3 _ _ h2)
        have g3 := KG _ _ a3 h3
        have menu : ∃ v, atI [V.bl true, V.bl false, V.non, V.str (Str.ofString "1"), V.ref b1, V.int 2, V.int (0 - 1), V.ref b2, V.int 3] d5 = some v ∧ NI K G v := by
          have h : d5 = 0 ∨ d5 = 1 ∨ d5 = 2 ∨ d5 = 3 ∨ d5 = 4 ∨ d5 = 5 ∨ d5 = 6 ∨ d5 = 7 ∨ d5 = 8 := by omega
          rcases h with rfl | rfl | rfl | rfl | rfl | rfl | rfl | rfl | rfl
          · exact ⟨_, rfl, ni_kn (B := fun _ => True) (.bl _)⟩
          · exact ⟨_, rfl, ni_kn (B := fun _ => True) (.bl _)⟩
          · exact ⟨_, rfl, ni_kn (B := fun _ => True) .non⟩
          · exact ⟨_, rfl, ni_kn (B := fun _ => True) (.str _)⟩
          · exact ⟨_, rfl, ni_tup g1⟩
          · exact ⟨_, rfl, ni_int _⟩
          · exact ⟨_, rfl, ni_int _⟩
          · exact ⟨_, rfl, ni_lst g2⟩
          · exact ⟨_, rfl, ni_int _⟩
        obtain ⟨v, ev, nv⟩ := menu
        refine r_ixL g3 ev ?_
        have K3G : Keep a H3 G := (Keep.same S3).trans KG
        have hpG : True → G p = some (.tup (qs.map rf)) := fun _ => K3G _ _ (apt P3 (hp3 trivial)) (hp3 trivial)
        have hzG : True → G z = some (.tup (ms.map V.int)) := fun _ => K3G _ _ (apt P3 (hz3 trivial)) (hz3 trivial)
        have niG : ∀ x ∈ ms.map V.int, NI K G x := fun x hx => by
          obtain ⟨i, _, rfl⟩ := List.mem_map.mp hx
          exact ni_int i
        clear h1 h2 h3 g1 g2 g3
        walk_at "sx"
        refine r_cut (hpG trivial) fun p1 G1 ys s1 h1 m1 b1 => ?_
        walk_at "sx"
        refine r_cut (s1 _ _ (hzG trivial)) fun p2 G2 us s2 h2 m2 b2 => ?_
        walk_at "sx"
        rename_i p9 n9 G9 s9 h9
        refine r_cat (s9 _ _ h2) h9 (by rw [sizeLine_eq]; show _ + 1 ≤ _; omega) fun p0 G0 s0 h0 => ?_
        walk_at "sx"
        refine r_cut ((s1.trans (s2.trans (s9.trans s0))) _ _ (hzG trivial)) fun p8 G8 vs s8 h8 m8 b8 => ?_
        refine r_cat (s8 _ _ h0) h8 (by rw [sizeLine_eq, List.length_append]; show (_ + 1) + _ ≤ _; omega) fun p7 G7 s7 h7 => ?_
        walk_at "sx"
        rename_i p3 n3 G3 s3 h3
        refine r_cat (s3 _ _ (s7 _ _ (s8 _ _ (s0 _ _ (s9 _ _ (s2 _ _ h1)))))) h3 (by rw [sizeLine_eq]; show _ + 1 ≤ _; omega) fun p4 G4 s4 h4 => ?_
        walk_at "sx"
        have S := s1.trans (s2.trans (s9.trans (s0.trans (s8.trans (s7.trans (s3.trans s4))))))
        refine r_cut (S _ _ (hpG trivial)) fun p5 G5 zs s5 h5 m5 b5 => ?_
        refine r_cat (s5 _ _ h4) h5 (by rw [sizeLine_eq, List.length_append]; show (_ + 1) + _ ≤ _; omega) fun p6 G6 s6 h6 => ?_
        have S' := S.trans (s5.trans s6)
        exact fin G6 p6 ys zs _ (PG.same S') (K3G.trans (Keep.same S')) h6 m1 b1 (pt_tup (s6 _ _ (s5 _ _ (s4 _ _ (s3 _ _ h7)))) (mem3 (fun x hx => ni_same S' (niG x (m2 x hx))) (ni_same S' nv) fun x hx => ni_same S' (niG x (m8 x hx))) (by rw [List.length_append, List.length_append]; show (_ + 1) + _ < _; omega)) m5 b5
      · walk_at "sx"
        refine r_cut (hp3 trivial) fun p1 G1 ys s1 h1 m1 b1 => ?_
        walk_at "sx"
        rename_i c1 n1 E1 t1 k1 c2 n2 E2 t2 k2
        have PE2 := P3.same (s1.trans (t1.trans t2))
        refine c_pick PE2 (by decide) (by decide) (fun d5 G l5 u5 PG KG => ?_)
        have a2 := ((P3.same (s1.trans t1)).ne n2).symm
        have g1 := KG _ _ (apt PE2 (t2 _ _ k1)) (t2 _ _ k1)
        have g2 := KG _ _ a2 k2
        have gp1 := KG _ _ (apt PE2 (t2 _ _ (t1 _ _ h1))) (t2 _ _ (t1 _ _ h1))
        have menu : ∃ v, atI [V.int 0, V.non, V.str (Str.ofString "01"), V.ref c1] d5 = some v ∧ Pt K G v := by
          have h : d5 = 0 ∨ d5 = 1 ∨ d5 = 2 ∨ d5 = 3 := by omega
          rcases h with rfl | rfl | rfl | rfl
          · exact ⟨_, rfl, pt_no (in_int0 _)⟩
          · exact ⟨_, rfl, pt_no in_non⟩
          · exact ⟨_, rfl, pt_no (in_str0 _)⟩
          · exact ⟨_, rfl, pt_tup g1 (fun x hx => nomatch hx) (by decide)⟩
        obtain ⟨v, ev, nv⟩ := menu
        refine r_ixL g2 ev ?_
        have K3G : Keep a H3 G := (Keep.same (s1.trans (t1.trans t2))).trans KG
        have hpG : True → G p = some (.tup (qs.map rf)) := fun _ => K3G _ _ (apt P3 (hp3 trivial)) (hp3 trivial)
        clear k1 k2 g1 g2
        walk_at "sx"
        rename_i p3 n3 G3 s3 h3
        refine r_cat (s3 _ _ gp1) h3 (by rw [sizeLine_eq]; show _ + 1 ≤ _; omega) fun p4 G4 s4 h4 => ?_
        walk_at "sx"
        have S := s3.trans s4
        refine r_cut (S _ _ (hpG trivial)) fun p5 G5 zs s5 h5 m5 b5 => ?_
        refine r_cat (s5 _ _ h4) h5 (by rw [sizeLine_eq, List.length_append]; show (_ + 1) + _ ≤ _; omega) fun p6 G6 s6 h6 => ?_
        have S' := S.trans (s5.trans s6)
        exact fin G6 p6 ys zs _ (PG.same S') (K3G.trans (Keep.same S')) h6 m1 b1 (nv.same S') m5 b5
end
end K60

set_option Elab.async false
set_option linter.all false
set_option maxRecDepth 100000
set_option maxHeartbeats 4000000
namespace K60
open PySem L2 Sx
local macro_rules | `(tactic| walk_at "cond") => `(tactic| first
  | assumption
  | decide
  | exact c_mul_r (by first | decide | omega) (by first | decide | omega)
  | exact c_mul_l (by first | decide | omega) (by first | decide | omega)
  | exact c_div (by first | decide | omega) (by first | decide | omega)
  | exact c_pow (by first | decide | omega) (by first | decide | omega) (by first | decide | omega)
  | omega)
local macro_rules | `(tactic| walk_at "ne") => `(tactic| first
  | assumption
  | (refine Ne.symm ?_; assumption)
  | (refine' Flow.ne ?nh ?nn; (case nn => assumption); (case nh => walk_at "fl"))
  | (refine Ne.symm ?_; refine' Flow.ne ?nh ?nn; (case nn => assumption); (case nh => walk_at "fl"))
  | (refine' ne_of_none ?nh ?nn; (case nn => assumption); (case nh => walk_at "at"))
  | (refine Ne.symm ?_; refine' ne_of_none ?nh ?nn; (case nn => assumption); (case nh => walk_at "at")))
local macro_rules | `(tactic| walk_at "at") => `(tactic| first
  | assumption
  | (refine Same.up (by assumption) ?_; walk_at "at")
  | (refine Keep.up (by assumption) (by walk_at "ne") ?_; walk_at "at"))
local macro_rules | `(tactic| walk_at "fl") => `(tactic| first
  | assumption
  | (refine Flow.same (by assumption) ?_; walk_at "fl")
  | (refine Flow.keep (by assumption) (by walk_at "ne") ?_; walk_at "fl"))
local macro_rules | `(tactic| walk_at "fr") => `(tactic| first
  | assumption
  | (refine same_free (by assumption) ?_; walk_at "fr")
  | (refine Keep.free (by assumption) (by walk_at "ne") ?_; walk_at "fr"))
local macro_rules | `(tactic| walk_at "kp") => `(tactic| first
  | assumption
  | exact Keep.refl _ _
  | (refine Keep.trans ?_ (by assumption); walk_at "kp")
  | (refine Keep.trans ?_ (Keep.same (by assumption)); walk_at "kp"))
local macro_rules | `(tactic| walk_at "sm") => `(tactic| first
  | assumption
  | exact L2.Same.refl _
  | (refine L2.Same.trans ?_ (by assumption); walk_at "sm"))
local macro_rules | `(tactic| walk_at "sz") => `(tactic| first | exact Nat.le_of_ble_eq_true rfl | omega)
local macro_rules | `(tactic| walk_at "new") => `(tactic| (intro p np; generalize hE : upd _ p _ = H2; have s2 := new_same np hE; have h2 := new_at hE; clear hE))
local macro_rules | `(tactic| walk_at "newx") => `(tactic| (intro e d na nd hda; generalize hE : upd (upd _ d _) e _ = H2; have s2 := newx_same na nd hE; have h2 := newx_at hE; have h3 := newx_d hda hE; clear hE))
local macro_rules | `(tactic| walk_at "s1") => `(tactic| first
  | with_reducible refine s_seq ?_
  | with_reducible refine s_asg ?_
  | with_reducible refine s_name ?_
  | with_reducible refine s_ret ?_
  | with_reducible refine s_c ?_
  | ((with_reducible refine' s_var ?hv ?_); (case hv => rfl))
  | with_reducible refine s_op ?_
  | with_reducible refine s_un ?_
  | with_reducible refine s_ifS ?_
  | with_reducible refine s_cb ?_
  | with_reducible refine s_cons ?_
  | with_reducible refine s_nil ?_
  | with_reducible refine s_call ?_
  | with_reducible refine s_test ?_
  | with_reducible refine s_tB ?_
  | with_reducible refine s_bl ?_
  | with_reducible refine s_and ?_
  | with_reducible refine s_or ?_
  | with_reducible refine s_not ?_
  | with_reducible refine s_andV ?_
  | with_reducible refine s_orV ?_
  | with_reducible refine s_notV ?_
  | with_reducible refine s_blV ?_
  | with_reducible refine s_if ?_
  | with_reducible refine s_tup ?_
  | with_reducible refine s_lst ?_
  | with_reducible refine s_drop ?_
  | with_reducible refine s_next ?_
  | with_reducible refine s_sub ?_
  | with_reducible refine s_bm ?_
  | with_reducible refine s_callK ?_
  | with_reducible refine s_brk ?_
  | with_reducible refine s_cont ?_
  | with_reducible refine r_I0 ?_
  | with_reducible refine r_U ?_
  | with_reducible refine r_eqI ?_
  | with_reducible refine r_neI ?_
  | with_reducible refine r_isB ?_
  | with_reducible refine r_notB ?_
  | with_reducible refine i_t ?_
  | with_reducible refine i_f ?_
  | with_reducible refine i_nt ?_
  | with_reducible refine i_nf ?_
  | ((with_reducible refine' r_I ?hc ?_); (case hc => walk_at "cond"))
  | (with_reducible refine .inl ⟨_, rfl, ?_⟩)
  | (with_reducible refine ⟨_, rfl, ?_⟩)
  | ((with_reducible refine' r_ixL ?hx ?ha ?_); (case hx => walk_at "at"); (case ha => rfl))
  | ((with_reducible refine' r_ixT ?hx ?ha ?_); (case hx => walk_at "at"); (case ha => rfl))
  | ((with_reducible refine' r_setL ?hx ?ha ?_); (case hx => walk_at "at"); (case ha => rfl); intro H2 k2 h2; (try dsimp only [List.set, Int.toNat] at h2))
  | ((with_reducible refine' r_app ?hx ?hl ?_); (case hx => walk_at "at"); (case hl => first | exact Nat.lt_of_ble_eq_true rfl | omega); intro H2 k2 h2)
  | ((with_reducible refine' ty_list ?hx ?_); (case hx => walk_at "at"))
  | (refine And.intro (by (with_reducible show _ ≤ sizeLine); walk_at "sz") ?_; walk_at "new")
  | with_reducible refine s_exv ?_
  | walk_at "newx")
local macro_rules | `(tactic| walk_at "sx") => `(tactic| repeat (walk_at "s1"))
local macro_rules | `(tactic| walk_at "s2") => `(tactic| first
  | ((with_reducible refine' r_ixG ?hx ?hn ?_); (case hx => walk_at "at"); (case hn => omega))
  | ((with_reducible refine' r_ixGT ?hx ?hn ?_); (case hx => walk_at "at"); (case hn => omega))
  | (with_reducible refine ig_cons (fun hix => ?_) (fun hix => ?_))
  | ((with_reducible refine ig_nil ?_); omega)
  | ((with_reducible refine' i_T ?hc ?_); (case hc => omega))
  | ((with_reducible refine' i_F ?hc ?_); (case hc => omega))
  | (with_reducible refine i_2 (fun hc => ?_) (fun hc => ?_))
  | (with_reducible refine i_n2 (fun hc => ?_) (fun hc => ?_)))
local macro_rules | `(tactic| walk_at "go") => `(tactic| repeat' (first | walk_at "s1" | walk_at "s2"))

local macro_rules | `(tactic| walk_at "s1") => `(tactic| first
  | with_reducible refine s_chain ?_
  | with_reducible refine s_fldS ?_
  | with_reducible refine s_fld ?_
  | with_reducible refine s_dIn ?_
  | with_reducible refine s_dNotIn ?_
  | with_reducible refine s_sl ?_
  | with_reducible refine s_noPart ?_
  | with_reducible refine s_part ?_
  | with_reducible refine s_meth ?_
  | with_reducible refine s_make ?_)

theorem s_callS2 {σ : L2.St} {H : Hp} {Q : VK} {sp : Sp} {E : L2.St → XK} {t : TA} (h : t σ H fun vs H1 => sp vs H1 Q (E σ)) : tCallS sp E t σ H Q := h
theorem s_callKS2 {σ : L2.St} {H : Hp} {Q : VK} {sp : Sp} {gV : List V → List V → List V} {E : L2.St → XK} {tk : TA} (h : tk σ H fun zs H2 => sp (gV [] zs) H2 Q (E σ)) : tCallKS sp gV E tk σ H Q := h
local macro_rules | `(tactic| walk_at "s1") => `(tactic| first
  | with_reducible refine s_callS2 ?_
  | with_reducible refine s_callKS2 ?_)
section
variable {P : Program} {w : World} {K : PySem.W.Frag} {mg : Str → Option Value} {base : Heap} {A : Ad}
def spRefused (K : PySem.W.Frag) : Sp := fun vs H Q _ => ∃ x v, vs = [x, v] ∧ BadK K H x ∧ ∀ H', Same H H' → Q (.bl true) H'
theorem ok_refused (T : Txt P w K mg A) : FnOk P w K mg base CX0 7 A.a__law_refused A.d__law_refused ["kind", "value"] (spRefused K) := by
  refine T.F__law_refused.ok sc__law_refused (fun vs H Q E h => ?_) (fun cdv A' outer s H vs Q E hr h => ?_)
  · obtain ⟨x, v, rfl, _⟩ := h
    rfl
  · obtain ⟨x, v, rfl, bad, q⟩ := h
    have G_are_points := ok_areP (w := w) (base := base) T
    have GH__law_same := ok_sameH (w := w) (base := base) T
    have lk : List.lookup ("what" : Str) [(("what" : Str), V.str (Str.ofString "kind"))] = some (V.str (Str.ofString "kind")) := by simp [List.lookup]
    refine ⟨_, (pss_cons (L2N.ps_try_as (i := 2) rfl rfl sc__law_refused.nd rfl rfl ⟨rfl, by decide, .inl T.g_Undefined⟩ takesN0 (fun W pn xe tk _ => (pss_one (ps_expr (pe_kwS0 G_are_points (hr.mono (by decide)) rfl T.g_are_points T.F_are_points.kp (KB_are_points_kind_value T) (fun σ => L2N.passAt tk σ) (pk_cons (pv 0) (pk_cons (pv 1) pk_nil))))))
  (fun a oe cls d pn hz hf => (pss_one (ps_ret (pe_and (pe_callB (call_isED hz.zc hf) (by rfl) T.n_isinstance (by decide +kernel) (pa_cons (pv 2) (pa_cons (pe_glob (v := .ref A.c_GuessError) rfl T.g_GuessError rfl) pa_nil))) (pe_one (L2H.pe_callH GH__law_same (roomS (hr.mono (by decide))) (hotS hz hf) rfl T.g__law_same T.F__law_same.kp (B__law_same T) (fun _ => L2.passH (E := E0)) (pa_cons (pe_xf T.X_Undefined.xf T.X_Undefined.noN hz.zc hf (pv 2)) (pa_cons pe_str pa_nil)))))))))
  (pss_one (ps_ret pe_bl))), ?_⟩
    walk_at "sx"
    refine .inr ⟨x, v, rfl, bad, fun e he => ?_⟩
    refine ⟨true, T.X_Undefined.te, fun _ z hz => ?_, fun z => Bool.noConfusion z⟩
    walk_at "sx"
    refine ⟨_, _, true, _, _, _, rfl, rfl, rfl, T.E_Undefined.ec, fun u hu => hu, T.kg_Undefined_GuessError, upd_same, ?_⟩
    walk_at "sx"
    refine ⟨_, rfl, rfl, rfl, e, _, _, rfl, upd_same, lk, ?_⟩
    walk_at "sx"
    exact ⟨_, rfl, .inr (.inr ⟨_, rfl⟩), q _ (Same.new he)⟩
def dueK (c : Int) : List (L2.Key × V) := [(.inr (Str.ofString "steps"), .int 1), (.inr (Str.ofString "stretches"), .int 2), (.inr (Str.ofString "boxes"), .int (2 * c)), (.inr (Str.ofString "half planes"), .int 3), (.inr (Str.ofString "parities"), .int c), (.inr (Str.ofString "ands"), .int c)]
theorem due_at (k : Kind) (c : Int) : some (V.int (free k c)) = valV (mergeK [] (dueK c)) (.inr k.s) := by
  cases k <;> rfl
def spRight : Sp := fun vs H Q _ => ∃ (k : Kind) (c : Int), vs = [.str k.s, .int c] ∧ ∀ H', Same H H' → Q (.bl true) H'
theorem ok_right (T : Txt P w K mg A) : FnOk P w K mg base CX0 2 A.a__law_right_free A.d__law_right_free ["kind", "c"] spRight := by
  refine T.F__law_right_free.ok sc__law_right_free (fun vs H Q E h => ?_) (fun cdv A' outer s H vs Q E hr h => ?_)
  · obtain ⟨k, c, rfl, _⟩ := h
    rfl
  · obtain ⟨k, c, rfl, q⟩ := h
    have G_most_free := ok_free (w := w) (base := base) T
    have G__law_same := ok_same (w := w) (base := base) T
    refine ⟨_, (pss_cons (ps_set (i := 2) sc__law_right_free.nd rfl (Or.inl rfl) (pe_dget (u1 hr) (pe_disp (pps_cons pe_str pe_int (pps_cons pe_str pe_int (pps_cons pe_str (pe_op op_mul pe_int (pv 1)) (pps_cons pe_str pe_int (pps_cons pe_str (pv 1) (pps_cons pe_str (pv 1) pps_nil)))))) (by rfl) rfl (by simp) (by decide)) (pv 0) (fun _ _ => rfl)))
  (pss_one (ps_ret (pe_and (pe_call G__law_same (hr.mono (by decide)) rfl T.g__law_same T.F__law_same.kp (B__law_same T) .nil pass0 (pa_cons (pe_call G_most_free (hr.mono (by decide)) rfl T.g_most_free T.F_most_free.kp (B_most_free T) .nil pass0 (pa_cons (pv 0) (pa_cons (pv 1) pa_nil))) (pa_cons (pv 2) pa_nil))) (pe_one (pe_call G__law_same (hr.mono (by decide)) rfl T.g__law_same T.F__law_same.kp (B__law_same T) .nil pass0 (pa_cons (pe_kw0 G_most_free (hr.mono (by decide)) rfl T.g_most_free T.F_most_free.kp (KB_most_free_kind_c T) pass0 (pk_cons (pv 0) (pk_cons (pv 1) pk_nil))) (pa_cons (pv 2) pa_nil)))))))), ?_⟩
    walk_at "sx"
    intro p np
    walk_at "sx"
    simp only [tPairs]
    walk_at "sx"
    refine ⟨upd_same, dueK c, rfl, Nat.le_of_ble_eq_true rfl, ?_⟩
    walk_at "sx"
    refine ⟨p, .int (free k c), rfl, .inl ⟨_, .inr k.s, .inl upd_same, rfl, due_at k c⟩, ?_⟩
    generalize hE : upd _ p _ = H2
    have s2 : Same H H2 := fun b o h => by
      rw [← hE, upd_ne (ne_of_none h np), upd_ne (ne_of_none h np)]
      exact h
    clear hE
    walk_at "sx"
    refine ⟨k, c, rfl, ?_⟩
    walk_at "sx"
    refine ⟨_, rfl, .inr (.inl ⟨_, rfl⟩), ?_⟩
    walk_at "sx"
    refine ⟨k, c, rfl, ?_⟩
    walk_at "sx"
    exact ⟨_, rfl, .inr (.inl ⟨_, rfl⟩), q H2 s2⟩
end
end K60

set_option Elab.async false
set_option linter.all false
set_option maxRecDepth 100000
set_option maxHeartbeats 4000000
namespace K60
open PySem L2 Sx
local macro_rules | `(tactic| walk_at "cond") => `(tactic| first
  | assumption
  | decide
  | exact c_mul_r (by first | decide | omega) (by first | decide | omega)
  | exact c_mul_l (by first | decide | omega) (by first | decide | omega)
  | exact c_div (by first | decide | omega) (by first | decide | omega)
  | exact c_pow (by first | decide | omega) (by first | decide | omega) (by first | decide | omega)
  | omega)
local macro_rules | `(tactic| walk_at "ne") => `(tactic| first
  | assumption
  | (refine Ne.symm ?_; assumption)
  | (refine' Flow.ne ?nh ?nn; (case nn => assumption); (case nh => walk_at "fl"))
  | (refine Ne.symm ?_; refine' Flow.ne ?nh ?nn; (case nn => assumption); (case nh => walk_at "fl"))
  | (refine' ne_of_none ?nh ?nn; (case nn => assumption); (case nh => walk_at "at"))
  | (refine Ne.symm ?_; refine' ne_of_none ?nh ?nn; (case nn => assumption); (case nh => walk_at "at")))
local macro_rules | `(tactic| walk_at "at") => `(tactic| first
  | assumption
  | (refine Same.up (by assumption) ?_; walk_at "at")
  | (refine Keep.up (by assumption) (by walk_at "ne") ?_; walk_at "at"))
local macro_rules | `(tactic| walk_at "fl") => `(tactic| first
  | assumption
  | (refine Flow.same (by assumption) ?_; walk_at "fl")
  | (refine Flow.keep (by assumption) (by walk_at "ne") ?_; walk_at "fl"))
local macro_rules | `(tactic| walk_at "fr") => `(tactic| first
  | assumption
  | (refine same_free (by assumption) ?_; walk_at "fr")
  | (refine Keep.free (by assumption) (by walk_at "ne") ?_; walk_at "fr"))
local macro_rules | `(tactic| walk_at "kp") => `(tactic| first
  | assumption
  | exact Keep.refl _ _
  | (refine Keep.trans ?_ (by assumption); walk_at "kp")
  | (refine Keep.trans ?_ (Keep.same (by assumption)); walk_at "kp"))
local macro_rules | `(tactic| walk_at "sm") => `(tactic| first
  | assumption
  | exact L2.Same.refl _
  | (refine L2.Same.trans ?_ (by assumption); walk_at "sm"))
local macro_rules | `(tactic| walk_at "sz") => `(tactic| first | exact Nat.le_of_ble_eq_true rfl | omega)
local macro_rules | `(tactic| walk_at "new") => `(tactic| (intro p np; generalize hE : upd _ p _ = H2; have s2 := new_same np hE; have h2 := new_at hE; clear hE))
local macro_rules | `(tactic| walk_at "newx") => `(tactic| (intro e d na nd hda; generalize hE : upd (upd _ d _) e _ = H2; have s2 := newx_same na nd hE; have h2 := newx_at hE; have h3 := newx_d hda hE; clear hE))
local macro_rules | `(tactic| walk_at "s1") => `(tactic| first
  | with_reducible refine s_seq ?_
  | with_reducible refine s_asg ?_
  | with_reducible refine s_name ?_
  | with_reducible refine s_ret ?_
  | with_reducible refine s_c ?_
  | ((with_reducible refine' s_var ?hv ?_); (case hv => rfl))
  | with_reducible refine s_op ?_
  | with_reducible refine s_un ?_
  | with_reducible refine s_ifS ?_
  | with_reducible refine s_cb ?_
  | with_reducible refine s_cons ?_
  | with_reducible refine s_nil ?_
  | with_reducible refine s_call ?_
  | with_reducible refine s_test ?_
  | with_reducible refine s_tB ?_
  | with_reducible refine s_bl ?_
  | with_reducible refine s_and ?_
  | with_reducible refine s_or ?_
  | with_reducible refine s_not ?_
  | with_reducible refine s_andV ?_
  | with_reducible refine s_orV ?_
  | with_reducible refine s_notV ?_
  | with_reducible refine s_blV ?_
  | with_reducible refine s_if ?_
  | with_reducible refine s_tup ?_
  | with_reducible refine s_lst ?_
  | with_reducible refine s_drop ?_
  | with_reducible refine s_next ?_
  | with_reducible refine s_sub ?_
  | with_reducible refine s_bm ?_
  | with_reducible refine s_callK ?_
  | with_reducible refine s_brk ?_
  | with_reducible refine s_cont ?_
  | with_reducible refine r_I0 ?_
  | with_reducible refine r_U ?_
  | with_reducible refine r_eqI ?_
  | with_reducible refine r_neI ?_
  | with_reducible refine r_isB ?_
  | with_reducible refine r_notB ?_
  | with_reducible refine i_t ?_
  | with_reducible refine i_f ?_
  | with_reducible refine i_nt ?_
  | with_reducible refine i_nf ?_
  | ((with_reducible refine' r_I ?hc ?_); (case hc => walk_at "cond"))
  | (with_reducible refine .inl ⟨_, rfl, ?_⟩)
  | (with_reducible refine ⟨_, rfl, ?_⟩)
  | ((with_reducible refine' r_ixL ?hx ?ha ?_); (case hx => walk_at "at"); (case ha => rfl))
  | ((with_reducible refine' r_ixT ?hx ?ha ?_); (case hx => walk_at "at"); (case ha => rfl))
  | ((with_reducible refine' r_setL ?hx ?ha ?_); (case hx => walk_at "at"); (case ha => rfl); intro H2 k2 h2; (try dsimp only [List.set, Int.toNat] at h2))
  | ((with_reducible refine' r_app ?hx ?hl ?_); (case hx => walk_at "at"); (case hl => first | exact Nat.lt_of_ble_eq_true rfl | omega); intro H2 k2 h2)
  | ((with_reducible refine' ty_list ?hx ?_); (case hx => walk_at "at"))
  | (refine And.intro (by (with_reducible show _ ≤ sizeLine); walk_at "sz") ?_; walk_at "new")
  | with_reducible refine s_exv ?_
  | walk_at "newx")
local macro_rules | `(tactic| walk_at "sx") => `(tactic| repeat (walk_at "s1"))
local macro_rules | `(tactic| walk_at "s2") => `(tactic| first
  | ((with_reducible refine' r_ixG ?hx ?hn ?_); (case hx => walk_at "at"); (case hn => omega))
  | ((with_reducible refine' r_ixGT ?hx ?hn ?_); (case hx => walk_at "at"); (case hn => omega))
  | (with_reducible refine ig_cons (fun hix => ?_) (fun hix => ?_))
  | ((with_reducible refine ig_nil ?_); omega)
  | ((with_reducible refine' i_T ?hc ?_); (case hc => omega))
  | ((with_reducible refine' i_F ?hc ?_); (case hc => omega))
  | (with_reducible refine i_2 (fun hc => ?_) (fun hc => ?_))
  | (with_reducible refine i_n2 (fun hc => ?_) (fun hc => ?_)))
local macro_rules | `(tactic| walk_at "go") => `(tactic| repeat' (first | walk_at "s1" | walk_at "s2"))

local macro_rules | `(tactic| walk_at "s1") => `(tactic| first
  | with_reducible refine s_chain ?_
  | with_reducible refine s_fldS ?_
  | with_reducible refine s_fld ?_
  | with_reducible refine s_dIn ?_
  | with_reducible refine s_dNotIn ?_
  | with_reducible refine s_sl ?_
  | with_reducible refine s_noPart ?_
  | with_reducible refine s_part ?_
  | with_reducible refine s_meth ?_
  | with_reducible refine s_make ?_)

section
variable {P : Program} {w : World} {K : PySem.W.Frag} {mg : Str → Option Value} {base : Heap} {A : Ad}
/-- all but lists stay, lists stay lists -/
structure Lk (H H' : Hp) : Prop where
  e : ∀ b o, (∀ xs, o ≠ .lst xs) → H b = some o → H' b = some o
  l : ∀ b xs, H b = some (.lst xs) → ∃ ys, H' b = some (.lst ys)
theorem lk_pen {H H' : Hp} {a : Addr} (P : Pen H a) (P' : Pen H' a) (k : Keep a H H') : Lk H H' := by
  obtain ⟨_, _, _, _, h⟩ := P
  obtain ⟨_, _, _, _, h'⟩ := P'
  refine ⟨fun b o n hb => k b o (fun e => ?_) hb, fun b xs hb => ?_⟩
  · rw [e, h] at hb
    exact n _ (Option.some.inj hb).symm
  · by_cases e : b = a
    · rw [e]
      exact ⟨_, h'⟩
    · exact ⟨xs, k b _ e hb⟩
theorem lk_list {H H' : Hp} {a : Addr} {xs ys : List V} (h : H a = some (.lst xs)) (h' : H' a = some (.lst ys)) (k : Keep a H H') : Lk H H' := by
  refine ⟨fun b o n hb => k b o (fun e => ?_) hb, fun b xs hb => ?_⟩
  · rw [e, h] at hb
    exact n _ (Option.some.inj hb).symm
  · by_cases e : b = a
    · rw [e]
      exact ⟨_, h'⟩
    · exact ⟨xs, k b _ e hb⟩
theorem tyOf_lk {H H' : Hp} {v : V} {t : Value} (e : Lk H H') (h : TyOf K H v t) : TyOf K H' v t := by
  cases h with
  | non => exact .non
  | bl x => exact .bl x
  | int i => exact .int i
  | str x => exact .str x
  | flt x => exact .flt x
  | lst g =>
    obtain ⟨ys, z⟩ := e.l _ _ g
    exact .lst z
  | frz g => exact .frz (e.e _ _ (fun _ z => nomatch z) g)
  | tup g => exact .tup (e.e _ _ (fun _ z => nomatch z) g)
  | dK g => exact .dK (e.e _ _ (fun _ z => nomatch z) g)
  | dT g => exact .dT (e.e _ _ (fun _ z => nomatch z) g)
  | ins g cl ha hn htk hm => exact .ins (e.e _ _ (fun _ z => nomatch z) g) cl ha hn htk hm
theorem tyX_lk {H H' : Hp} {v : V} {t : Value} (e : Lk H H') (h : TyX K H v t) : TyX K H' v t := by
  cases h with
  | base g => exact .base (tyOf_lk e g)
  | byt b => exact .byt b
  | set g => exact .set (e.e _ _ (fun _ z => nomatch z) g)
  | kList g c => exact .kList g c
  | kTuple g c => exact .kTuple g c
  | kDict g c => exact .kDict g c
  | fTuple g => exact .fTuple (e.e _ _ (fun _ z => nomatch z) g)
  | fDict g => exact .fDict (e.e _ _ (fun _ z => nomatch z) g)
theorem isIn_lk {H H' : Hp} {v : V} {T : String} {b : Bool} (e : Lk H H') (h : IsIn K H v T b) : IsIn K H' v T b := by
  obtain ⟨ty, k, z⟩ := h
  refine ⟨ty, k.elim (fun k => .inl (tyX_lk e k)) fun ⟨a, C, d, fs, e1, e2, ha, hd, c⟩ => .inr ⟨a, C, d, fs, e1, e2, e.e _ _ (fun _ z => nomatch z) ha, e.e _ _ (fun _ z => nomatch z) hd, c⟩, z⟩
theorem ni_lk {H H' : Hp} {v : V} (e : Lk H H') (h : NI K H v) : NI K H' v := by
  obtain ⟨b, c, h1, h2, z⟩ := h
  exact ⟨b, c, isIn_lk e h1, isIn_lk e h2, z⟩
theorem PtOk.lk {H H' : Hp} {v : V} {p : Option (List V)} (e : Lk H H') (h : PtOk K H v p) : PtOk K H' v p := by
  rcases h with ⟨a, b⟩ | ⟨a, xs, h1, h2, h3, h4, h5⟩
  · exact .inl ⟨a, isIn_lk e b⟩
  · exact .inr ⟨a, xs, h1, h2, e.e _ _ (fun _ z => nomatch z) h3, fun x hx => ni_lk e (h4 x hx), h5⟩
theorem VlOk.lk {H H' : Hp} {v : V} {q : Option (List (Option (List V)))} (e : Lk H H') (h : VlOk K H v q) : VlOk K H' v q := by
  rcases h with ⟨a, b⟩ | ⟨a, xs, h1, h2, h3, h4, h5⟩
  · exact .inl ⟨a, isIn_lk e b⟩
  · exact .inr ⟨a, xs, h1, h2, e.e _ _ (fun _ z => nomatch z) h3, fun x hx => (h4 x hx).lk e, h5⟩
theorem Vl.lk {H H' : Hp} {v : V} (e : Lk H H') (h : Vl K H v) : Vl K H' v := by
  obtain ⟨q, h⟩ := h
  exact ⟨q, h.lk e⟩
theorem bad_lk {H H' : Hp} {v : V} (e : Lk H H') (h : BadK K H v) (no : ∀ q, v = .ref q → ∃ xs, H q = some (.lst xs) ∨ H q = some (.tup xs)) : BadK K H' v := by
  rcases h with h | ⟨q, xs, rfl, h⟩
  · exact .inl h
  · obtain ⟨ys, h | h⟩ := no q rfl
    · obtain ⟨zs, z⟩ := e.l _ _ h
      exact .inr ⟨q, zs, rfl, .inl (SqL.of z)⟩
    · exact .inr ⟨q, ys, rfl, .inr (SqT.of (e.e _ _ (fun _ z => nomatch z) h))⟩
abbrev words : List V := [V.str (Str.ofString "steps"), V.str (Str.ofString "stretches"), V.str (Str.ofString "boxes"), V.str (Str.ofString "half planes"), V.str (Str.ofString "parities"), V.str (Str.ofString "ands")]
theorem word_at {d : Int} (l : 0 ≤ d) (u : d < 6) : ∃ k : Kind, atI words d = some (.str k.s) := by
  have h : d = 0 ∨ d = 1 ∨ d = 2 ∨ d = 3 ∨ d = 4 ∨ d = 5 := by omega
  rcases h with rfl | rfl | rfl | rfl | rfl | rfl
  · exact ⟨.st, rfl⟩
  · exact ⟨.sr, rfl⟩
  · exact ⟨.bx, rfl⟩
  · exact ⟨.hp, rfl⟩
  · exact ⟨.pa, rfl⟩
  · exact ⟨.an, rfl⟩
abbrev bads (p1 p2 : Addr) : List V := [V.str (Str.ofString "step"), V.str (Str.ofString ""), V.str (Str.ofString "half plane"), V.str (Str.ofString "Boxes"), V.str (Str.ofString "cube"), V.non, V.int 0, V.ref p1, V.bl true, V.ref p2, V.str (Str.ofString "lines")]
theorem bad_at {H : Hp} {p1 p2 : Addr} {xs ys : List V} (h1 : H p1 = some (.tup xs)) (h2 : H p2 = some (.lst ys)) {d : Int} (l : 0 ≤ d) (u : d < 11) : ∃ v, atI (bads p1 p2) d = some v ∧ BadK K H v ∧ ∀ q, v = .ref q → ∃ xs, H q = some (.lst xs) ∨ H q = some (.tup xs) := by
  have h : d = 0 ∨ d = 1 ∨ d = 2 ∨ d = 3 ∨ d = 4 ∨ d = 5 ∨ d = 6 ∨ d = 7 ∨ d = 8 ∨ d = 9 ∨ d = 10 := by omega
  rcases h with rfl | rfl | rfl | rfl | rfl | rfl | rfl | rfl | rfl | rfl | rfl
  · exact ⟨_, rfl, .inl ⟨rfl, by decide +kernel⟩, fun _ e => nomatch e⟩
  · exact ⟨_, rfl, .inl ⟨rfl, by decide +kernel⟩, fun _ e => nomatch e⟩
  · exact ⟨_, rfl, .inl ⟨rfl, by decide +kernel⟩, fun _ e => nomatch e⟩
  · exact ⟨_, rfl, .inl ⟨rfl, by decide +kernel⟩, fun _ e => nomatch e⟩
  · exact ⟨_, rfl, .inl ⟨rfl, by decide +kernel⟩, fun _ e => nomatch e⟩
  · exact ⟨_, rfl, .inl ⟨rfl, by decide +kernel⟩, fun _ e => nomatch e⟩
  · exact ⟨_, rfl, .inl ⟨rfl, by decide +kernel⟩, fun _ e => nomatch e⟩
  · exact ⟨_, rfl, .inr ⟨p1, xs, rfl, .inr (SqT.of h1)⟩, fun q e => by cases e; exact ⟨xs, .inr h1⟩⟩
  · exact ⟨_, rfl, .inl ⟨rfl, by decide +kernel⟩, fun _ e => nomatch e⟩
  · exact ⟨_, rfl, .inr ⟨p2, ys, rfl, .inl (SqL.of h2)⟩, fun q e => by cases e; exact ⟨ys, .inl h2⟩⟩
  · exact ⟨_, rfl, .inl ⟨rfl, by decide +kernel⟩, fun _ e => nomatch e⟩
end
end K60

set_option Elab.async false
set_option linter.all false
set_option maxRecDepth 100000
set_option maxHeartbeats 4000000
namespace K60
open PySem L2 Sx
local macro_rules | `(tactic| walk_at "cond") => `(tactic| first
  | assumption
  | decide
  | exact c_mul_r (by first | decide | omega) (by first | decide | omega)
  | exact c_mul_l (by first | decide | omega) (by first | decide | omega)
  | exact c_div (by first | decide | omega) (by first | decide | omega)
  | exact c_pow (by first | decide | omega) (by first | decide | omega) (by first | decide | omega)
  | omega)
local macro_rules | `(tactic| walk_at "ne") => `(tactic| first
  | assumption
  | (refine Ne.symm ?_; assumption)
  | (refine' Flow.ne ?nh ?nn; (case nn => assumption); (case nh => walk_at "fl"))
  | (refine Ne.symm ?_; refine' Flow.ne ?nh ?nn; (case nn => assumption); (case nh => walk_at "fl"))
  | (refine' ne_of_none ?nh ?nn; (case nn => assumption); (case nh => walk_at "at"))
  | (refine Ne.symm ?_; refine' ne_of_none ?nh ?nn; (case nn => assumption); (case nh => walk_at "at")))
local macro_rules | `(tactic| walk_at "at") => `(tactic| first
  | assumption
  | (refine Same.up (by assumption) ?_; walk_at "at")
  | (refine Keep.up (by assumption) (by walk_at "ne") ?_; walk_at "at"))
local macro_rules | `(tactic| walk_at "fl") => `(tactic| first
  | assumption
  | (refine Flow.same (by assumption) ?_; walk_at "fl")
  | (refine Flow.keep (by assumption) (by walk_at "ne") ?_; walk_at "fl"))
local macro_rules | `(tactic| walk_at "fr") => `(tactic| first
  | assumption
  | (refine same_free (by assumption) ?_; walk_at "fr")
  | (refine Keep.free (by assumption) (by walk_at "ne") ?_; walk_at "fr"))
local macro_rules | `(tactic| walk_at "kp") => `(tactic| first
  | assumption
  | exact Keep.refl _ _
  | (refine Keep.trans ?_ (by assumption); walk_at "kp")
  | (refine Keep.trans ?_ (Keep.same (by assumption)); walk_at "kp"))
local macro_rules | `(tactic| walk_at "sm") => `(tactic| first
  | assumption
  | exact L2.Same.refl _
  | (refine L2.Same.trans ?_ (by assumption); walk_at "sm"))
local macro_rules | `(tactic| walk_at "sz") => `(tactic| first | exact Nat.le_of_ble_eq_true rfl | omega)
local macro_rules | `(tactic| walk_at "new") => `(tactic| (intro p np; generalize hE : upd _ p _ = H2; have s2 := new_same np hE; have h2 := new_at hE; clear hE))
local macro_rules | `(tactic| walk_at "newx") => `(tactic| (intro e d na nd hda; generalize hE : upd (upd _ d _) e _ = H2; have s2 := newx_same na nd hE; have h2 := newx_at hE; have h3 := newx_d hda hE; clear hE))
local macro_rules | `(tactic| walk_at "s1") => `(tactic| first
  | with_reducible refine s_seq ?_
  | with_reducible refine s_asg ?_
  | with_reducible refine s_name ?_
  | with_reducible refine s_ret ?_
  | with_reducible refine s_c ?_
  | ((with_reducible refine' s_var ?hv ?_); (case hv => rfl))
  | with_reducible refine s_op ?_
  | with_reducible refine s_un ?_
  | with_reducible refine s_ifS ?_
  | with_reducible refine s_cb ?_
  | with_reducible refine s_cons ?_
  | with_reducible refine s_nil ?_
  | with_reducible refine s_call ?_
  | with_reducible refine s_test ?_
  | with_reducible refine s_tB ?_
  | with_reducible refine s_bl ?_
  | with_reducible refine s_and ?_
  | with_reducible refine s_or ?_
  | with_reducible refine s_not ?_
  | with_reducible refine s_andV ?_
  | with_reducible refine s_orV ?_
  | with_reducible refine s_notV ?_
  | with_reducible refine s_blV ?_
  | with_reducible refine s_if ?_
  | with_reducible refine s_tup ?_
  | with_reducible refine s_lst ?_
  | with_reducible refine s_drop ?_
  | with_reducible refine s_next ?_
  | with_reducible refine s_sub ?_
  | with_reducible refine s_bm ?_
  | with_reducible refine s_callK ?_
  | with_reducible refine s_brk ?_
  | with_reducible refine s_cont ?_
  | with_reducible refine r_I0 ?_
  | with_reducible refine r_U ?_
  | with_reducible refine r_eqI ?_
  | with_reducible refine r_neI ?_
  | with_reducible refine r_isB ?_
  | with_reducible refine r_notB ?_
  | with_reducible refine i_t ?_
  | with_reducible refine i_f ?_
  | with_reducible refine i_nt ?_
  | with_reducible refine i_nf ?_
  | ((with_reducible refine' r_I ?hc ?_); (case hc => walk_at "cond"))
  | (with_reducible refine .inl ⟨_, rfl, ?_⟩)
  | (with_reducible refine ⟨_, rfl, ?_⟩)
  | ((with_reducible refine' r_ixL ?hx ?ha ?_); (case hx => walk_at "at"); (case ha => rfl))
  | ((with_reducible refine' r_ixT ?hx ?ha ?_); (case hx => walk_at "at"); (case ha => rfl))
  | ((with_reducible refine' r_setL ?hx ?ha ?_); (case hx => walk_at "at"); (case ha => rfl); intro H2 k2 h2; (try dsimp only [List.set, Int.toNat] at h2))
  | ((with_reducible refine' r_app ?hx ?hl ?_); (case hx => walk_at "at"); (case hl => first | exact Nat.lt_of_ble_eq_true rfl | omega); intro H2 k2 h2)
  | ((with_reducible refine' ty_list ?hx ?_); (case hx => walk_at "at"))
  | (refine And.intro (by (with_reducible show _ ≤ sizeLine); walk_at "sz") ?_; walk_at "new")
  | with_reducible refine s_exv ?_
  | walk_at "newx")
local macro_rules | `(tactic| walk_at "sx") => `(tactic| repeat (walk_at "s1"))
local macro_rules | `(tactic| walk_at "s2") => `(tactic| first
  | ((with_reducible refine' r_ixG ?hx ?hn ?_); (case hx => walk_at "at"); (case hn => omega))
  | ((with_reducible refine' r_ixGT ?hx ?hn ?_); (case hx => walk_at "at"); (case hn => omega))
  | (with_reducible refine ig_cons (fun hix => ?_) (fun hix => ?_))
  | ((with_reducible refine ig_nil ?_); omega)
  | ((with_reducible refine' i_T ?hc ?_); (case hc => omega))
  | ((with_reducible refine' i_F ?hc ?_); (case hc => omega))
  | (with_reducible refine i_2 (fun hc => ?_) (fun hc => ?_))
  | (with_reducible refine i_n2 (fun hc => ?_) (fun hc => ?_)))
local macro_rules | `(tactic| walk_at "go") => `(tactic| repeat' (first | walk_at "s1" | walk_at "s2"))

local macro_rules | `(tactic| walk_at "s1") => `(tactic| first
  | with_reducible refine s_chain ?_
  | with_reducible refine s_fldS ?_
  | with_reducible refine s_fld ?_
  | with_reducible refine s_dIn ?_
  | with_reducible refine s_dNotIn ?_
  | with_reducible refine s_sl ?_
  | with_reducible refine s_noPart ?_
  | with_reducible refine s_part ?_
  | with_reducible refine s_meth ?_
  | with_reducible refine s_make ?_)

section
variable {P : Program} {w : World} {K : PySem.W.Frag} {mg : Str → Option Value} {base : Heap} {A : Ad}
def spAll (K : PySem.W.Frag) : Sp := fun vs H Q _ => ∃ (l : Addr) (ns : List Int), vs = [.ref l] ∧ SqL K H l (ns.map V.int) ∧ ∀ H', Q (.bl true) H'
theorem ok_all (T : Txt P w K mg A) : FnOk P w K mg base CX0 10 A.a__law_whole A.d__law_whole ["script"] (spAll K) := by
  refine T.F__law_whole.ok sc__law_whole (fun vs H Q E h => ?_) (fun cdv A' outer s H vs Q E hr h => ?_)
  · obtain ⟨l, ns, rfl, _⟩ := h
    rfl
  · obtain ⟨l, ns, rfl, hl, q⟩ := h
    have G__law_pen := ok_pen (w := w) (base := base) T
    have G__law_pick := ok_pick (w := w) (base := base) T
    have G__law_c := ok_c (w := w) (base := base) T
    have G__law_points := ok_pts (w := w) (base := base) T
    have G__law_spoilt := ok_spoilt (w := w) (base := base) T
    have G__law_same := ok_same (w := w) (base := base) T
    have G__law_due := ok_due (w := w) (base := base) T
    have G__law_right_free := ok_right (w := w) (base := base) T
    have G__law_refused := ok_refused (w := w) (base := base) T
    have G_are_points := ok_areP (w := w) (base := base) T
    refine ⟨_, (pss_cons (ps_set (i := 1) sc__law_whole.nd rfl (Or.inl rfl) (pe_lst (pa_cons pe_str (pa_cons pe_str (pa_cons pe_str (pa_cons pe_str (pa_cons pe_str (pa_cons pe_str pa_nil))))))))
  (pss_cons (ps_for PassesOwn.never rfl (pi_range1 rfl T.n_range (pa_cons pe_int pa_nil)) (pg_name (i := 2) sc__law_whole.nd rfl (Or.inl rfl))
  (pss_cons (ps_set (i := 3) sc__law_whole.nd rfl (Or.inl rfl) (pe_call G__law_pen (hr.mono (by decide)) rfl T.g__law_pen T.F__law_pen.kp (B__law_pen T) .nil pass0 (pa_cons (pv 0) (pa_cons (pv 2) pa_nil))))
  (pss_cons (ps_set (i := 4) sc__law_whole.nd rfl (Or.inl rfl) (pe_ix ix_seq (pv 1) (pv 2) (fun _ _ => rfl)))
  (pss_cons (ps_set (i := 5) sc__law_whole.nd rfl (Or.inl rfl) (pe_call G__law_c (hr.mono (by decide)) rfl T.g__law_c T.F__law_c.kp (B__law_c T) .nil pass0 (pa_cons (pv 3) (pa_cons (pv 4) pa_nil))))
  (pss_cons (ps_set (i := 6) sc__law_whole.nd rfl (Or.inl rfl) (pe_call G__law_points (hr.mono (by decide)) rfl T.g__law_points T.F__law_points.kp (B__law_points T) .nil pass0 (pa_cons (pv 3) (pa_cons (pv 4) (pa_cons (pv 5) (pa_cons pe_int pa_nil))))))
  (pss_cons (ps_set (i := 7) sc__law_whole.nd rfl (Or.inl rfl) (pe_lst (pa_cons (pv 6) (pa_cons (pe_call G__law_spoilt (hr.mono (by decide)) rfl T.g__law_spoilt T.F__law_spoilt.kp (B__law_spoilt T) .nil pass0 (pa_cons (pv 3) (pa_cons (pv 6) pa_nil))) (pa_cons (pe_call G__law_spoilt (hr.mono (by decide)) rfl T.g__law_spoilt T.F__law_spoilt.kp (B__law_spoilt T) .nil pass0 (pa_cons (pv 3) (pa_cons (pv 6) pa_nil))) (pa_cons (pe_tup pa_nil) (pa_cons (pv 6) pa_nil)))))))
  (pss_cons (ps_set (i := 8) sc__law_whole.nd rfl (Or.inl rfl) (pe_ix ix_seq (pv 1) (pe_call G__law_pick (hr.mono (by decide)) rfl T.g__law_pick T.F__law_pick.kp (B__law_pick T) .nil pass0 (pa_cons (pv 3) (pa_cons pe_int pa_nil))) (fun _ _ => rfl)))
  (pss_cons (ps_expr (pe_bm PySem.F.plainAttrs_list PySem.F.slot_list_append PySem.F.type_list_append mt_append (pv 7) (pa_cons (pe_call G__law_points (hr.mono (by decide)) rfl T.g__law_points T.F__law_points.kp (B__law_points T) .nil pass0 (pa_cons (pv 3) (pa_cons (pv 8) (pa_cons (pe_call G__law_c (hr.mono (by decide)) rfl T.g__law_c T.F__law_c.kp (B__law_c T) .nil pass0 (pa_cons (pv 3) (pa_cons (pv 8) pa_nil))) (pa_cons pe_int pa_nil))))) pa_nil)))
  (pss_cons (ps_for PassesOwn.never rfl (pi_list (pv 7)) (pg_name (i := 9) sc__law_whole.nd rfl (Or.inl rfl))
  (pss_one (ps_if (pt_not (pt_val (pe_call G__law_same (hr.mono (by decide)) rfl T.g__law_same T.F__law_same.kp (B__law_same T) .nil pass0 (pa_cons (pe_call G_are_points (hr.mono (by decide)) rfl T.g_are_points T.F_are_points.kp (B_are_points T) .nil passN (pa_cons (pv 4) (pa_cons (pv 9) pa_nil))) (pa_cons (pe_call G__law_due (hr.mono (by decide)) rfl T.g__law_due T.F__law_due.kp (B__law_due T) .nil pass0 (pa_cons (pv 4) (pa_cons (pv 9) pa_nil))) pa_nil))))) (pss_one (ps_ret pe_bl)) pss_nil)))
  (pss_cons (ps_if (pt_not (pt_val (pe_call G__law_right_free (hr.mono (by decide)) rfl T.g__law_right_free T.F__law_right_free.kp (B__law_right_free T) .nil pass0 (pa_cons (pv 4) (pa_cons (pv 5) pa_nil))))) (pss_one (ps_ret pe_bl)) pss_nil)
  (pss_cons (ps_set (i := 10) sc__law_whole.nd rfl (Or.inl rfl) (pe_lst (pa_cons pe_str (pa_cons pe_str (pa_cons pe_str (pa_cons pe_str (pa_cons pe_str (pa_cons pe_non (pa_cons pe_int (pa_cons (pe_tup (pa_cons pe_str pa_nil)) (pa_cons pe_bl (pa_cons (pe_lst (pa_cons pe_str pa_nil)) (pa_cons pe_str pa_nil)))))))))))))
  (pss_one (ps_if (pt_not (pt_val (pe_call G__law_refused (hr.mono (by decide)) rfl T.g__law_refused T.F__law_refused.kp (B__law_refused T) .nil pass0 (pa_cons (pe_ix ix_seq (pv 10) (pe_call G__law_pick (hr.mono (by decide)) rfl T.g__law_pick T.F__law_pick.kp (B__law_pick T) .nil pass0 (pa_cons (pv 3) (pa_cons pe_int pa_nil))) (fun _ _ => rfl)) (pa_cons (pe_ix ix_seq (pv 7) (pe_call G__law_pick (hr.mono (by decide)) rfl T.g__law_pick T.F__law_pick.kp (B__law_pick T) .nil pass0 (pa_cons (pv 3) (pa_cons pe_int pa_nil))) (fun _ _ => rfl)) pa_nil))))) (pss_one (ps_ret pe_bl)) pss_nil)))))))))))))
  (pss_one (ps_ret pe_bl)))), ?_⟩
    walk_at "sx"
    rename_i pw npw H0 s0 hw0
    have hw : True → H0 pw = some (.lst words) := fun _ => hw0
    clear hw0
    refine ⟨_, rfl, by decide, by decide, for_range (lo := 0) (n := 6) (fun i σ H' => Same H0 H' ∧ ∃ v2 v3 v4 v5 v6 v7 v8 v9 v10 : Option V, σ = [some (.ref l), some (.ref pw), v2, v3, v4, v5, v6, v7, v8, v9, v10]) ⟨L2.Same.refl _, _, _, _, _, _, _, _, _, _, rfl⟩ ?_ ?_⟩
    · rintro i σ H' hi ⟨s', v2, v3, v4, v5, v6, v7, v8, v9, v10, rfl⟩
      walk_at "sx"
      refine ⟨l, ns, i, by rw [Int.zero_add]; rfl, (s0.trans s').seq hl, fun a H1 na s1 P1 => ?_⟩
      refine s_name ?_
      dsimp only
      refine s_seq (s_asg (s_op (s_var rfl (s_var rfl ?_))))
      obtain ⟨k0, ek⟩ := word_at (d := 0 + (i : Int)) (by omega) (by omega)
      refine r_ixL ((s'.trans s1) _ _ (hw trivial)) ek ?_
      walk_at "sx"
      refine ⟨a, k0, rfl, P1, fun c H2 c1 c4 P2 K2 => ?_⟩
      walk_at "sx"
      refine ⟨a, k0, c, 6, rfl, P2, c1, c4, by decide, fun p qs H3 P3 K3 hp pa lq => ?_⟩
      have apt : ∀ {H' : Hp} {b : Addr} {xs : List V}, Pen H' a → H' b = some (.tup xs) → b ≠ a := fun {H' b xs} hP h => by
        obtain ⟨_, _, _, _, e⟩ := hP
        exact ne_tl h e
      have vp : ∀ {H' : Hp}, H' p = some (.tup (qs.map rf)) → PtsAt H' c qs → Vl K H' (.ref p) := fun {H'} h1 h2 => vl_tup h1 (pts_pt h2 c4) (by rw [List.length_map]; omega)
      walk_at "sx"
      refine ⟨a, p, c, qs, rfl, P3, hp, pa, c1, c4, lq, fun v1 H4 P4 K4 w1 => ?_⟩
      have hp4 := K4 _ _ (apt P3 hp) hp
      have pa4 := pa.pen K4 P3
      walk_at "sx"
      refine ⟨a, p, c, qs, rfl, P4, hp4, pa4, c1, c4, lq, fun w2v H5 P5 K5 w2 => ?_⟩
      have hp5 := K5 _ _ (apt P4 hp4) hp4
      have pa5 := pa4.pen K5 P4
      have w1' := w1.lk (lk_pen P4 P5 K5)
      have K15 : Keep a H1 H5 := K2.trans (K3.trans (K4.trans K5))
      have K05 : Same H' H5 := Keep.toSame s1 na K15
      clear hp hp4
      have hp5' : True → H5 p = some (.tup (qs.map rf)) := fun _ => hp5
      clear hp5
      walk_at "sx"
      rename_i pe ne H6 s6 he pv nv H7 s7 hv
      have pwa : pw ≠ a := ne_of_none (s' _ _ (hw trivial)) na
      have pva : pv ≠ a := ((P5.same s6).ne nv).symm
      have S7 : Same H' H7 := K05.trans (s6.trans s7)
      have npv : H' pv = none := Same.free (K05.trans s6) nv
      have P7 := P5.same (s6.trans s7)
      have all7 : ∀ x ∈ [V.ref p, v1, w2v, V.ref pe, V.ref p], Vl K H7 x := fun x hx => by
        have zp : Vl K H7 (.ref p) := vp ((s6.trans s7) _ _ (hp5' trivial)) (pa5.same (s6.trans s7))
        simp only [List.mem_cons, List.not_mem_nil, or_false] at hx
        rcases hx with rfl | rfl | rfl | rfl | rfl
        · exact zp
        · exact w1'.same (s6.trans s7)
        · exact w2.same (s6.trans s7)
        · exact vl_tup (s7 _ _ he) (fun x hx => nomatch hx) (by decide)
        · exact zp
      have hv7 : True → H7 pv = some (.lst [V.ref p, v1, w2v, V.ref pe, V.ref p]) := fun _ => hv
      clear hv he
      refine c_pick P7 (by decide) (by decide) (fun d8 H8 l8 u8 P8 K8 => ?_)
      have S8 : Same H' H8 := Keep.toSame S7 na K8
      obtain ⟨k1, ek1⟩ := word_at l8 u8
      refine r_ixL ((s'.trans S8) _ _ (hw trivial)) ek1 ?_
      have hv8 := K8 _ _ pva (hv7 trivial)
      walk_at "sx"
      refine ⟨a, k1, rfl, P8, fun c' H9 c1' c4' P9 K9 => ?_⟩
      walk_at "sx"
      refine ⟨a, k1, c', 4, rfl, P9, c1', c4', by decide, fun p' qs' H10 P10 K10 hp' pa' lq' => ?_⟩
      have K90 := K9.trans K10
      have S10 : Same H' H10 := Keep.toSame S8 na K90
      have hv10 := K90 _ _ pva hv8
      have all10 : ∀ x ∈ [V.ref p, v1, w2v, V.ref pe, V.ref p], Vl K H10 x := fun x hx => (all7 x hx).lk (lk_pen P7 P10 (K8.trans K90))
      have vp' : Vl K H10 (.ref p') := vl_tup hp' (pts_pt pa' c4') (by rw [List.length_map]; omega)
      clear hv8
      walk_at "sx"
      refine r_app hv10 (by show 5 < sizeLine; rw [sizeLine_eq]; decide) (fun H11 k11 h11 => ?_)
      have S11 : Same H' H11 := Keep.toSame S10 npv k11
      have P11 := P10.keep k11 pva.symm
      have all11 : ∀ x ∈ [V.ref p, v1, w2v, V.ref pe, V.ref p] ++ [V.ref p'], Vl K H11 x := fun x hx => by
        have e := lk_list hv10 h11 k11
        rcases List.mem_append.mp hx with hx | hx
        · exact (all10 x hx).lk e
        · rw [List.mem_singleton.mp hx]
          exact vp'.lk e
      obtain ⟨xs, exs⟩ : ∃ xs, xs = [V.ref p, v1, w2v, V.ref pe, V.ref p] ++ [V.ref p'] := ⟨_, rfl⟩
      have lxs : xs.length = 6 := by rw [exs]; rfl
      rw [← exs] at h11 all11
      have hx11 : True → H11 pv = some (.lst xs) := fun _ => h11
      clear h11 hv10 hp' hv7
      walk_at "sx"
      refine ⟨_, rfl, pv, rfl, ⟨_, SqL.of (hx11 trivial)⟩, for_list (K := K) (a := pv) (xs := xs) (fun j σ H' => Same H11 H' ∧ ∃ v9 v10 : Option V, σ = [some (.ref l), some (.ref pw), some (.int (0 + (i : Int))), some (.ref a), some (.str k0.s), some (.int c), some (.ref p), some (.ref pv), some (.str k1.s), v9, v10]) ⟨L2.Same.refl _, _, _, rfl⟩ (fun j σ H' _ h => SqL.of (h.1 _ _ (hx11 trivial))) ?_ ?_⟩
      · rintro j x σ H12 hx ⟨s12, v9, v10, rfl⟩
        obtain ⟨qv, hq⟩ := (all11 x (List.mem_of_getElem? hx)).same s12
        walk_at "sx"
        refine .inl ⟨k0, x, qv, rfl, hq, fun H13 s13 => ?_⟩
        walk_at "sx"
        refine ⟨k0, x, qv, rfl, hq.same s13, ?_⟩
        walk_at "sx"
        refine ⟨_, rfl, .inl ⟨_, rfl⟩, ?_⟩
        walk_at "sx"
        exact ⟨s12.trans s13, _, _, rfl⟩
      · rintro σ H12 ⟨s12, v9, v10, rfl⟩
        walk_at "sx"
        refine ⟨k0, c, rfl, fun H13 s13 => ?_⟩
        walk_at "sx"
        rename_i b1 n1 G1 t1 g1 b2 n2 G2 t2 g2 b3 n3 G3 t3 g3
        have T3 : Same H11 G3 := s12.trans (s13.trans (t1.trans (t2.trans t3)))
        have PG := P11.same T3
        refine c_pick PG (by decide) (by decide) (fun d9 G4 l9 u9 P14 K14 => ?_)
        have a2 : b2 ≠ a := ((P11.same (s12.trans (s13.trans t1))).ne n2).symm
        have a3 : b3 ≠ a := ((P11.same (s12.trans (s13.trans (t1.trans t2)))).ne n3).symm
        obtain ⟨x, ex, bx, nx⟩ := bad_at (K := K) (K14 _ _ (apt PG (t3 _ _ (t2 _ _ g1))) (t3 _ _ (t2 _ _ g1))) (K14 _ _ a2 (t3 _ _ g2)) l9 u9
        refine r_ixL (K14 _ _ a3 g3) ex ?_
        clear g1 g2 g3
        walk_at "sx"
        refine c_pick P14 (by decide) (by decide) (fun d10 G5 l10 u10 P15 K15 => ?_)
        obtain ⟨v, ev, _⟩ := ix_mem (xs := xs) l10 (by rw [lxs]; exact u10)
        refine r_ixL (K15 _ _ pva (K14 _ _ pva (T3 _ _ (hx11 trivial)))) ev ?_
        walk_at "sx"
        refine ⟨x, v, rfl, bad_lk (lk_pen P14 P15 K15) bx nx, fun G6 t6 => ?_⟩
        walk_at "sx"
        exact ⟨s'.trans ((Keep.toSame (S11.trans T3) na (K14.trans K15)).trans t6), _, _, _, _, _, _, _, _, _, rfl⟩
    · rintro σ H' ⟨s', v2, v3, v4, v5, v6, v7, v8, v9, v10, rfl⟩
      walk_at "sx"
      exact q H'
end
end K60

set_option Elab.async false
set_option linter.all false
set_option maxRecDepth 100000
set_option maxHeartbeats 4000000
namespace K60
open PySem L2 Sx
local macro_rules | `(tactic| walk_at "cond") => `(tactic| first
  | assumption
  | decide
  | exact c_mul_r (by first | decide | omega) (by first | decide | omega)
  | exact c_mul_l (by first | decide | omega) (by first | decide | omega)
  | exact c_div (by first | decide | omega) (by first | decide | omega)
  | exact c_pow (by first | decide | omega) (by first | decide | omega) (by first | decide | omega)
  | omega)
local macro_rules | `(tactic| walk_at "ne") => `(tactic| first
  | assumption
  | (refine Ne.symm ?_; assumption)
  | (refine' Flow.ne ?nh ?nn; (case nn => assumption); (case nh => walk_at "fl"))
  | (refine Ne.symm ?_; refine' Flow.ne ?nh ?nn; (case nn => assumption); (case nh => walk_at "fl"))
  | (refine' ne_of_none ?nh ?nn; (case nn => assumption); (case nh => walk_at "at"))
  | (refine Ne.symm ?_; refine' ne_of_none ?nh ?nn; (case nn => assumption); (case nh => walk_at "at")))
local macro_rules | `(tactic| walk_at "at") => `(tactic| first
  | assumption
  | (refine Same.up (by assumption) ?_; walk_at "at")
  | (refine Keep.up (by assumption) (by walk_at "ne") ?_; walk_at "at"))
local macro_rules | `(tactic| walk_at "fl") => `(tactic| first
  | assumption
  | (refine Flow.same (by assumption) ?_; walk_at "fl")
  | (refine Flow.keep (by assumption) (by walk_at "ne") ?_; walk_at "fl"))
local macro_rules | `(tactic| walk_at "fr") => `(tactic| first
  | assumption
  | (refine same_free (by assumption) ?_; walk_at "fr")
  | (refine Keep.free (by assumption) (by walk_at "ne") ?_; walk_at "fr"))
local macro_rules | `(tactic| walk_at "kp") => `(tactic| first
  | assumption
  | exact Keep.refl _ _
  | (refine Keep.trans ?_ (by assumption); walk_at "kp")
  | (refine Keep.trans ?_ (Keep.same (by assumption)); walk_at "kp"))
local macro_rules | `(tactic| walk_at "sm") => `(tactic| first
  | assumption
  | exact L2.Same.refl _
  | (refine L2.Same.trans ?_ (by assumption); walk_at "sm"))
local macro_rules | `(tactic| walk_at "sz") => `(tactic| first | exact Nat.le_of_ble_eq_true rfl | omega)
local macro_rules | `(tactic| walk_at "new") => `(tactic| (intro p np; generalize hE : upd _ p _ = H2; have s2 := new_same np hE; have h2 := new_at hE; clear hE))
local macro_rules | `(tactic| walk_at "newx") => `(tactic| (intro e d na nd hda; generalize hE : upd (upd _ d _) e _ = H2; have s2 := newx_same na nd hE; have h2 := newx_at hE; have h3 := newx_d hda hE; clear hE))
local macro_rules | `(tactic| walk_at "s1") => `(tactic| first
  | with_reducible refine s_seq ?_
  | with_reducible refine s_asg ?_
  | with_reducible refine s_name ?_
  | with_reducible refine s_ret ?_
  | with_reducible refine s_c ?_
  | ((with_reducible refine' s_var ?hv ?_); (case hv => rfl))
  | with_reducible refine s_op ?_
  | with_reducible refine s_un ?_
  | with_reducible refine s_ifS ?_
  | with_reducible refine s_cb ?_
  | with_reducible refine s_cons ?_
  | with_reducible refine s_nil ?_
  | with_reducible refine s_call ?_
  | with_reducible refine s_test ?_
  | with_reducible refine s_tB ?_
  | with_reducible refine s_bl ?_
  | with_reducible refine s_and ?_
  | with_reducible refine s_or ?_
  | with_reducible refine s_not ?_
  | with_reducible refine s_andV ?_
  | with_reducible refine s_orV ?_
  | with_reducible refine s_notV ?_
  | with_reducible refine s_blV ?_
  | with_reducible refine s_if ?_
  | with_reducible refine s_tup ?_
  | with_reducible refine s_lst ?_
  | with_reducible refine s_drop ?_
  | with_reducible refine s_next ?_
  | with_reducible refine s_sub ?_
  | with_reducible refine s_bm ?_
  | with_reducible refine s_callK ?_
  | with_reducible refine s_brk ?_
  | with_reducible refine s_cont ?_
  | with_reducible refine r_I0 ?_
  | with_reducible refine r_U ?_
  | with_reducible refine r_eqI ?_
  | with_reducible refine r_neI ?_
  | with_reducible refine r_isB ?_
  | with_reducible refine r_notB ?_
  | with_reducible refine i_t ?_
  | with_reducible refine i_f ?_
  | with_reducible refine i_nt ?_
  | with_reducible refine i_nf ?_
  | ((with_reducible refine' r_I ?hc ?_); (case hc => walk_at "cond"))
  | (with_reducible refine .inl ⟨_, rfl, ?_⟩)
  | (with_reducible refine ⟨_, rfl, ?_⟩)
  | ((with_reducible refine' r_ixL ?hx ?ha ?_); (case hx => walk_at "at"); (case ha => rfl))
  | ((with_reducible refine' r_ixT ?hx ?ha ?_); (case hx => walk_at "at"); (case ha => rfl))
  | ((with_reducible refine' r_setL ?hx ?ha ?_); (case hx => walk_at "at"); (case ha => rfl); intro H2 k2 h2; (try dsimp only [List.set, Int.toNat] at h2))
  | ((with_reducible refine' r_app ?hx ?hl ?_); (case hx => walk_at "at"); (case hl => first | exact Nat.lt_of_ble_eq_true rfl | omega); intro H2 k2 h2)
  | ((with_reducible refine' ty_list ?hx ?_); (case hx => walk_at "at"))
  | (refine And.intro (by (with_reducible show _ ≤ sizeLine); walk_at "sz") ?_; walk_at "new")
  | with_reducible refine s_exv ?_
  | walk_at "newx")
local macro_rules | `(tactic| walk_at "sx") => `(tactic| repeat (walk_at "s1"))
local macro_rules | `(tactic| walk_at "s2") => `(tactic| first
  | ((with_reducible refine' r_ixG ?hx ?hn ?_); (case hx => walk_at "at"); (case hn => omega))
  | ((with_reducible refine' r_ixGT ?hx ?hn ?_); (case hx => walk_at "at"); (case hn => omega))
  | (with_reducible refine ig_cons (fun hix => ?_) (fun hix => ?_))
  | ((with_reducible refine ig_nil ?_); omega)
  | ((with_reducible refine' i_T ?hc ?_); (case hc => omega))
  | ((with_reducible refine' i_F ?hc ?_); (case hc => omega))
  | (with_reducible refine i_2 (fun hc => ?_) (fun hc => ?_))
  | (with_reducible refine i_n2 (fun hc => ?_) (fun hc => ?_)))
local macro_rules | `(tactic| walk_at "go") => `(tactic| repeat' (first | walk_at "s1" | walk_at "s2"))

local macro_rules | `(tactic| walk_at "s1") => `(tactic| first
  | with_reducible refine s_chain ?_
  | with_reducible refine s_fldS ?_
  | with_reducible refine s_fld ?_
  | with_reducible refine s_dIn ?_
  | with_reducible refine s_dNotIn ?_
  | with_reducible refine s_sl ?_
  | with_reducible refine s_noPart ?_
  | with_reducible refine s_part ?_
  | with_reducible refine s_meth ?_
  | with_reducible refine s_make ?_)

section
variable {P : Program} {w : World} {K : PySem.W.Frag} {mg : Str → Option Value} {base : Heap} {A : Ad}
def spLaw (K : PySem.W.Frag) : Sp := fun vs H Q _ => ∃ (a : Addr) (ns : List Int), vs = [.ref a] ∧ SqL K H a (ns.map V.int) ∧ ns.length ≤ 63 ∧ ∀ H', Q (.bl true) H'
theorem ok_law (T : Txt P w K mg A) : FnOk P w K mg base CX0 12 A.a_law A.d_law ["script"] (spLaw K) := by
  refine T.F_law.ok sc_law (fun vs H Q E h => ?_) (fun cdv A' outer s H vs Q E hr h => ?_)
  · obtain ⟨a, ns, rfl, _⟩ := h
    rfl
  · obtain ⟨a, ns, rfl, hS, hn, k⟩ := h
    have G__law_whole := ok_all (w := w) (base := base) T
    refine ⟨_, (pss_one (ps_try_thru0 (pss_one (ps_ret (pe_call G__law_whole (hr.mono (by decide)) rfl T.g__law_whole T.F__law_whole.kp (B__law_whole T) .nil pass0 (pa_cons (pv 0) pa_nil)))))), ?_⟩
    walk_at "sx"
    exact ⟨a, ns, rfl, hS, k⟩
end
abbrev sI_Undefined : Stmt := inClass (top 5) 0
theorem all_mk {l : PySem.W.OpenLaw} {w : World} {K : PySem.W.Frag} {h : Heap} {mg : Str → Option Value} {fa : Addr} (X : K.In h) (G : h.Ns mainGlobals mg) (hfa : mg "law" = some (.ref fa))
    {f0 : Addr} {od0 an0 : Option Addr} {sl0 : Array (Option Value)} {oc0 kV0 dc0 pm0 cd0 ct0 : Value} {f1 : Addr} {od1 an1 : Option Addr} {sl1 : Array (Option Value)} {oc1 kV1 dc1 pm1 cd1 ct1 : Value} {f2 : Addr} {od2 an2 : Option Addr} {sl2 : Array (Option Value)} {oc2 kV2 dc2 pm2 cd2 ct2 : Value} {f3 : Addr} {od3 an3 : Option Addr} {sl3 : Array (Option Value)} {oc3 kV3 dc3 pm3 cd3 ct3 : Value} {f4 : Addr} {od4 an4 : Option Addr} {sl4 : Array (Option Value)} {oc4 kV4 dc4 pm4 cd4 ct4 : Value} {f5 : Addr} {od5 an5 : Option Addr} {sl5 : Array (Option Value)} {oc5 kV5 dc5 pm5 cd5 ct5 : Value} {f6 : Addr} {od6 an6 : Option Addr} {sl6 : Array (Option Value)} {oc6 kV6 dc6 pm6 cd6 ct6 : Value} {f7 : Addr} {od7 an7 : Option Addr} {sl7 : Array (Option Value)} {oc7 kV7 dc7 pm7 cd7 ct7 : Value} {f8 : Addr} {od8 an8 : Option Addr} {sl8 : Array (Option Value)} {oc8 kV8 dc8 pm8 cd8 ct8 : Value} {f9 : Addr} {od9 an9 : Option Addr} {sl9 : Array (Option Value)} {oc9 kV9 dc9 pm9 cd9 ct9 : Value} {f10 : Addr} {od10 an10 : Option Addr} {sl10 : Array (Option Value)} {oc10 kV10 dc10 pm10 cd10 ct10 : Value} {f11 : Addr} {od11 an11 : Option Addr} {sl11 : Array (Option Value)} {oc11 kV11 dc11 pm11 cd11 ct11 : Value} {f12 : Addr} {od12 an12 : Option Addr} {sl12 : Array (Option Value)} {oc12 kV12 dc12 pm12 cd12 ct12 : Value} {f13 : Addr} {od13 an13 : Option Addr} {sl13 : Array (Option Value)} {oc13 kV13 dc13 pm13 cd13 ct13 : Value} {f14 : Addr} {od14 an14 : Option Addr} {sl14 : Array (Option Value)} {oc14 kV14 dc14 pm14 cd14 ct14 : Value} {f15 : Addr} {od15 an15 : Option Addr} {sl15 : Array (Option Value)} {oc15 kV15 dc15 pm15 cd15 ct15 : Value} {f16 : Addr} {od16 an16 : Option Addr} {sl16 : Array (Option Value)} {oc16 kV16 dc16 pm16 cd16 ct16 : Value} {f17 : Addr} {od17 an17 : Option Addr} {sl17 : Array (Option Value)} {oc17 kV17 dc17 pm17 cd17 ct17 : Value} {f18 : Addr} {od18 an18 : Option Addr} {sl18 : Array (Option Value)} {oc18 kV18 dc18 pm18 cd18 ct18 : Value} {C_Undefined I_Undefined : Addr} {nm_Undefined q_Undefined : Str} {N_Undefined : Addr} {bs_Undefined bm_Undefined sub_Undefined : List Value} {sn_Undefined : List Str} {ab_Undefined : Bool} {col_Undefined : Option Bool} {dd_Undefined : Option Addr} {k0_Undefined k1_Undefined k2_Undefined k3_Undefined k5_Undefined : Option Value} {oi_Undefined ci_Undefined pi_Undefined di_Undefined : Value} {oo_Undefined ai_Undefined : Option Addr} {ca_Undefined cc_Undefined : Addr} {si2_Undefined sj_Undefined sk_Undefined : Array (Option Value)} {cl1_Undefined cl2_Undefined : Value} {cd1_Undefined cd2_Undefined : Option Addr} {vs_Undefined : Array Value} {tf_Undefined : Tok} {file_Undefined : Str} {C_GuessError : Addr} {p_KINDS : Addr} {od_p_KINDS : Option Addr} {n_p_KINDS : Nat} {sl_p_KINDS : Array (Option Value)} {t_p_KINDS_0 t_p_KINDS_1 t_p_KINDS_2 t_p_KINDS_3 t_p_KINDS_4 t_p_KINDS_5 : Tok} {p_OF_VALUES : Addr} {od_p_OF_VALUES : Option Addr} {n_p_OF_VALUES : Nat} {sl_p_OF_VALUES : Array (Option Value)} {t_p_OF_VALUES_0 t_p_OF_VALUES_1 : Tok} {p_LENGTHS : Addr} {es_LENGTHS : Array DictEntry} {n_LENGTHS : Nat} {p_LENGTHS_0 : Addr} {od_p_LENGTHS_0 : Option Addr} {n_p_LENGTHS_0 : Nat} {sl_p_LENGTHS_0 : Array (Option Value)} {t_p_LENGTHS_0_0 : Tok} {p_LENGTHS_1 : Addr} {od_p_LENGTHS_1 : Option Addr} {n_p_LENGTHS_1 : Nat} {sl_p_LENGTHS_1 : Array (Option Value)} {t_p_LENGTHS_1_0 : Tok} {p_LENGTHS_2 : Addr} {od_p_LENGTHS_2 : Option Addr} {n_p_LENGTHS_2 : Nat} {sl_p_LENGTHS_2 : Array (Option Value)} {t_p_LENGTHS_2_0 t_p_LENGTHS_2_1 t_p_LENGTHS_2_2 : Tok} {p_LENGTHS_3 : Addr} {od_p_LENGTHS_3 : Option Addr} {n_p_LENGTHS_3 : Nat} {sl_p_LENGTHS_3 : Array (Option Value)} {t_p_LENGTHS_3_0 : Tok} {p_LENGTHS_4 : Addr} {od_p_LENGTHS_4 : Option Addr} {n_p_LENGTHS_4 : Nat} {sl_p_LENGTHS_4 : Array (Option Value)} {t_p_LENGTHS_4_0 t_p_LENGTHS_4_1 t_p_LENGTHS_4_2 t_p_LENGTHS_4_3 : Tok} {p_LENGTHS_5 : Addr} {od_p_LENGTHS_5 : Option Addr} {n_p_LENGTHS_5 : Nat} {sl_p_LENGTHS_5 : Array (Option Value)} {t_p_LENGTHS_5_0 t_p_LENGTHS_5_1 t_p_LENGTHS_5_2 t_p_LENGTHS_5_3 : Tok} {p_MOST_FREE : Addr} {es_MOST_FREE : Array DictEntry} {n_MOST_FREE : Nat} {t_MOST_FREE_0 : Tok} {t_MOST_FREE_1 : Tok} {t_MOST_FREE_2 : Tok}
    (a0 : PySem.W.nsIn K mainGlobals "is_an_integer" = some (some (.ref f0)))
    (l0 : K.lookup f0 = some ⟨oc0, od0, .func (PySem.W.fnOf "is_an_integer" "is_an_integer" (defArgs s_is_an_integer) (defBody s_is_an_integer) (defScope s_is_an_integer) .none kV0 dc0 pm0 an0 cd0 ct0), sl0⟩)
    (c0 : PySem.W.codeIn K cd0 "is_an_integer" = true)
    (k0 : PySem.W.keepIn K (.ref f0) = true)
    (a1 : PySem.W.nsIn K mainGlobals "is_value" = some (some (.ref f1)))
    (l1 : K.lookup f1 = some ⟨oc1, od1, .func (PySem.W.fnOf "is_value" "is_value" (defArgs s_is_value) (defBody s_is_value) (defScope s_is_value) .none kV1 dc1 pm1 an1 cd1 ct1), sl1⟩)
    (c1 : PySem.W.codeIn K cd1 "is_value" = true)
    (k1 : PySem.W.keepIn K (.ref f1) = true)
    (a2 : PySem.W.nsIn K mainGlobals "demand_kind" = some (some (.ref f2)))
    (l2 : K.lookup f2 = some ⟨oc2, od2, .func (PySem.W.fnOf "demand_kind" "demand_kind" (defArgs s_demand_kind) (defBody s_demand_kind) (defScope s_demand_kind) .none kV2 dc2 pm2 an2 cd2 ct2), sl2⟩)
    (c2 : PySem.W.codeIn K cd2 "demand_kind" = true)
    (k2 : PySem.W.keepIn K (.ref f2) = true)
    (a3 : PySem.W.nsIn K mainGlobals "is_point_of" = some (some (.ref f3)))
    (l3 : K.lookup f3 = some ⟨oc3, od3, .func (PySem.W.fnOf "is_point_of" "is_point_of" (defArgs s_is_point_of) (defBody s_is_point_of) (defScope s_is_point_of) .none kV3 dc3 pm3 an3 cd3 ct3), sl3⟩)
    (c3 : PySem.W.codeIn K cd3 "is_point_of" = true)
    (k3 : PySem.W.keepIn K (.ref f3) = true)
    (a4 : PySem.W.nsIn K mainGlobals "are_points" = some (some (.ref f4)))
    (l4 : K.lookup f4 = some ⟨oc4, od4, .func (PySem.W.fnOf "are_points" "are_points" (defArgs s_are_points) (defBody s_are_points) (defScope s_are_points) .none kV4 dc4 pm4 an4 cd4 ct4), sl4⟩)
    (c4 : PySem.W.codeIn K cd4 "are_points" = true)
    (k4 : PySem.W.keepIn K (.ref f4) = true)
    (a5 : PySem.W.nsIn K mainGlobals "most_free" = some (some (.ref f5)))
    (l5 : K.lookup f5 = some ⟨oc5, od5, .func (PySem.W.fnOf "most_free" "most_free" (defArgs s_most_free) (defBody s_most_free) (defScope s_most_free) .none kV5 dc5 pm5 an5 cd5 ct5), sl5⟩)
    (c5 : PySem.W.codeIn K cd5 "most_free" = true)
    (k5 : PySem.W.keepIn K (.ref f5) = true)
    (a6 : PySem.W.nsIn K mainGlobals "_law_cell" = some (some (.ref f6)))
    (l6 : K.lookup f6 = some ⟨oc6, od6, .func (PySem.W.fnOf "_law_cell" "_law_cell" (defArgs s__law_cell) (defBody s__law_cell) (defScope s__law_cell) .none kV6 dc6 pm6 an6 cd6 ct6), sl6⟩)
    (c6 : PySem.W.codeIn K cd6 "_law_cell" = true)
    (k6 : PySem.W.keepIn K (.ref f6) = true)
    (a7 : PySem.W.nsIn K mainGlobals "_law_pen" = some (some (.ref f7)))
    (l7 : K.lookup f7 = some ⟨oc7, od7, .func (PySem.W.fnOf "_law_pen" "_law_pen" (defArgs s__law_pen) (defBody s__law_pen) (defScope s__law_pen) .none kV7 dc7 pm7 an7 cd7 ct7), sl7⟩)
    (c7 : PySem.W.codeIn K cd7 "_law_pen" = true)
    (k7 : PySem.W.keepIn K (.ref f7) = true)
    (a8 : PySem.W.nsIn K mainGlobals "_law_pick" = some (some (.ref f8)))
    (l8 : K.lookup f8 = some ⟨oc8, od8, .func (PySem.W.fnOf "_law_pick" "_law_pick" (defArgs s__law_pick) (defBody s__law_pick) (defScope s__law_pick) .none kV8 dc8 pm8 an8 cd8 ct8), sl8⟩)
    (c8 : PySem.W.codeIn K cd8 "_law_pick" = true)
    (k8 : PySem.W.keepIn K (.ref f8) = true)
    (a9 : PySem.W.nsIn K mainGlobals "_law_points" = some (some (.ref f9)))
    (l9 : K.lookup f9 = some ⟨oc9, od9, .func (PySem.W.fnOf "_law_points" "_law_points" (defArgs s__law_points) (defBody s__law_points) (defScope s__law_points) .none kV9 dc9 pm9 an9 cd9 ct9), sl9⟩)
    (c9 : PySem.W.codeIn K cd9 "_law_points" = true)
    (k9 : PySem.W.keepIn K (.ref f9) = true)
    (a10 : PySem.W.nsIn K mainGlobals "_law_c" = some (some (.ref f10)))
    (l10 : K.lookup f10 = some ⟨oc10, od10, .func (PySem.W.fnOf "_law_c" "_law_c" (defArgs s__law_c) (defBody s__law_c) (defScope s__law_c) .none kV10 dc10 pm10 an10 cd10 ct10), sl10⟩)
    (c10 : PySem.W.codeIn K cd10 "_law_c" = true)
    (k10 : PySem.W.keepIn K (.ref f10) = true)
    (a11 : PySem.W.nsIn K mainGlobals "_law_same" = some (some (.ref f11)))
    (l11 : K.lookup f11 = some ⟨oc11, od11, .func (PySem.W.fnOf "_law_same" "_law_same" (defArgs s__law_same) (defBody s__law_same) (defScope s__law_same) .none kV11 dc11 pm11 an11 cd11 ct11), sl11⟩)
    (c11 : PySem.W.codeIn K cd11 "_law_same" = true)
    (k11 : PySem.W.keepIn K (.ref f11) = true)
    (a12 : PySem.W.nsIn K mainGlobals "_law_is_integer" = some (some (.ref f12)))
    (l12 : K.lookup f12 = some ⟨oc12, od12, .func (PySem.W.fnOf "_law_is_integer" "_law_is_integer" (defArgs s__law_is_integer) (defBody s__law_is_integer) (defScope s__law_is_integer) .none kV12 dc12 pm12 an12 cd12 ct12), sl12⟩)
    (c12 : PySem.W.codeIn K cd12 "_law_is_integer" = true)
    (k12 : PySem.W.keepIn K (.ref f12) = true)
    (a13 : PySem.W.nsIn K mainGlobals "_law_due" = some (some (.ref f13)))
    (l13 : K.lookup f13 = some ⟨oc13, od13, .func (PySem.W.fnOf "_law_due" "_law_due" (defArgs s__law_due) (defBody s__law_due) (defScope s__law_due) .none kV13 dc13 pm13 an13 cd13 ct13), sl13⟩)
    (c13 : PySem.W.codeIn K cd13 "_law_due" = true)
    (k13 : PySem.W.keepIn K (.ref f13) = true)
    (a14 : PySem.W.nsIn K mainGlobals "_law_spoilt" = some (some (.ref f14)))
    (l14 : K.lookup f14 = some ⟨oc14, od14, .func (PySem.W.fnOf "_law_spoilt" "_law_spoilt" (defArgs s__law_spoilt) (defBody s__law_spoilt) (defScope s__law_spoilt) .none kV14 dc14 pm14 an14 cd14 ct14), sl14⟩)
    (c14 : PySem.W.codeIn K cd14 "_law_spoilt" = true)
    (k14 : PySem.W.keepIn K (.ref f14) = true)
    (a15 : PySem.W.nsIn K mainGlobals "_law_refused" = some (some (.ref f15)))
    (l15 : K.lookup f15 = some ⟨oc15, od15, .func (PySem.W.fnOf "_law_refused" "_law_refused" (defArgs s__law_refused) (defBody s__law_refused) (defScope s__law_refused) .none kV15 dc15 pm15 an15 cd15 ct15), sl15⟩)
    (c15 : PySem.W.codeIn K cd15 "_law_refused" = true)
    (k15 : PySem.W.keepIn K (.ref f15) = true)
    (a16 : PySem.W.nsIn K mainGlobals "_law_right_free" = some (some (.ref f16)))
    (l16 : K.lookup f16 = some ⟨oc16, od16, .func (PySem.W.fnOf "_law_right_free" "_law_right_free" (defArgs s__law_right_free) (defBody s__law_right_free) (defScope s__law_right_free) .none kV16 dc16 pm16 an16 cd16 ct16), sl16⟩)
    (c16 : PySem.W.codeIn K cd16 "_law_right_free" = true)
    (k16 : PySem.W.keepIn K (.ref f16) = true)
    (a17 : PySem.W.nsIn K mainGlobals "_law_whole" = some (some (.ref f17)))
    (l17 : K.lookup f17 = some ⟨oc17, od17, .func (PySem.W.fnOf "_law_whole" "_law_whole" (defArgs s__law_whole) (defBody s__law_whole) (defScope s__law_whole) .none kV17 dc17 pm17 an17 cd17 ct17), sl17⟩)
    (c17 : PySem.W.codeIn K cd17 "_law_whole" = true)
    (k17 : PySem.W.keepIn K (.ref f17) = true)
    (a18 : PySem.W.nsIn K mainGlobals "law" = some (some (.ref f18)))
    (l18 : K.lookup f18 = some ⟨oc18, od18, .func (PySem.W.fnOf "law" "law" (defArgs s_law) (defBody s_law) (defScope s_law) .none kV18 dc18 pm18 an18 cd18 ct18), sl18⟩)
    (c18 : PySem.W.codeIn K cd18 "law" = true)
    (k18 : PySem.W.keepIn K (.ref f18) = true)
    (gC_Undefined : PySem.W.nsIn K mainGlobals "Undefined" = some (some (.ref C_Undefined)))
    (iC_Undefined : PySem.W.findIn K (.ref C_Undefined) "__init__" = some (some (.ref I_Undefined)))
    (cl_Undefined : K.lookup C_Undefined = some (excClassObj nm_Undefined q_Undefined C_Undefined N_Undefined bs_Undefined bm_Undefined true sn_Undefined sub_Undefined ab_Undefined col_Undefined dd_Undefined k0_Undefined k1_Undefined k2_Undefined k3_Undefined k5_Undefined "ValueError.__new__"))
    (sa_Undefined : PySem.W.findIn K (.ref C_Undefined) "__setattr__" = some (some (.builtin "object.__setattr__")))
    (no_Undefined : PySem.W.findIn K (.ref C_Undefined) "what" = some none)
    (tI_Undefined : PySem.W.typeIn K (.ref I_Undefined) = some (.type "function"))
    (kC_Undefined : PySem.W.keepIn K (.ref C_Undefined) = true)
    (ex_Undefined : PySem.W.subIn K (.ref C_Undefined) (.type "BaseException") = some true)
    (ve_Undefined : PySem.W.subIn K (.ref C_Undefined) (.type "ValueError") = some true)
    (ty_Undefined : PySem.W.typeIn K (.ref C_Undefined) = some (.type "type"))
    (ga_Undefined : PySem.W.findIn K (.ref C_Undefined) "__getattribute__" = some (some (.builtin "BaseException.__getattribute__")))
    (gg_Undefined : PySem.W.findIn K (.ref C_Undefined) "__getattr__" = some none)
    (hd_Undefined : PySem.W.hasDictIn K C_Undefined = true)
    (mr_Undefined : PySem.W.mroIn K C_Undefined (.ref C_Undefined) = some true)
    (mo_Undefined : PySem.W.mroIn K C_Undefined (.type "object") = some true)
    (co_Undefined : PySem.W.findIn K (.ref C_Undefined) "__class__" = some (some (.builtin "object.__class__")))
    (nint_Undefined : PySem.W.subIn K (.ref C_Undefined) (.type "int") = some false)
    (nbool_Undefined : PySem.W.subIn K (.ref C_Undefined) (.type "bool") = some false)
    (ntuple_Undefined : PySem.W.subIn K (.ref C_Undefined) (.type "tuple") = some false)
    (nstr_Undefined : PySem.W.subIn K (.ref C_Undefined) (.type "str") = some false)
    (nlist_Undefined : PySem.W.subIn K (.ref C_Undefined) (.type "list") = some false)
    (si_Undefined : PySem.W.ks_superIn K C_Undefined C_Undefined "__init__" = some (some (.builtin "ValueError.__init__")))
    (li_Undefined : K.lookup I_Undefined = some ⟨oi_Undefined, oo_Undefined, .func (PySem.W.ksFn "__init__" "Undefined.__init__" (defArgs sI_Undefined) (defBody sI_Undefined) (defScope sI_Undefined) .none .none di_Undefined pi_Undefined ai_Undefined (.ref ca_Undefined) ci_Undefined cc_Undefined), si2_Undefined⟩)
    (ci2_Undefined : PySem.W.codeIn K (.ref ca_Undefined) "Undefined.__init__" = true)
    (lc_Undefined : K.lookup ca_Undefined = some ⟨cl1_Undefined, cd1_Undefined, .fields vs_Undefined, sj_Undefined⟩)
    (fi_Undefined : vs_Undefined[2]? = some (.str file_Undefined tf_Undefined))
    (ff_Undefined : ((l.prog.main.file : Str) == file_Undefined) = true)
    (lx_Undefined : K.lookup cc_Undefined = some ⟨cl2_Undefined, cd2_Undefined, .cell (some (.ref C_Undefined)), sk_Undefined⟩)
    (zs : PySem.W.nsIn K mainGlobals "super" = some none)
    (op : PySem.W.nsIn K cStatics "thirdparty.any" = some none)
    (ht : (l.prog.main.scope.names.lookup ("super" : Str)).isSome = false)
    (sp1 : PySem.W.specialIn K (.builtin "object.__class__") "__get__" = some (some (.builtin "getset_descriptor.__get__")))
    (sp2 : PySem.W.takesIn K (.builtin "object.__class__") = some true)
    (z_abs : PySem.W.nsIn K mainGlobals "abs" = some none)
    (z_all : PySem.W.nsIn K mainGlobals "all" = some none)
    (z_any : PySem.W.nsIn K mainGlobals "any" = some none)
    (z_bool : PySem.W.nsIn K mainGlobals "bool" = some none)
    (z_int : PySem.W.nsIn K mainGlobals "int" = some none)
    (z_isinstance : PySem.W.nsIn K mainGlobals "isinstance" = some none)
    (z_len : PySem.W.nsIn K mainGlobals "len" = some none)
    (z_list : PySem.W.nsIn K mainGlobals "list" = some none)
    (z_min : PySem.W.nsIn K mainGlobals "min" = some none)
    (z_range : PySem.W.nsIn K mainGlobals "range" = some none)
    (z_str : PySem.W.nsIn K mainGlobals "str" = some none)
    (z_tuple : PySem.W.nsIn K mainGlobals "tuple" = some none)
    (gC_GuessError : PySem.W.nsIn K mainGlobals "GuessError" = some (some (.ref C_GuessError)))
    (hd_GuessError : PySem.W.hasDictIn K C_GuessError = true)
    (ty_GuessError : PySem.W.typeIn K (.ref C_GuessError) = some (.type "type"))
    (su_Undefined_GuessError : PySem.W.subIn K (.ref C_Undefined) (.ref C_GuessError) = some true)
    (kt_p_KINDS : K.lookup p_KINDS = some ⟨.type "tuple", od_p_KINDS, .seq #[.str (Str.ofString "steps") t_p_KINDS_0, .str (Str.ofString "stretches") t_p_KINDS_1, .str (Str.ofString "boxes") t_p_KINDS_2, .str (Str.ofString "half planes") t_p_KINDS_3, .str (Str.ofString "parities") t_p_KINDS_4, .str (Str.ofString "ands") t_p_KINDS_5] n_p_KINDS, sl_p_KINDS⟩)
    (kt_p_OF_VALUES : K.lookup p_OF_VALUES = some ⟨.type "tuple", od_p_OF_VALUES, .seq #[.str (Str.ofString "parities") t_p_OF_VALUES_0, .str (Str.ofString "ands") t_p_OF_VALUES_1] n_p_OF_VALUES, sl_p_OF_VALUES⟩)
    (kc_KINDS : PySem.W.nsIn K mainGlobals "KINDS" = some (some (.ref p_KINDS)))
    (kc_OF_VALUES : PySem.W.nsIn K mainGlobals "OF_VALUES" = some (some (.ref p_OF_VALUES)))
    (kc_LENGTHS : PySem.W.nsIn K mainGlobals "LENGTHS" = some (some (.ref p_LENGTHS)))
    (kd_LENGTHS : K.lookup p_LENGTHS = some ⟨.type "dict", none, .dict es_LENGTHS n_LENGTHS, #[]⟩)
    (kl_LENGTHS : PySem.W.KeysLit w.params es_LENGTHS.toList)
    (kw_LENGTHS : (p_LENGTHS == sysModules) = false)
    (kt_p_LENGTHS_0 : K.lookup p_LENGTHS_0 = some ⟨.type "tuple", od_p_LENGTHS_0, .seq #[.int 1 t_p_LENGTHS_0_0] n_p_LENGTHS_0, sl_p_LENGTHS_0⟩)
    (kv_LENGTHS_0 : PySem.W.nsIn K p_LENGTHS "steps" = some (some (.ref p_LENGTHS_0)))
    (kt_p_LENGTHS_1 : K.lookup p_LENGTHS_1 = some ⟨.type "tuple", od_p_LENGTHS_1, .seq #[.int 1 t_p_LENGTHS_1_0] n_p_LENGTHS_1, sl_p_LENGTHS_1⟩)
    (kv_LENGTHS_1 : PySem.W.nsIn K p_LENGTHS "stretches" = some (some (.ref p_LENGTHS_1)))
    (kt_p_LENGTHS_2 : K.lookup p_LENGTHS_2 = some ⟨.type "tuple", od_p_LENGTHS_2, .seq #[.int 1 t_p_LENGTHS_2_0, .int 2 t_p_LENGTHS_2_1, .int 3 t_p_LENGTHS_2_2] n_p_LENGTHS_2, sl_p_LENGTHS_2⟩)
    (kv_LENGTHS_2 : PySem.W.nsIn K p_LENGTHS "boxes" = some (some (.ref p_LENGTHS_2)))
    (kt_p_LENGTHS_3 : K.lookup p_LENGTHS_3 = some ⟨.type "tuple", od_p_LENGTHS_3, .seq #[.int 2 t_p_LENGTHS_3_0] n_p_LENGTHS_3, sl_p_LENGTHS_3⟩)
    (kv_LENGTHS_3 : PySem.W.nsIn K p_LENGTHS "half planes" = some (some (.ref p_LENGTHS_3)))
    (kt_p_LENGTHS_4 : K.lookup p_LENGTHS_4 = some ⟨.type "tuple", od_p_LENGTHS_4, .seq #[.int 1 t_p_LENGTHS_4_0, .int 2 t_p_LENGTHS_4_1, .int 3 t_p_LENGTHS_4_2, .int 4 t_p_LENGTHS_4_3] n_p_LENGTHS_4, sl_p_LENGTHS_4⟩)
    (kv_LENGTHS_4 : PySem.W.nsIn K p_LENGTHS "parities" = some (some (.ref p_LENGTHS_4)))
    (kt_p_LENGTHS_5 : K.lookup p_LENGTHS_5 = some ⟨.type "tuple", od_p_LENGTHS_5, .seq #[.int 1 t_p_LENGTHS_5_0, .int 2 t_p_LENGTHS_5_1, .int 3 t_p_LENGTHS_5_2, .int 4 t_p_LENGTHS_5_3] n_p_LENGTHS_5, sl_p_LENGTHS_5⟩)
    (kv_LENGTHS_5 : PySem.W.nsIn K p_LENGTHS "ands" = some (some (.ref p_LENGTHS_5)))
    (kc_MOST_FREE : PySem.W.nsIn K mainGlobals "MOST_FREE" = some (some (.ref p_MOST_FREE)))
    (kd_MOST_FREE : K.lookup p_MOST_FREE = some ⟨.type "dict", none, .dict es_MOST_FREE n_MOST_FREE, #[]⟩)
    (kl_MOST_FREE : PySem.W.KeysLit w.params es_MOST_FREE.toList)
    (kw_MOST_FREE : (p_MOST_FREE == sysModules) = false)
    (kv_MOST_FREE_0 : PySem.W.nsIn K p_MOST_FREE "steps" = some (some (.int 1 t_MOST_FREE_0)))
    (kv_MOST_FREE_1 : PySem.W.nsIn K p_MOST_FREE "stretches" = some (some (.int 2 t_MOST_FREE_1)))
    (kv_MOST_FREE_2 : PySem.W.nsIn K p_MOST_FREE "half planes" = some (some (.int 3 t_MOST_FREE_2)))
    (kz_MOST_FREE_0 : PySem.W.nsIn K p_MOST_FREE "parities" = some none)
    (kz_MOST_FREE_1 : PySem.W.nsIn K p_MOST_FREE "ands" = some none)
    (rv_Undefined : PySem.HandSPX.refsVE bm_Undefined = true) (sb_Undefined : PySem.W.subIn K (.ref C_Undefined) (.ref C_Undefined) = some true)
    : ∃ fd : FuncData, (∀ (s : Shared) (v : Value), BindsTo s fd ⟨[v], []⟩ [("script", v)]) ∧ ∀ base : Heap, K.In base → base.Ns mainGlobals mg → FnOk l.prog w K mg base CX0 12 fa fd ["script"] (spLaw K) := by
  have e := hfa.symm.trans (PySem.W.mg_of X G a18)
  cases e
  have gs : mg "super" = none := PySem.W.mg_none_of X G zs
  have xt_Undefined : PySem.SupX_what.XTxt l.prog K mg "Undefined" C_Undefined I_Undefined := {
    gC := PySem.W.mg_of X G gC_Undefined, nm := by decide +kernel, sup := gs, cls := ⟨_, _, _, _, _, _, _, _, _, _, _, _, _, _, _, cl_Undefined, by assumption⟩, sa := sa_Undefined, noN := no_Undefined, iC := iC_Undefined, tC := tI_Undefined, kC := kC_Undefined, exC := ex_Undefined, veC := ve_Undefined, tyC := ty_Undefined
    te := PySem.W.exm_ref ex_Undefined hd_Undefined ty_Undefined sb_Undefined, xf := ⟨ga_Undefined, gg_Undefined, ex_Undefined, hd_Undefined⟩, sIn := si_Undefined, opq := op, mro := mr_Undefined, htop := ht
    fn := ⟨_, _, _, _, _, _, _, _, _, _, _, _, _, _, _, _, _, _, _, _, _, _, _, _, _, _, _, _, _, _, _, _, _, li_Undefined, ci2_Undefined, by decide +kernel, lc_Undefined, fi_Undefined, ff_Undefined, lx_Undefined⟩ }
  let A : Ad := ⟨f0, (PySem.W.fnOf "is_an_integer" "is_an_integer" (defArgs s_is_an_integer) (defBody s_is_an_integer) (defScope s_is_an_integer) .none kV0 dc0 pm0 an0 cd0 ct0), f1, (PySem.W.fnOf "is_value" "is_value" (defArgs s_is_value) (defBody s_is_value) (defScope s_is_value) .none kV1 dc1 pm1 an1 cd1 ct1), f2, (PySem.W.fnOf "demand_kind" "demand_kind" (defArgs s_demand_kind) (defBody s_demand_kind) (defScope s_demand_kind) .none kV2 dc2 pm2 an2 cd2 ct2), f3, (PySem.W.fnOf "is_point_of" "is_point_of" (defArgs s_is_point_of) (defBody s_is_point_of) (defScope s_is_point_of) .none kV3 dc3 pm3 an3 cd3 ct3), f4, (PySem.W.fnOf "are_points" "are_points" (defArgs s_are_points) (defBody s_are_points) (defScope s_are_points) .none kV4 dc4 pm4 an4 cd4 ct4), f5, (PySem.W.fnOf "most_free" "most_free" (defArgs s_most_free) (defBody s_most_free) (defScope s_most_free) .none kV5 dc5 pm5 an5 cd5 ct5), f6, (PySem.W.fnOf "_law_cell" "_law_cell" (defArgs s__law_cell) (defBody s__law_cell) (defScope s__law_cell) .none kV6 dc6 pm6 an6 cd6 ct6), f7, (PySem.W.fnOf "_law_pen" "_law_pen" (defArgs s__law_pen) (defBody s__law_pen) (defScope s__law_pen) .none kV7 dc7 pm7 an7 cd7 ct7), f8, (PySem.W.fnOf "_law_pick" "_law_pick" (defArgs s__law_pick) (defBody s__law_pick) (defScope s__law_pick) .none kV8 dc8 pm8 an8 cd8 ct8), f9, (PySem.W.fnOf "_law_points" "_law_points" (defArgs s__law_points) (defBody s__law_points) (defScope s__law_points) .none kV9 dc9 pm9 an9 cd9 ct9), f10, (PySem.W.fnOf "_law_c" "_law_c" (defArgs s__law_c) (defBody s__law_c) (defScope s__law_c) .none kV10 dc10 pm10 an10 cd10 ct10), f11, (PySem.W.fnOf "_law_same" "_law_same" (defArgs s__law_same) (defBody s__law_same) (defScope s__law_same) .none kV11 dc11 pm11 an11 cd11 ct11), f12, (PySem.W.fnOf "_law_is_integer" "_law_is_integer" (defArgs s__law_is_integer) (defBody s__law_is_integer) (defScope s__law_is_integer) .none kV12 dc12 pm12 an12 cd12 ct12), f13, (PySem.W.fnOf "_law_due" "_law_due" (defArgs s__law_due) (defBody s__law_due) (defScope s__law_due) .none kV13 dc13 pm13 an13 cd13 ct13), f14, (PySem.W.fnOf "_law_spoilt" "_law_spoilt" (defArgs s__law_spoilt) (defBody s__law_spoilt) (defScope s__law_spoilt) .none kV14 dc14 pm14 an14 cd14 ct14), f15, (PySem.W.fnOf "_law_refused" "_law_refused" (defArgs s__law_refused) (defBody s__law_refused) (defScope s__law_refused) .none kV15 dc15 pm15 an15 cd15 ct15), f16, (PySem.W.fnOf "_law_right_free" "_law_right_free" (defArgs s__law_right_free) (defBody s__law_right_free) (defScope s__law_right_free) .none kV16 dc16 pm16 an16 cd16 ct16), f17, (PySem.W.fnOf "_law_whole" "_law_whole" (defArgs s__law_whole) (defBody s__law_whole) (defScope s__law_whole) .none kV17 dc17 pm17 an17 cd17 ct17), fa, (PySem.W.fnOf "law" "law" (defArgs s_law) (defBody s_law) (defScope s_law) .none kV18 dc18 pm18 an18 cd18 ct18), C_Undefined, I_Undefined, C_GuessError, p_KINDS, p_OF_VALUES, p_LENGTHS, p_LENGTHS_0, p_LENGTHS_1, p_LENGTHS_2, p_LENGTHS_3, p_LENGTHS_4, p_LENGTHS_5, p_MOST_FREE⟩
  have T : Txt l.prog w K mg A := ⟨PySem.W.mg_of X G a0, fun_mk (st := s_is_an_integer) l0 c0 k0, PySem.W.mg_of X G a1, fun_mk (st := s_is_value) l1 c1 k1, PySem.W.mg_of X G a2, fun_mk (st := s_demand_kind) l2 c2 k2, PySem.W.mg_of X G a3, fun_mk (st := s_is_point_of) l3 c3 k3, PySem.W.mg_of X G a4, fun_mk (st := s_are_points) l4 c4 k4, PySem.W.mg_of X G a5, fun_mk (st := s_most_free) l5 c5 k5, PySem.W.mg_of X G a6, fun_mk (st := s__law_cell) l6 c6 k6, PySem.W.mg_of X G a7, fun_mk (st := s__law_pen) l7 c7 k7, PySem.W.mg_of X G a8, fun_mk (st := s__law_pick) l8 c8 k8, PySem.W.mg_of X G a9, fun_mk (st := s__law_points) l9 c9 k9, PySem.W.mg_of X G a10, fun_mk (st := s__law_c) l10 c10 k10, PySem.W.mg_of X G a11, fun_mk (st := s__law_same) l11 c11 k11, PySem.W.mg_of X G a12, fun_mk (st := s__law_is_integer) l12 c12 k12, PySem.W.mg_of X G a13, fun_mk (st := s__law_due) l13 c13 k13, PySem.W.mg_of X G a14, fun_mk (st := s__law_spoilt) l14 c14 k14, PySem.W.mg_of X G a15, fun_mk (st := s__law_refused) l15 c15 k15, PySem.W.mg_of X G a16, fun_mk (st := s__law_right_free) l16 c16 k16, PySem.W.mg_of X G a17, fun_mk (st := s__law_whole) l17 c17 k17, PySem.W.mg_of X G a18, fun_mk (st := s_law) l18 c18 k18, xt_Undefined, ⟨⟨ga_Undefined, gg_Undefined, ex_Undefined, hd_Undefined, co_Undefined, sp1, sp2, mo_Undefined⟩, nint_Undefined, nbool_Undefined, ntuple_Undefined, nstr_Undefined, nlist_Undefined⟩, PySem.W.mg_none_of X G z_abs, PySem.W.mg_none_of X G z_all, PySem.W.mg_none_of X G z_any, PySem.W.mg_none_of X G z_bool, PySem.W.mg_none_of X G z_int, PySem.W.mg_none_of X G z_isinstance, PySem.W.mg_none_of X G z_len, PySem.W.mg_none_of X G z_list, PySem.W.mg_none_of X G z_min, PySem.W.mg_none_of X G z_range, PySem.W.mg_none_of X G z_str, PySem.W.mg_none_of X G z_tuple, PySem.W.mg_of X G gC_GuessError, Sx.kit_own hd_GuessError ty_GuessError su_Undefined_GuessError, PySem.W.mg_of X G kc_KINDS, ⟨_, _, _, kt_p_KINDS, rfl, rfl, Nat.le_of_ble_eq_true rfl, (.cons ⟨_, rfl⟩ (.cons ⟨_, rfl⟩ (.cons ⟨_, rfl⟩ (.cons ⟨_, rfl⟩ (.cons ⟨_, rfl⟩ (.cons ⟨_, rfl⟩ .nil))))))⟩, PySem.W.mg_of X G kc_OF_VALUES, ⟨_, _, _, kt_p_OF_VALUES, rfl, rfl, Nat.le_of_ble_eq_true rfl, (.cons ⟨_, rfl⟩ (.cons ⟨_, rfl⟩ .nil))⟩, PySem.W.mg_of X G kc_LENGTHS, ⟨_, _, ⟨kd_LENGTHS, kl_LENGTHS, kw_LENGTHS⟩⟩, kv_LENGTHS_0, ⟨_, _, _, kt_p_LENGTHS_0, rfl, rfl, Nat.le_of_ble_eq_true rfl, (.cons ⟨_, rfl⟩ .nil)⟩, kv_LENGTHS_1, ⟨_, _, _, kt_p_LENGTHS_1, rfl, rfl, Nat.le_of_ble_eq_true rfl, (.cons ⟨_, rfl⟩ .nil)⟩, kv_LENGTHS_2, ⟨_, _, _, kt_p_LENGTHS_2, rfl, rfl, Nat.le_of_ble_eq_true rfl, (.cons ⟨_, rfl⟩ (.cons ⟨_, rfl⟩ (.cons ⟨_, rfl⟩ .nil)))⟩, kv_LENGTHS_3, ⟨_, _, _, kt_p_LENGTHS_3, rfl, rfl, Nat.le_of_ble_eq_true rfl, (.cons ⟨_, rfl⟩ .nil)⟩, kv_LENGTHS_4, ⟨_, _, _, kt_p_LENGTHS_4, rfl, rfl, Nat.le_of_ble_eq_true rfl, (.cons ⟨_, rfl⟩ (.cons ⟨_, rfl⟩ (.cons ⟨_, rfl⟩ (.cons ⟨_, rfl⟩ .nil))))⟩, kv_LENGTHS_5, ⟨_, _, _, kt_p_LENGTHS_5, rfl, rfl, Nat.le_of_ble_eq_true rfl, (.cons ⟨_, rfl⟩ (.cons ⟨_, rfl⟩ (.cons ⟨_, rfl⟩ (.cons ⟨_, rfl⟩ .nil))))⟩, PySem.W.mg_of X G kc_MOST_FREE, ⟨_, _, ⟨kd_MOST_FREE, kl_MOST_FREE, kw_MOST_FREE⟩⟩, ⟨_, kv_MOST_FREE_0⟩, ⟨_, kv_MOST_FREE_1⟩, ⟨_, kv_MOST_FREE_2⟩, kz_MOST_FREE_0, kz_MOST_FREE_1⟩
  exact ⟨PySem.W.fnOf "law" "law" (defArgs s_law) (defBody s_law) (defScope s_law) .none kV18 dc18 pm18 an18 cd18 ct18, fun s v => .of_eq rfl, fun base _ _ => ok_law T⟩
theorem walk {l : PySem.W.OpenLaw} {q : Program} {loose : List Str} {XP : (Str → Option Value) → Heap → Prop} {YP : World → Heap → Prop} {d : DefRec} {K : Params → PySem.W.Frag} (hn : l.most = some 63) (hdf : d.params.defaults = [])
    (hY : ∀ (w : World) (h : Heap), YP w h → (K w.params).In h)
    (F : ∀ (w : World) (mg : Str → Option Value) (fa : Addr) (h : Heap), (K w.params).In h → h.Ns mainGlobals mg → mg d.name = some (.ref fa) →
      ∃ fd : FuncData, (∀ (s : Shared) (u : Value), BindsTo s fd ⟨[u], []⟩ [("script", u)]) ∧ ∀ base : Heap, (K w.params).In base → base.Ns mainGlobals mg → FnOk l.prog w (K w.params) mg base CX0 12 fa fd ["script"] (spLaw (K w.params))) :
    PySem.W.WalkO q loose XP YP l.row.toRowW d [] (fun f vs => PySem.call f vs) :=
  L2.walk_of (n := 63) (k := 12) (x := "script") (CX := fun _ => CX0) (sp := fun w => spLaw (K w.params)) hn (by decide) hdf ⟨rfl, by decide, by decide⟩ hY F (fun _ _ a ns hl _ hS => ⟨a, ns, rfl, hS, hl, fun _ => rfl⟩) fun _ _ _ _ _ z => z
end K60

set_option Elab.async false
set_option linter.all false
set_option maxRecDepth 100000
open PySem PySem.W PyProof.Rows
set_option maxRecDepth 100000 in
set_option maxHeartbeats 0 in
theorem PySem.Challenge.cw_nextguess_k60_points_of_kinds_holds : PySem.Challenge.rw_nextguess_k60_points_of_kinds.Holds := by
  w_on; o_law; k_head; (case hw => w_witness2)
  k_fill
  refine K60.walk (l := PySem.Challenge.rw_nextguess_k60_points_of_kinds) rfl rfl (fun w h Y => PySem.W.kIn_of Y) ?F
  case F =>
    intro w mg fa h KX G hmg
    refine' K60.all_mk KX G hmg ?a0 ?l0 ?c0 ?k0 ?a1 ?l1 ?c1 ?k1 ?a2 ?l2 ?c2 ?k2 ?a3 ?l3 ?c3 ?k3 ?a4 ?l4 ?c4 ?k4 ?a5 ?l5 ?c5 ?k5 ?a6 ?l6 ?c6 ?k6 ?a7 ?l7 ?c7 ?k7 ?a8 ?l8 ?c8 ?k8 ?a9 ?l9 ?c9 ?k9 ?a10 ?l10 ?c10 ?k10 ?a11 ?l11 ?c11 ?k11 ?a12 ?l12 ?c12 ?k12 ?a13 ?l13 ?c13 ?k13 ?a14 ?l14 ?c14 ?k14 ?a15 ?l15 ?c15 ?k15 ?a16 ?l16 ?c16 ?k16 ?a17 ?l17 ?c17 ?k17 ?a18 ?l18 ?c18 ?k18 ?gC_Undefined ?iC_Undefined ?cl_Undefined ?sa_Undefined ?no_Undefined ?tI_Undefined ?kC_Undefined ?ex_Undefined ?ve_Undefined ?ty_Undefined ?ga_Undefined ?gg_Undefined ?hd_Undefined ?mr_Undefined ?mo_Undefined ?co_Undefined ?nint_Undefined ?nbool_Undefined ?ntuple_Undefined ?nstr_Undefined ?nlist_Undefined ?si_Undefined ?li_Undefined ?ci2_Undefined ?lc_Undefined ?fi_Undefined ?ff_Undefined ?lx_Undefined ?zs ?op ?ht ?sp1 ?sp2 ?z_abs ?z_all ?z_any ?z_bool ?z_int ?z_isinstance ?z_len ?z_list ?z_min ?z_range ?z_str ?z_tuple ?gC_GuessError ?hd_GuessError ?ty_GuessError ?su_Undefined_GuessError ?kt_p_KINDS ?kt_p_OF_VALUES ?kc_KINDS ?kc_OF_VALUES ?kc_LENGTHS ?kd_LENGTHS ?kl_LENGTHS ?kw_LENGTHS ?kt_p_LENGTHS_0 ?kv_LENGTHS_0 ?kt_p_LENGTHS_1 ?kv_LENGTHS_1 ?kt_p_LENGTHS_2 ?kv_LENGTHS_2 ?kt_p_LENGTHS_3 ?kv_LENGTHS_3 ?kt_p_LENGTHS_4 ?kv_LENGTHS_4 ?kt_p_LENGTHS_5 ?kv_LENGTHS_5 ?kc_MOST_FREE ?kd_MOST_FREE ?kl_MOST_FREE ?kw_MOST_FREE ?kv_MOST_FREE_0 ?kv_MOST_FREE_1 ?kv_MOST_FREE_2 ?kz_MOST_FREE_0 ?kz_MOST_FREE_1 ?rv_Undefined ?sb_Undefined
    (case gC_Undefined => k_is)
    (case gC_GuessError => k_is)
    (case kc_KINDS => k_is)
    (case kc_OF_VALUES => k_is)
    (case kc_LENGTHS => k_is)
    (case kc_MOST_FREE => k_is)
    (case kd_LENGTHS => k_is)
    (case kd_MOST_FREE => k_is)
    (case kv_LENGTHS_0 => k_is)
    (case kv_LENGTHS_1 => k_is)
    (case kv_LENGTHS_2 => k_is)
    (case kv_LENGTHS_3 => k_is)
    (case kv_LENGTHS_4 => k_is)
    (case kv_LENGTHS_5 => k_is)
    (case kv_MOST_FREE_0 => k_is)
    (case kv_MOST_FREE_1 => k_is)
    (case kv_MOST_FREE_2 => k_is)
    (case a0 => k_is)
    (case l0 => k_is)
    (case c0 => k_is)
    (case k0 => k_is)
    (case a1 => k_is)
    (case l1 => k_is)
    (case c1 => k_is)
    (case k1 => k_is)
    (case a2 => k_is)
    (case l2 => k_is)
    (case c2 => k_is)
    (case k2 => k_is)
    (case a3 => k_is)
    (case l3 => k_is)
    (case c3 => k_is)
    (case k3 => k_is)
    (case a4 => k_is)
    (case l4 => k_is)
    (case c4 => k_is)
    (case k4 => k_is)
    (case a5 => k_is)
    (case l5 => k_is)
    (case c5 => k_is)
    (case k5 => k_is)
    (case a6 => k_is)
    (case l6 => k_is)
    (case c6 => k_is)
    (case k6 => k_is)
    (case a7 => k_is)
    (case l7 => k_is)
    (case c7 => k_is)
    (case k7 => k_is)
    (case a8 => k_is)
    (case l8 => k_is)
    (case c8 => k_is)
    (case k8 => k_is)
    (case a9 => k_is)
    (case l9 => k_is)
    (case c9 => k_is)
    (case k9 => k_is)
    (case a10 => k_is)
    (case l10 => k_is)
    (case c10 => k_is)
    (case k10 => k_is)
    (case a11 => k_is)
    (case l11 => k_is)
    (case c11 => k_is)
    (case k11 => k_is)
    (case a12 => k_is)
    (case l12 => k_is)
    (case c12 => k_is)
    (case k12 => k_is)
    (case a13 => k_is)
    (case l13 => k_is)
    (case c13 => k_is)
    (case k13 => k_is)
    (case a14 => k_is)
    (case l14 => k_is)
    (case c14 => k_is)
    (case k14 => k_is)
    (case a15 => k_is)
    (case l15 => k_is)
    (case c15 => k_is)
    (case k15 => k_is)
    (case a16 => k_is)
    (case l16 => k_is)
    (case c16 => k_is)
    (case k16 => k_is)
    (case a17 => k_is)
    (case l17 => k_is)
    (case c17 => k_is)
    (case k17 => k_is)
    (case a18 => k_is)
    (case l18 => k_is)
    (case c18 => k_is)
    (case k18 => k_is)
    (case iC_Undefined => k_is)
    (case cl_Undefined => k_is)
    (case sa_Undefined => k_is)
    (case no_Undefined => k_is)
    (case tI_Undefined => k_is)
    (case kC_Undefined => k_is)
    (case ex_Undefined => k_is)
    (case ve_Undefined => k_is)
    (case ty_Undefined => k_is)
    (case ga_Undefined => k_is)
    (case gg_Undefined => k_is)
    (case hd_Undefined => k_is)
    (case mr_Undefined => k_is)
    (case mo_Undefined => k_is)
    (case co_Undefined => k_is)
    (case nint_Undefined => k_is)
    (case nbool_Undefined => k_is)
    (case ntuple_Undefined => k_is)
    (case nstr_Undefined => k_is)
    (case nlist_Undefined => k_is)
    (case si_Undefined => (first | ks_is | k_is))
    (case li_Undefined => k_is)
    (case ci2_Undefined => k_is)
    (case lc_Undefined => k_is)
    (case fi_Undefined => (first | rfl | decide +kernel))
    (case ff_Undefined => (first | rfl | decide +kernel))
    (case lx_Undefined => k_is)
    (case zs => k_is)
    (case op => k_is)
    (case ht => (first | rfl | decide +kernel))
    (case sp1 => k_is)
    (case sp2 => k_is)
    (case z_abs => k_is)
    (case z_all => k_is)
    (case z_any => k_is)
    (case z_bool => k_is)
    (case z_int => k_is)
    (case z_isinstance => k_is)
    (case z_len => k_is)
    (case z_list => k_is)
    (case z_min => k_is)
    (case z_range => k_is)
    (case z_str => k_is)
    (case z_tuple => k_is)
    (case hd_GuessError => k_is)
    (case ty_GuessError => k_is)
    (case su_Undefined_GuessError => k_is)
    (case kt_p_KINDS => k_is)
    (case kt_p_OF_VALUES => k_is)
    (case kl_LENGTHS => (first | k_is | (repeat' first | exact trivial | refine ⟨⟨_, _, rfl, rfl⟩, ?_⟩)))
    (case kw_LENGTHS => (first | rfl | decide +kernel | k_is))
    (case kt_p_LENGTHS_0 => k_is)
    (case kt_p_LENGTHS_1 => k_is)
    (case kt_p_LENGTHS_2 => k_is)
    (case kt_p_LENGTHS_3 => k_is)
    (case kt_p_LENGTHS_4 => k_is)
    (case kt_p_LENGTHS_5 => k_is)
    (case kl_MOST_FREE => (first | k_is | (repeat' first | exact trivial | refine ⟨⟨_, _, rfl, rfl⟩, ?_⟩)))
    (case kw_MOST_FREE => (first | rfl | decide +kernel | k_is))
    (case kz_MOST_FREE_0 => k_is)
    (case kz_MOST_FREE_1 => k_is)
    (case rv_Undefined => (first | decide +kernel | rfl | k_is))
    (case sb_Undefined => k_is)
