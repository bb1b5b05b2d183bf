import PyProof.Rows.All
import Wide.All
import OpenK.AllK
import Wide.FinOn
import KE.KExcSuper
import HandS.ForMost
import HandS.ForExc
import HandS.ExcInit
import HandS.ExcSuper
import HandS.ExcField
import HandS.ExcIs
import HandS.HotCalls
import HandS.IsInst
import HandS.Gcd
import HandS.Wide
import HandS.Style
import HandS.DictComp
import HandS.TupSets
import PyProof.WalksMore
import HandS.SortOrd
import HandS.OwnEq
import OpenK.KOps
import HandS.TupAny
import HandS.Small
import HandS.SortInts
import HandS.Walk
import HandS.FStr
import HandS.TupLe
import PyProof.StrLawsChain
import PySem.Challenge.RW_nextguess_k09_texts_read
set_option Elab.async false
set_option linter.all false
set_option maxRecDepth 100000
set_option maxHeartbeats 2000000
/-! An own exception class under a class under ValueError, whose __init__ is: super().__init__("text"); self.f = f. -/
namespace PySem
namespace SupX_value
open PySem.W PySem.Calls PyProof.Rows PySem.HandSPX
/-! ### the text of such an __init__ -/
def iA (p1 p2 : Pos) : Arguments := { posonlyargs := [], args := [{ arg := "self", annotation := none, pos := p1 }, { arg := "value", annotation := none, pos := p2 }], vararg := none, kwonlyargs := [], kw_defaults := [], kwarg := none, defaults := [] }
def iB (m : Str) (k : Nat) (p0 p1 p2 p3 p4 p5 q1 q2 q3 q4 : Pos) : List Stmt :=
  [.Expr (.Call (.Attribute (.Call (.Name "super" p0) [] [] p1) "__init__" p2) [.Constant (.str m) k p3] [] p4) p5,
   .Assign [.Attribute (.Name "self" q1) "value" q2] (.Name "value" q3) q4]
def iS : Scope := { kind := .function, names := [(PySem.Str.ofString "self", .local), (PySem.Str.ofString "value", .local), (PySem.Str.ofString "__class__", .free), (PySem.Str.ofString "super", .globalImplicit)], isGenerator := false, isCoroutine := false, more := [] }
/-- what the written part says of such a class at C, its __init__ at fI -/
structure XTxt (P : Program) (K : Frag) (mg : Str → Option Value) (x : Str) (C fI : Addr) : Prop where
  gC : mg x = some (.ref C)
  nm : (x == ("__debug__" : Str)) = false
  sup : mg "super" = none
  cls : ∃ nm q N bs bm sn sub ab col dd k0 k1 k2 k3 k5, K.lookup C = some (excClassObj nm q C N bs bm true sn sub ab col dd k0 k1 k2 k3 k5 "ValueError.__new__") ∧ refsVE bm = true
  sa : findIn K (.ref C) "__setattr__" = some (some (.builtin "object.__setattr__"))
  noN : findIn K (.ref C) "value" = some none
  iC : findIn K (.ref C) "__init__" = some (some (.ref fI))
  tC : typeIn K (.ref fI) = some (.type "function")
  kC : keepIn K (.ref C) = true
  exC : subIn K (.ref C) (.type "BaseException") = some true
  veC : subIn K (.ref C) (.type "ValueError") = some true
  tyC : typeIn K (.ref C) = some (.type "type")
  te : exmOne K (.ref C) (.ref C) = some true
  xf : L2.XfC K C
  sIn : ks_superIn K C C "__init__" = some (some (.builtin "ValueError.__init__"))
  opq : nsIn K cStatics "thirdparty.any" = some none
  mro : mroIn K C (.ref C) = some true
  htop : (P.main.scope.names.lookup ("super" : Str)).isSome = false
  fn : ∃ (oc : Value) (od : Option Addr) (doc pm : Value) (an : Option Addr) (cda cc : Addr) (ct : Value) (osl : Array (Option Value)) (qual m : Str) (k : Nat) (r1 r2 p0 p1 p2 p3 p4 p5 q1 q2 q3 q4 : Pos)
      (ccl cl : Value) (cdd cld : Option Addr) (ccs csl : Array (Option Value)) (vs : Array Value) (file : Str) (tf : Tok),
    K.lookup fI = some ⟨oc, od, .func (ksFn "__init__" qual (iA r1 r2) (iB m k p0 p1 p2 p3 p4 p5 q1 q2 q3 q4) iS .none .none doc pm an (.ref cda) ct cc), osl⟩ ∧ codeIn K (.ref cda) qual = true ∧ (p2.endLine == p4.line) = true ∧
    K.lookup cda = some ⟨ccl, cdd, .fields vs, ccs⟩ ∧ vs[2]? = some (.str file tf) ∧ ((P.main.file : Str) == file) = true ∧ K.lookup cc = some ⟨cl, cld, .cell (some (.ref C)), csl⟩
/-- what __init__ leaves of a fresh exception at x -/
structure InitEnd (h h' : Heap) (x C dx : Addr) (v : Value) : Prop where
  keep : ∀ b o, b ≠ x → h.get? b = some o → h'.get? b = some o
  obj : ∃ t1 : Addr, h'.get? x = some { cls := .ref C, dict := some dx, data := .fields #[.ref t1, .none, .none, .none, .bool false, .none] }
  dbig : h.objs.size ≤ dx
  dne : dx ≠ x
  ns : h'.Ns1 dx (fun y => if y = "value" then some v else none)
theorem kept_but {K : Frag} {h h' : Heap} {x : Addr} (X : K.In h) (hx : K.lookup x = none) (k : ∀ b o, b ≠ x → h.get? b = some o → h'.get? b = some o) : K.In h' := fun a o e =>
  k a o (fun z => by rw [z, hx] at e; cases e) (X a o e)
theorem two_size (v : Value) : [v].length ≤ sizeLine := by
  rw [sizeLine_eq]
  exact (by decide : 1 ≤ 16777216)
section
variable {prog : Program} {w : World} {A : Around} {E : Value → Shared → Prop} {h : Heap} {g : Array GenState} {d : Drawn} {t : Nat} {os : OsState}
variable {nm q : Str} {C N : Addr} {bs bm : List Value} {hdct : Bool} {sn : List Str} {sub : List Value} {ab : Bool} {col : Option Bool} {dd : Option Addr} {k0 k1 k2 k3 k5 : Option Value}
/-- the bound ValueError.__init__, called -/
theorem call_bw {u e t0 : Addr} {rest : List Value} {Q : Value → Shared → Prop}
    (hC : h.get? C = some (excClassObj nm q C N bs bm hdct sn sub ab col dd k0 k1 k2 k3 k5 "ValueError.__new__")) (he : h.get? e = some (excO C t0)) (hu : h.get? u = some (kxs_mw "ValueError.__init__" e)) (hrest : rest.length ≤ sizeLine)
    (hq : ∀ h' t1, (∀ b o, b ≠ e → h.get? b = some o → h'.get? b = some o) → h'.get? e = some (excO C t1) → Q .none ⟨h', g, d, t, os⟩) :
    wpAny (model prog w) A (call (.ref u) rest) Q E ⟨h, g, d, t, os⟩ := by
  refine wpAny_call (codeAny_of_tree ?_)
  show wpAny _ A.in1 (callAny (.ref u) ⟨rest, []⟩) _ _ _
  simp only [callAny]
  refine wpAny_bind (wpAny_load hu ?_)
  simp only [kxs_mw, show (Value.type "method-wrapper" == Value.type "method" || Value.type "method-wrapper" == Value.type "builtin_function_or_method" || Value.type "method-wrapper" == Value.type "method-wrapper") = true by decide, if_true]
  refine W.KFB.if_so (by decide) ?_
  refine wpAny_bind (ESX.check_bound F.excBase_ValueError hC he rfl ?_)
  refine wpAny_bind (wpAny_pure (wpAny_pure ?_))
  refine ⟨Code.quiet_builtin _ (by decide +kernel), codeAny_builtin F.excBase_ValueError.initEntry ?_⟩
  rw [Around.under_plainId F.excBase_ValueError.init.plain _]
  wp_walk
  refine hq _ h.objs.size (fun b o hb ho => ?_) ?_
  · rw [Heap.get?_update_other _ _ (Ne.symm hb)]
    exact Heap.get?_push_of_some _ ho
  · rw [Heap.get?_update_self _ (Heap.get?_push_of_some _ he) rfl]
    rfl
end
section
variable {prog : Program} {w : World} {A : Around} {R : Result → Shared → Prop} {s : Shared} {K : Frag} {mg : Str → Option Value} {x : Str} {C fI : Addr}
theorem sup_init (T : XTxt prog K mg x C fI) {e t0 : Addr} {v : Value} (X : K.In s.heap) (hlim : s.heap.NoLimit) (hg : s.heap.Ns mainGlobals mg) (hb : ∃ mb, s.heap.Ns builtinsNs mb ∧ ∀ y : Str, y ≠ "__name__" → mb y = bootBuiltins y)
    (hx : s.heap.get? e = some (excO C t0)) (hnx : K.lookup e = none) (hroom : A.depth < recursionLimit)
    (hq : ∀ h' tk dx, InitEnd s.heap h' e C dx v → R (.ok (.ret .none)) { s with heap := h', toks := tk }) :
    codeAny (model prog w) A (.call (.ref fI) ⟨[.ref e, v], []⟩) R s := by
  obtain ⟨oc, od, doc, pm, an, cda, cc, ct, osl, qual, m, k, r1, r2, p0, p1, p2, p3, p4, p5, q1, q2, q3, q4, ccl, cl, cdd, cld, ccs, csl, vs, file, tf, ho, hcd, hln, hcode, hvs, hfile, hcell⟩ := T.fn
  obtain ⟨nm, q, N, bs, bm, sn, sub, ab, col, dd, k0, k1, k2, k3, k5, hC, hbm⟩ := T.cls
  obtain ⟨mb, hb1, hb2⟩ := hb
  have hcl : clsIn K C = some { name := nm, bases := bs, mro := .ref C :: bm, ns := N, qualname := q, hasDict := true, slotNames := sn, subclasses := sub, abstract := ab, collection := col, hasDel := false } := by unfold clsIn; rw [hC] <;> rfl
  refine ks_codeAny_call_defAt (fd := ksFn "__init__" qual (iA r1 r2) (iB m k p0 p1 p2 p3 p4 p5 q1 q2 q3 q4) iS .none .none doc pm an (.ref cda) ct cc) (body := iB m k p0 p1 p2 p3 p4 p5 q1 q2 q3 q4) (binds := [("self", .ref e), ("value", v)])
    hroom (X _ _ ho) rfl hlim (codeRec_of X hcd) rfl (BindsTo.of_eq ?_) ?_ ?_ (fun h₁ hns hk₁ => ?_) rfl rfl rfl
  · first | rfl | with_unfolding_all rfl
  · intro y hy
    have hy2 : y ∈ [(PySem.Str.ofString "self", NameKind.local), (PySem.Str.ofString "value", .local), (PySem.Str.ofString "__class__", .free), (PySem.Str.ofString "super", .globalImplicit)] := hy
    simp only [List.mem_cons, List.not_mem_nil, or_false] at hy2
    rcases hy2 with rfl | rfl | rfl | rfl <;> intro z <;> cases z
  · intro y hy
    simp only [List.mem_cons, List.not_mem_nil, or_false] at hy
    rcases hy with rfl | rfl <;> rfl
  -- the frame: self, the field's value
  have X₁ : K.In h₁ := X.keeps hk₁
  have hx₁ := hk₁ _ _ hx
  have hC₁ := X₁ _ _ hC
  show _root_.PySem.wpAt _ _ _ (execs (iB m k p0 p1 p2 p3 p4 p5 q1 q2 q3 q4) _) _ _ _
  refine ks_wpAt_execs_cons (ks_wpAt_Expr_any (ks_wpAt_MethodCall (pl := (do return (← importBound (.Call (.Name "super" p0) [] [] p1) (callEnv
          (ksFn "__init__" qual (iA r1 r2) (iB m k p0 p1 p2 p3 p4 p5 q1 q2 q3 q4) iS .none .none doc pm an (.ref cda) ct cc) s.heap.objs.size fI)).getD true)) ?_ ?he) rfl rfl)
  case he =>
    rw [eval]
    unfold methodCall methodCallPos
    simp only [hln, Bool.or_true, if_true, pure_bind]
    rfl
  refine ks_wpAt_super_base (f := fI) (cc := cda) rfl rfl (by decide +kernel) rfl (X₁ _ _ ho) rfl rfl rfl (X₁ _ _ hcode) rfl hvs hfile T.htop ?_
  refine ks_loadName_global rfl rfl (loadGlobal_builtin (hg.keeps hk₁) T.sup (hb1.keeps hk₁) ((hb2 _ (by decide +kernel)).trans (show bootBuiltins "super" = some (.type "super") by first | rfl | decide +kernel | kernel_rfl)) ⟨rfl, ?_⟩)
  refine wpAny_loadName_free rfl rfl rfl ⟨_, X₁ _ _ hcell, rfl⟩ ?_
  refine wpAny_loadName_local (v := .ref e) rfl rfl hns (by rfl) ?_
  refine ks_wpAny_isType_cls hC₁ rfl ⟨rfl, ?_⟩
  refine ks_wpAny_call_super hC₁ rfl hx₁ rfl (fun c z => nomatch z) (looks_mroIn X₁ T.mro) (fun h₂ e₂ k₂ => ?_)
  have X₂ : K.In h₂ := X₁.keeps k₂
  have hx₂ := k₂ _ _ hx₁
  have hC₂ := X₂ _ _ hC
  have I₂ : InstAt h₂ e (excO C t0) C none := ⟨hx₂, rfl, rfl, trivial⟩
  have hI : Looks (model prog w) h₂ (isInstance (.ref e) (.type "ValueError")) true := I₂.type.andThen (looks_subIn X₂ T.veC)
  have hsi : alongIn K "__init__" (((Value.ref C :: bm).dropWhile (· != .ref C)).drop 1) = some (some (.builtin "ValueError.__init__")) := by
    have z := T.sIn
    unfold ks_superIn at z
    rw [hcl] at z
    exact z
  have hmro : Looks (model prog w) h₂ (mroOf (.ref C)) (Value.ref C :: bm) := fun A' Q' E' s' k' q' => wpAny_bind ((looks_clsIn X₂ hcl) A' _ E' s' k' (wpAny_pure q'))
  refine kxs_getMethod kxs_ValueError e₂ (looks_opaque X₂ T.opq) hmro rfl X₂ hsi hI (ks_ne X₂ I₂ hcl) (by decide +kernel) ?_
  have hu : (h₂.push (kxs_mw "ValueError.__init__" e)).get? h₂.objs.size = some (kxs_mw "ValueError.__init__" e) := by heap_get
  have k₃ : ∀ b o, h₂.get? b = some o → (h₂.push (kxs_mw "ValueError.__init__" e)).get? b = some o := fun b o z => Heap.get?_push_of_some _ z
  refine kxs_callWith (i := "ValueError.__init__") (x := e) (by rfl) ?_
  refine evalArgs_plain (spliced_cons ?_)
  show wpAny _ _ (eval (.Constant (.str m) k p3) _) _ _ _
  refine Constant_str (spliced_nil ⟨hu, ?_⟩)
  refine call_bw (k₃ _ _ hC₂) (k₃ _ _ hx₂) hu (two_size _) (fun h₄ t4 k₄ hx₄ => ?_)
  have k₅ : ∀ b o, b ≠ e → s.heap.get? b = some o → h₄.get? b = some o := fun b o z y => k₄ b o z (k₃ _ _ (k₂ _ _ (hk₁ _ _ y)))
  have X₄ : K.In h₄ := kept_but (X₂.keeps k₃) hnx k₄
  have hLe : s.heap.objs.size ≠ e := Nat.ne_of_gt (Heap.lt_size hx)
  have hns₄ : h₄.Ns s.heap.objs.size (fun y => List.lookup y ([(("self" : Str), Value.ref e), (("value" : Str), v)] : List (Str × Value)).reverse) := by
    obtain ⟨oL, es, ep, hL, r⟩ := hns
    exact ⟨oL, es, ep, k₄ _ _ hLe (k₃ _ _ (k₂ _ _ hL)), r⟩
  show wpAt _ _ _ (execs [.Assign [.Attribute (.Name "self" q1) "value" q2] (.Name "value" q3) q4] _) _ _ _
  refine wpAt_of_wpAny (wpAny_execs_cons (plainObj_wpAny_Assign_Attribute ?_))
  refine ESX.ldL (v := v) hns₄ (by rfl) (ESX.ldL (v := .ref e) hns₄ (by rfl) ?_)
  refine set_plain X₄ (ox := excO C t4) (od := none) ⟨hx₄, rfl, rfl, trivial⟩ T.sa ?_
  refine exc_osa X₄ hx₄ hcl (show refsVE (.ref C :: bm) = true from hbm) rfl T.noN (fun h₆ tk₆ dx k₆ dn dne hx₆ hn₆ => ?_)
  refine wpAny_execs_nil (hq h₆ tk₆ dx ⟨fun b o hb y => k₆ b o hb (k₅ b o hb y), ⟨t4, hx₆⟩, ?_, dne, hn₆⟩)
  have z : s.heap.objs.size < h₄.objs.size := hns₄.lt
  exact Nat.le_of_lt (Nat.lt_of_lt_of_le z dn)
/-- a made exception -/
structure OwnMade (h h' : Heap) (e C d : Addr) (v : Value) : Prop where
  keep : ∀ b o, h.get? b = some o → h'.get? b = some o
  new : h.objs.size ≤ e
  obj : ∃ t1 : Addr, h'.get? e = some { cls := .ref C, dict := some d, data := .fields #[.ref t1, .none, .none, .none, .bool false, .none] }
  dbig : h.objs.size ≤ d
  dne : d ≠ e
  ns : h'.Ns1 d (fun y => if y = "value" then some v else none)
theorem sup_made (T : XTxt prog K mg x C fI) {v : Value} (X : K.In s.heap) (hlim : s.heap.NoLimit) (hg : s.heap.Ns mainGlobals mg) (hb : ∃ mb, s.heap.Ns builtinsNs mb ∧ ∀ y : Str, y ≠ "__name__" → mb y = bootBuiltins y) (hroom : A.depth + 1 < recursionLimit)
    (hq : ∀ h' tk e d, OwnMade s.heap h' e C d v → R (.ok (.ret (.ref e))) { s with heap := h', toks := tk }) :
    codeAny (model prog w) A (.call (.ref C) ⟨[v], []⟩) R s := by
  obtain ⟨nm, q, N, bs, bm, sn, sub, ab, col, dd, k0, k1, k2, k3, k5, hC, hbm⟩ := T.cls
  obtain ⟨mb, hb1, hb2⟩ := hb
  obtain ⟨hp, g, dr, tk, os⟩ := s
  have k : ∀ b o, hp.get? b = some o → ((hp.push (kdv_tup [v])).push (excO C hp.objs.size)).get? b = some o := fun b o e => Heap.get?_push_of_some _ (Heap.get?_push_of_some _ e)
  have hget : ((hp.push (kdv_tup [v])).push (excO C hp.objs.size)).get? (hp.objs.size + 1) = some (excO C hp.objs.size) := by heap_get
  have hnx : K.lookup (hp.objs.size + 1) = none := by
    cases e : K.lookup (hp.objs.size + 1) with
    | none => rfl
    | some o =>
      have z : hp.get? (hp.objs.size + 1) = some o := X _ _ e
      exact absurd (Nat.lt_of_succ_lt (Heap.lt_size z)) (Nat.lt_irrefl _)
  refine call_own F.excBase_ValueError (fun X => refsVE_contains X bm hbm) (X _ _ hC) (looks_findIn X T.iC) (fun self => bind_fn X self T.tC) (two_size v) ?_
  refine sup_init (s := ⟨(hp.push (kdv_tup [v])).push (excO C hp.objs.size), g, dr, tk, os⟩) T (X.keeps k) (hlim.keeps k) (hg.keeps k) ⟨mb, hb1.keeps k, hb2⟩ hget hnx ?_ fun h' tk' dx M => ?_
  · show A.depth + 1 < recursionLimit
    exact hroom
  · obtain ⟨k', hx, dn, dne, hns⟩ := M
    have old : ∀ b o, hp.get? b = some o → h'.get? b = some o := fun b o e => k' b o (Nat.ne_of_lt (Nat.lt_succ_of_lt (Heap.lt_size e))) (k b o e)
    have z : hp.objs.size + 1 + 1 ≤ dx := by
      first
        | (simpa only [Heap.size_push] using dn)
        | exact dn
        | (have q := dn; rw [Heap.size_push, Heap.size_push] at q; exact q)
    exact ⟨rfl, hq h' tk' (hp.objs.size + 1) dx ⟨old, Nat.le_succ _, hx, Nat.le_trans (Nat.le_trans (Nat.le_succ _) (Nat.le_succ _)) z, dne, hns⟩⟩
end
end SupX_value
end PySem

set_option Elab.async false
set_option linter.all false
set_option maxRecDepth 100000
set_option maxHeartbeats 2000000

namespace L2
open PySem PySem.Spec PyProof.Rows
theorem relO_one {f : Str} {v : V} {v' : Value} (r : RelV v v') (g : Str) : RelO (List.lookup g [(f, v)]) (if g = f then some v' else none) := by
  by_cases hw : g = f
  · subst hw
    rw [if_pos rfl]
    have q : List.lookup g [(g, v)] = some v := by simp [List.lookup]
    rw [q]
    exact r
  · rw [if_neg hw]
    have qw : (g == f) = false := by simpa using hw
    have q2 : List.lookup g [(f, v)] = none := by simp [List.lookup, qw]
    rw [q2]
    trivial
/-- C(e), an exception that is made -/
def tMkX (C : Addr) (f : Str) (ta : TA) : St → Hp → XK → Prop := fun σ H Q => ta σ H fun vs H1 => ∃ v, vs = [v] ∧ ∀ d, H1 d = none → Q (.ref C) (some d) (upd H1 d (.xd [(f, v)]))
/-- C(e) as a value: the exception at a, its dict at d -/
def tExV (C : Addr) (f : Str) (ta : TA) : TE := fun σ H Q => ta σ H fun vs H1 => ∃ v, vs = [v] ∧ ∀ a d, H1 a = none → H1 d = none → d ≠ a → Q (.ref a) (upd (upd H1 d (.xd [(f, v)])) a (exo a C (some d)))
end L2
namespace L2
namespace Sup_value
open PySem PySem.Spec PyProof.Rows PySem.SupX_value
section
variable {X : Cx} {C fI : Addr} {x : Str}
theorem gblt {pins : List (Addr × Obj)} {σ : St} {H : Hp} {s : Shared} (I : Inv X pins σ H s) : ∃ mb, s.heap.Ns builtinsNs mb ∧ ∀ y : Str, y ≠ "__name__" → mb y = bootBuiltins y := by
  obtain ⟨mb, h1, h2⟩ := I.mod.blt
  exact ⟨mb, h1.keeps I.bk, h2⟩
theorem pmk_sup {a : Expr} {ta : TA} {p pos : Pos} {k : Nat} (T : XTxt X.prog X.K X.mg x C fI) (hr : Room k X.A) (ha : PA X [a] ta) (hg : Gl X x := by rfl)
    (he : starEach (a :: []) X.env = (false, eval a X.env) :: starEach [] X.env := by rfl) (hpl : (backTo pos (starEach [] X.env)).any (·.1) = false := by rfl) :
    PMk X (.Call (.Name x p) [a] [] pos) (tMkX C "value" ta) := by
  intro pins s σ H Q I h
  refine wpAny_Call_Name_kw (ld_glob I hg T.gC ?_ T.nm)
  refine PySem.W.callWith_K (h₀ := X.base) I.ok.mod.kin T.kC (thn (ha.run pos pins s σ H _ I h) fun us s1 hh => ?_) he hpl
  obtain ⟨vs, H1, I1, r1, v, ev, q1⟩ := hh
  subst ev
  refine ⟨I1.kIn, ?_⟩
  cases r1 with
  | cons rv rn =>
    rename_i v' us'
    cases rn
    show wpAny _ _ (call (.ref C) [v']) _ _ _
    have hlim := I1.nolimit
    have hgl := I1.mod.glob.keeps I1.bk
    have hbl := gblt I1
    obtain ⟨hp, g, dr, tk, os⟩ := s1
    refine wpAny_call (sup_made T I1.kIn hlim hgl hbl (by have := hr.dp; omega) fun h' tk' e d M => ?_)
    show MkP X pins σ Q (.ref e) ⟨h', g, dr, tk', os⟩
    obtain ⟨t1, hoe⟩ := M.obj
    have hns := M.ns
    obtain ⟨G', g1, g2⟩ := restrict h' fun b => decide (b ≠ e)
    have gk : ∀ b, b ≠ e → G'.get? b = h'.get? b := fun b hb => g1 b (decide_eq_true hb)
    have ge : G'.get? e = none := g2 e (by simp)
    have old : ∀ b o, hp.get? b = some o → G'.get? b = some o := fun b o q => (gk b (Nat.ne_of_lt (Nat.lt_of_lt_of_le (Heap.lt_size q) M.new))).trans (M.keep b o q)
    have ob : ObjOk X.prog X.w (upd H1 d (.xd [(("value" : Str), v)])) G' d (.xd [(("value" : Str), v)]) :=
      ⟨_, hns.at (fun o q => (gk d M.dne).trans q), fun f => relO_one rv f⟩
    have J : Inv X pins σ (upd H1 d (.xd [(("value" : Str), v)])) ⟨G', g, dr, tk', os⟩ := I1.laid (t' := tk') old M.dbig ob
    refine ⟨e, _, _, ⟨G', g, dr, tk', os⟩, _, .ref C, some d, rfl, J, fun b o q => ?_, ge, hoe, ⟨rfl, rfl⟩, rfl, rfl, ?_, rfl, I1.bare, raises_own T.exC T.tyC, q1 d (I1.hok.fresh M.dbig)⟩
    · by_cases hb : b = e
      · have q' : G'.get? b = some o := q
        rw [hb, ge] at q'; cases q'
      · exact (gk b hb).symm.trans q
    · rw [upd_ne (Ne.symm M.dne)]
      exact I1.hok.fresh M.new
/-- raise C(e) -/
theorem ps_raiseSup {a : Expr} {ta : TA} {W : WX} {p pos pos2 : Pos} {k : Nat} (hc : X.calm = true) (T : XTxt X.prog X.K X.mg x C fI) (hr : Room k X.A) (tk : Takes X W) (ha : PA X [a] ta) (hg : Gl X x := by rfl)
    (he : starEach (a :: []) X.env = (false, eval a X.env) :: starEach [] X.env := by rfl) (hpl : (backTo pos (starEach [] X.env)).any (·.1) = false := by rfl) :
    PS X (.Raise (some (.Call (.Name x p) [a] [] pos)) none pos2) (fun _ σ H => tMkX C "value" ta σ H fun cls d H' => W cls d σ H') := ps_raise hc tk (pmk_sup T hr ha hg he hpl)
theorem pmk_supN {a : Expr} {ta : TA} {p pos : Pos} {k : Nat} (T : XTxt X.prog X.K X.mg x C fI) (hr : Room k X.A) (ha : PA X [a] ta) (hg : Gl X x := by rfl)
    (he : starEach (a :: []) X.env = (false, eval a X.env) :: starEach [] X.env := by rfl) (hpl : (backTo pos (starEach [] X.env)).any (·.1) = false := by rfl) :
    L2N.PMk X (.Call (.Name x p) [a] [] pos) (tMkX C "value" ta) := by
  intro pins s σ H Q I h
  refine wpAny_Call_Name_kw (ld_glob I hg T.gC ?_ T.nm)
  refine PySem.W.callWith_K (h₀ := X.base) I.ok.mod.kin T.kC (thn (ha.run pos pins s σ H _ I h) fun us s1 hh => ?_) he hpl
  obtain ⟨vs, H1, I1, r1, v, ev, q1⟩ := hh
  subst ev
  refine ⟨I1.kIn, ?_⟩
  cases r1 with
  | cons rv rn =>
    rename_i v' us'
    cases rn
    show wpAny _ _ (call (.ref C) [v']) _ _ _
    have hlim := I1.nolimit
    have hgl := I1.mod.glob.keeps I1.bk
    have hbl := gblt I1
    obtain ⟨hp, g, dr, tk, os⟩ := s1
    refine wpAny_call (sup_made T I1.kIn hlim hgl hbl (by have := hr.dp; omega) fun h' tk' e d M => ?_)
    show L2N.MkP X pins σ Q (.ref e) ⟨h', g, dr, tk', os⟩
    obtain ⟨t1, hoe⟩ := M.obj
    have hns := M.ns
    obtain ⟨G', g1, g2⟩ := restrict h' fun b => decide (b ≠ e)
    have gk : ∀ b, b ≠ e → G'.get? b = h'.get? b := fun b hb => g1 b (decide_eq_true hb)
    have ge : G'.get? e = none := g2 e (by simp)
    have old : ∀ b o, hp.get? b = some o → G'.get? b = some o := fun b o q => (gk b (Nat.ne_of_lt (Nat.lt_of_lt_of_le (Heap.lt_size q) M.new))).trans (M.keep b o q)
    have ob : ObjOk X.prog X.w (upd H1 d (.xd [(("value" : Str), v)])) G' d (.xd [(("value" : Str), v)]) :=
      ⟨_, hns.at (fun o q => (gk d M.dne).trans q), fun f => relO_one rv f⟩
    have J : Inv X pins σ (upd H1 d (.xd [(("value" : Str), v)])) ⟨G', g, dr, tk', os⟩ := I1.laid (t' := tk') old M.dbig ob
    refine ⟨e, _, _, ⟨G', g, dr, tk', os⟩, _, .ref C, some d, rfl, J, fun b o q => ?_, ge, hoe, ⟨rfl, rfl, fun vs e => by cases e; rfl⟩, rfl, rfl, ?_, rfl, I1.bare, raises_own T.exC T.tyC, q1 d (I1.hok.fresh M.dbig)⟩
    · by_cases hb : b = e
      · have q' : G'.get? b = some o := q
        rw [hb, ge] at q'; cases q'
      · exact (gk b hb).symm.trans q
    · rw [upd_ne (Ne.symm M.dne)]
      exact I1.hok.fresh M.new
/-- raise C(e) -/
theorem ps_raiseSupN {a : Expr} {ta : TA} {W : WX} {p pos pos2 : Pos} {k : Nat} (hc : X.calm = true) (T : XTxt X.prog X.K X.mg x C fI) (hr : Room k X.A) (tk : L2N.Takes X W) (ha : PA X [a] ta) (hg : Gl X x := by rfl)
    (he : starEach (a :: []) X.env = (false, eval a X.env) :: starEach [] X.env := by rfl) (hpl : (backTo pos (starEach [] X.env)).any (·.1) = false := by rfl) :
    PS X (.Raise (some (.Call (.Name x p) [a] [] pos)) none pos2) (fun _ σ H => tMkX C "value" ta σ H fun cls d H' => W cls d σ H')   := L2N.ps_raise hc tk (pmk_supN T hr ha hg he hpl)
/-- C(e) as a value -/
theorem pe_supV {a : Expr} {ta : TA} {p pos : Pos} {k : Nat} (T : XTxt X.prog X.K X.mg x C fI) (hr : Room k X.A) (ha : PA X [a] ta) (hg : Gl X x := by rfl)
    (he : starEach (a :: []) X.env = (false, eval a X.env) :: starEach [] X.env := by rfl) (hpl : (backTo pos (starEach [] X.env)).any (·.1) = false := by rfl) :
    PE X (.Call (.Name x p) [a] [] pos) (tExV C "value" ta) := by
  refine ⟨fun pins s σ H Q I h => ?_⟩
  refine wpAny_Call_Name_kw (ld_glob I hg T.gC ?_ T.nm)
  refine PySem.W.callWith_K (h₀ := X.base) I.ok.mod.kin T.kC (thn (ha.run pos pins s σ H _ I h) fun us s1 hh => ?_) he hpl
  obtain ⟨vs, H1, I1, r1, v, ev, q1⟩ := hh
  subst ev
  refine ⟨I1.kIn, ?_⟩
  cases r1 with
  | cons rv rn =>
    rename_i v' us'
    cases rn
    show wpAny _ _ (call (.ref C) [v']) _ _ _
    have hlim := I1.nolimit
    have hgl := I1.mod.glob.keeps I1.bk
    have hbl := gblt I1
    obtain ⟨hp, g, dr, tk, os⟩ := s1
    refine wpAny_call (sup_made T I1.kIn hlim hgl hbl (by have := hr.dp; omega) fun h' tk' e d M => ?_)
    obtain ⟨t1, hoe⟩ := M.obj
    have hne : H1 e = none := I1.hok.fresh M.new
    have hnd : H1 d = none := I1.hok.fresh M.dbig
    have nde : ∀ {b : Addr} {o : Obj}, hp.get? b = some o → b ≠ e := fun {b o} z => Nat.ne_of_lt (Nat.lt_of_lt_of_le (Heap.lt_size z) M.new)
    have ndd : ∀ {b : Addr} {o : Obj}, hp.get? b = some o → b ≠ d := fun {b o} z => Nat.ne_of_lt (Nat.lt_of_lt_of_le (Heap.lt_size z) M.dbig)
    have two : ∀ {b : Addr} {o : HO}, H1 b = some o → upd (upd H1 d (.xd [(("value" : Str), v)])) e (exo e C (some d)) b = some o := fun {b o} z => by
      rw [upd_ne (ne_of_none z hne), upd_ne (ne_of_none z hnd)]
      exact z
    have U : Un X.fs [] H1 (upd (upd H1 d (.xd [(("value" : Str), v)])) e (exo e C (some d))) hp h' := {
      keep := fun b u z _ _ _ => M.keep b u z
      slot := fun b u z _ _ _ => ⟨u.slots, M.keep b u z⟩
      free := fun b u z n _ => by rw [upd_ne (nde z), upd_ne (ndd z)]; exact n
      there := fun b u z _ => ⟨u, M.keep b u z⟩
      tups := fun b xs z => two z
      frzs := fun b u xs z => two z
      tbls := fun b ps z => ⟨#[], by rw [two z]; simp⟩ }
    have ok2 : HOk X.prog X.w (upd (upd H1 d (.xd [(("value" : Str), v)])) e (exo e C (some d))) h' := fun b o z => by
      by_cases hb : b = e
      · subst hb
        rw [upd_same] at z
        cases z
        exact exo_ok hoe
      · rw [upd_ne hb] at z
        by_cases hd : b = d
        · subst hd
          rw [upd_same] at z
          cases z
          exact ⟨_, M.ns, fun f => relO_one rv f⟩
        · rw [upd_ne hd] at z
          exact (I1.hok b o z).stay (fun c u _ q => M.keep c u q) (fun c q => two q) fun c xs q => two q
    have J2 : Inv X pins σ (upd (upd H1 d (.xd [(("value" : Str), v)])) e (exo e C (some d))) ⟨h', g, dr, tk', os⟩ := I1.un (t' := tk') U ok2
    exact ⟨.ref e, _, J2, rfl, q1 e d hne hnd M.dne⟩
end
end Sup_value
end L2

set_option Elab.async false
set_option linter.all false
set_option maxRecDepth 100000
set_option maxHeartbeats 2000000
/-! An own exception class under a class under ValueError, whose __init__ is: super().__init__("text"); self.f = f. -/
namespace PySem
namespace SupY_text_at
open PySem.W PySem.Calls PyProof.Rows PySem.HandSPX
/-! ### the text of such an __init__ -/
def iA (p1 p2 p3 : Pos) : Arguments := { posonlyargs := [], args := [{ arg := "self", annotation := none, pos := p1 }, { arg := "text", annotation := none, pos := p2 }, { arg := "at", annotation := none, pos := p3 }], vararg := none, kwonlyargs := [], kw_defaults := [], kwarg := none, defaults := [] }
def iB (m : Str) (k : Nat) (p0 p1 p2 p3 p4 p5 q1 q2 q3 q4 q5 q6 q7 q8 : Pos) : List Stmt :=
  [.Expr (.Call (.Attribute (.Call (.Name "super" p0) [] [] p1) "__init__" p2) [.Constant (.str m) k p3] [] p4) p5,
   .Assign [.Attribute (.Name "self" q1) "text" q2] (.Name "text" q3) q4,
   .Assign [.Attribute (.Name "self" q5) "at" q6] (.Name "at" q7) q8]
def iS : Scope := { kind := .function, names := [(PySem.Str.ofString "self", .local), (PySem.Str.ofString "text", .local), (PySem.Str.ofString "at", .local), (PySem.Str.ofString "__class__", .free), (PySem.Str.ofString "super", .globalImplicit)], isGenerator := false, isCoroutine := false, more := [] }
/-- what the written part says of such a class at C, its __init__ at fI -/
structure XTxt (P : Program) (K : Frag) (mg : Str → Option Value) (x : Str) (C fI : Addr) : Prop where
  gC : mg x = some (.ref C)
  nm : (x == ("__debug__" : Str)) = false
  sup : mg "super" = none
  cls : ∃ nm q N bs bm sn sub ab col dd k0 k1 k2 k3 k5, K.lookup C = some (excClassObj nm q C N bs bm true sn sub ab col dd k0 k1 k2 k3 k5 "ValueError.__new__") ∧ refsVE bm = true
  sa : findIn K (.ref C) "__setattr__" = some (some (.builtin "object.__setattr__"))
  noN : findIn K (.ref C) "text" = some none
  noM : findIn K (.ref C) "at" = some none
  iC : findIn K (.ref C) "__init__" = some (some (.ref fI))
  tC : typeIn K (.ref fI) = some (.type "function")
  kC : keepIn K (.ref C) = true
  exC : subIn K (.ref C) (.type "BaseException") = some true
  veC : subIn K (.ref C) (.type "ValueError") = some true
  tyC : typeIn K (.ref C) = some (.type "type")
  te : exmOne K (.ref C) (.ref C) = some true
  xf : L2.XfC K C
  sIn : ks_superIn K C C "__init__" = some (some (.builtin "ValueError.__init__"))
  opq : nsIn K cStatics "thirdparty.any" = some none
  mro : mroIn K C (.ref C) = some true
  htop : (P.main.scope.names.lookup ("super" : Str)).isSome = false
  fn : ∃ (oc : Value) (od : Option Addr) (doc pm : Value) (an : Option Addr) (cda cc : Addr) (ct : Value) (osl : Array (Option Value)) (qual m : Str) (k : Nat) (r1 r2 r3 p0 p1 p2 p3 p4 p5 q1 q2 q3 q4 q5 q6 q7 q8 : Pos)
      (ccl cl : Value) (cdd cld : Option Addr) (ccs csl : Array (Option Value)) (vs : Array Value) (file : Str) (tf : Tok),
    K.lookup fI = some ⟨oc, od, .func (ksFn "__init__" qual (iA r1 r2 r3) (iB m k p0 p1 p2 p3 p4 p5 q1 q2 q3 q4 q5 q6 q7 q8) iS .none .none doc pm an (.ref cda) ct cc), osl⟩ ∧ codeIn K (.ref cda) qual = true ∧ (p2.endLine == p4.line) = true ∧
    K.lookup cda = some ⟨ccl, cdd, .fields vs, ccs⟩ ∧ vs[2]? = some (.str file tf) ∧ ((P.main.file : Str) == file) = true ∧ K.lookup cc = some ⟨cl, cld, .cell (some (.ref C)), csl⟩
/-- what __init__ leaves of a fresh exception at x -/
structure InitEnd (h h' : Heap) (x C dx : Addr) (v u : Value) : Prop where
  keep : ∀ b o, b ≠ x → h.get? b = some o → h'.get? b = some o
  obj : ∃ t1 : Addr, h'.get? x = some { cls := .ref C, dict := some dx, data := .fields #[.ref t1, .none, .none, .none, .bool false, .none] }
  dbig : h.objs.size ≤ dx
  dne : dx ≠ x
  ns : h'.Ns1 dx (fun y => if y = "at" then some u else if y = "text" then some v else none)
theorem kept_but {K : Frag} {h h' : Heap} {x : Addr} (X : K.In h) (hx : K.lookup x = none) (k : ∀ b o, b ≠ x → h.get? b = some o → h'.get? b = some o) : K.In h' := fun a o e =>
  k a o (fun z => by rw [z, hx] at e; cases e) (X a o e)
theorem one_size (v : Value) : [v].length ≤ sizeLine := by
  rw [sizeLine_eq]
  exact (by decide : 1 ≤ 16777216)
theorem px_refs : ∀ l : List Value, refsVE l = true → PX.refsVE l = true := fun l h => by
  induction l with
  | nil => exact h
  | cons a r ih =>
    cases a <;> first | exact ih h | exact h
theorem two_size (v u : Value) : [v, u].length ≤ sizeLine := by
  rw [sizeLine_eq]
  exact (by decide : 2 ≤ 16777216)
section
variable {prog : Program} {w : World} {A : Around} {E : Value → Shared → Prop} {h : Heap} {g : Array GenState} {d : Drawn} {t : Nat} {os : OsState}
variable {nm q : Str} {C N : Addr} {bs bm : List Value} {hdct : Bool} {sn : List Str} {sub : List Value} {ab : Bool} {col : Option Bool} {dd : Option Addr} {k0 k1 k2 k3 k5 : Option Value}
/-- the bound ValueError.__init__, called -/
theorem call_bw {u e t0 : Addr} {rest : List Value} {Q : Value → Shared → Prop}
    (hC : h.get? C = some (excClassObj nm q C N bs bm hdct sn sub ab col dd k0 k1 k2 k3 k5 "ValueError.__new__")) (he : h.get? e = some (excO C t0)) (hu : h.get? u = some (kxs_mw "ValueError.__init__" e)) (hrest : rest.length ≤ sizeLine)
    (hq : ∀ h' t1, (∀ b o, b ≠ e → h.get? b = some o → h'.get? b = some o) → h'.get? e = some (excO C t1) → Q .none ⟨h', g, d, t, os⟩) :
    wpAny (model prog w) A (call (.ref u) rest) Q E ⟨h, g, d, t, os⟩ := by
  refine wpAny_call (codeAny_of_tree ?_)
  show wpAny _ A.in1 (callAny (.ref u) ⟨rest, []⟩) _ _ _
  simp only [callAny]
  refine wpAny_bind (wpAny_load hu ?_)
  simp only [kxs_mw, show (Value.type "method-wrapper" == Value.type "method" || Value.type "method-wrapper" == Value.type "builtin_function_or_method" || Value.type "method-wrapper" == Value.type "method-wrapper") = true by decide, if_true]
  refine W.KFB.if_so (by decide) ?_
  refine wpAny_bind (ESX.check_bound F.excBase_ValueError hC he rfl ?_)
  refine wpAny_bind (wpAny_pure (wpAny_pure ?_))
  refine ⟨Code.quiet_builtin _ (by decide +kernel), codeAny_builtin F.excBase_ValueError.initEntry ?_⟩
  rw [Around.under_plainId F.excBase_ValueError.init.plain _]
  wp_walk
  refine hq _ h.objs.size (fun b o hb ho => ?_) ?_
  · rw [Heap.get?_update_other _ _ (Ne.symm hb)]
    exact Heap.get?_push_of_some _ ho
  · rw [Heap.get?_update_self _ (Heap.get?_push_of_some _ he) rfl]
    rfl
end
section
variable {prog : Program} {w : World} {A : Around} {R : Result → Shared → Prop} {s : Shared} {K : Frag} {mg : Str → Option Value} {x : Str} {C fI : Addr}
theorem sup_init (T : XTxt prog K mg x C fI) {e t0 : Addr} {v u : Value} (X : K.In s.heap) (hlim : s.heap.NoLimit) (hg : s.heap.Ns mainGlobals mg) (hb : ∃ mb, s.heap.Ns builtinsNs mb ∧ ∀ y : Str, y ≠ "__name__" → mb y = bootBuiltins y)
    (hx : s.heap.get? e = some (excO C t0)) (hnx : K.lookup e = none) (hroom : A.depth < recursionLimit)
    (hq : ∀ h' tk dx, InitEnd s.heap h' e C dx v u → R (.ok (.ret .none)) { s with heap := h', toks := tk }) :
    codeAny (model prog w) A (.call (.ref fI) ⟨[.ref e, v, u], []⟩) R s := by
  obtain ⟨oc, od, doc, pm, an, cda, cc, ct, osl, qual, m, k, r1, r2, r3, p0, p1, p2, p3, p4, p5, q1, q2, q3, q4, q5, q6, q7, q8, ccl, cl, cdd, cld, ccs, csl, vs, file, tf, ho, hcd, hln, hcode, hvs, hfile, hcell⟩ := T.fn
  obtain ⟨nm, q, N, bs, bm, sn, sub, ab, col, dd, k0, k1, k2, k3, k5, hC, hbm⟩ := T.cls
  obtain ⟨mb, hb1, hb2⟩ := hb
  have hcl : clsIn K C = some { name := nm, bases := bs, mro := .ref C :: bm, ns := N, qualname := q, hasDict := true, slotNames := sn, subclasses := sub, abstract := ab, collection := col, hasDel := false } := by unfold clsIn; rw [hC] <;> rfl
  refine ks_codeAny_call_defAt (fd := ksFn "__init__" qual (iA r1 r2 r3) (iB m k p0 p1 p2 p3 p4 p5 q1 q2 q3 q4 q5 q6 q7 q8) iS .none .none doc pm an (.ref cda) ct cc) (body := iB m k p0 p1 p2 p3 p4 p5 q1 q2 q3 q4 q5 q6 q7 q8) (binds := [("self", .ref e), ("text", v), ("at", u)])
    hroom (X _ _ ho) rfl hlim (codeRec_of X hcd) rfl (BindsTo.of_eq ?_) ?_ ?_ (fun h₁ hns hk₁ => ?_) rfl rfl rfl
  · first | rfl | with_unfolding_all rfl
  · intro y hy
    have hy2 : y ∈ [(PySem.Str.ofString "self", NameKind.local), (PySem.Str.ofString "text", .local), (PySem.Str.ofString "at", .local), (PySem.Str.ofString "__class__", .free), (PySem.Str.ofString "super", .globalImplicit)] := hy
    simp only [List.mem_cons, List.not_mem_nil, or_false] at hy2
    rcases hy2 with rfl | rfl | rfl | rfl | rfl <;> intro z <;> cases z
  · intro y hy
    simp only [List.mem_cons, List.not_mem_nil, or_false] at hy
    rcases hy with rfl | rfl | rfl <;> rfl
  -- the frame: self, the field's value
  have X₁ : K.In h₁ := X.keeps hk₁
  have hx₁ := hk₁ _ _ hx
  have hC₁ := X₁ _ _ hC
  show _root_.PySem.wpAt _ _ _ (execs (iB m k p0 p1 p2 p3 p4 p5 q1 q2 q3 q4 q5 q6 q7 q8) _) _ _ _
  refine ks_wpAt_execs_cons (ks_wpAt_Expr_any (ks_wpAt_MethodCall (pl := (do return (← importBound (.Call (.Name "super" p0) [] [] p1) (callEnv
          (ksFn "__init__" qual (iA r1 r2 r3) (iB m k p0 p1 p2 p3 p4 p5 q1 q2 q3 q4 q5 q6 q7 q8) iS .none .none doc pm an (.ref cda) ct cc) s.heap.objs.size fI)).getD true)) ?_ ?he) rfl rfl)
  case he =>
    rw [eval]
    unfold methodCall methodCallPos
    simp only [hln, Bool.or_true, if_true, pure_bind]
    rfl
  refine ks_wpAt_super_base (f := fI) (cc := cda) rfl rfl (by decide +kernel) rfl (X₁ _ _ ho) rfl rfl rfl (X₁ _ _ hcode) rfl hvs hfile T.htop ?_
  refine ks_loadName_global rfl rfl (loadGlobal_builtin (hg.keeps hk₁) T.sup (hb1.keeps hk₁) ((hb2 _ (by decide +kernel)).trans (show bootBuiltins "super" = some (.type "super") by first | rfl | decide +kernel | kernel_rfl)) ⟨rfl, ?_⟩)
  refine wpAny_loadName_free rfl rfl rfl ⟨_, X₁ _ _ hcell, rfl⟩ ?_
  refine wpAny_loadName_local (v := .ref e) rfl rfl hns (by rfl) ?_
  refine ks_wpAny_isType_cls hC₁ rfl ⟨rfl, ?_⟩
  refine ks_wpAny_call_super hC₁ rfl hx₁ rfl (fun c z => nomatch z) (looks_mroIn X₁ T.mro) (fun h₂ e₂ k₂ => ?_)
  have X₂ : K.In h₂ := X₁.keeps k₂
  have hx₂ := k₂ _ _ hx₁
  have hC₂ := X₂ _ _ hC
  have I₂ : InstAt h₂ e (excO C t0) C none := ⟨hx₂, rfl, rfl, trivial⟩
  have hI : Looks (model prog w) h₂ (isInstance (.ref e) (.type "ValueError")) true := I₂.type.andThen (looks_subIn X₂ T.veC)
  have hsi : alongIn K "__init__" (((Value.ref C :: bm).dropWhile (· != .ref C)).drop 1) = some (some (.builtin "ValueError.__init__")) := by
    have z := T.sIn
    unfold ks_superIn at z
    rw [hcl] at z
    exact z
  have hmro : Looks (model prog w) h₂ (mroOf (.ref C)) (Value.ref C :: bm) := fun A' Q' E' s' k' q' => wpAny_bind ((looks_clsIn X₂ hcl) A' _ E' s' k' (wpAny_pure q'))
  refine kxs_getMethod kxs_ValueError e₂ (looks_opaque X₂ T.opq) hmro rfl X₂ hsi hI (ks_ne X₂ I₂ hcl) (by decide +kernel) ?_
  have hu : (h₂.push (kxs_mw "ValueError.__init__" e)).get? h₂.objs.size = some (kxs_mw "ValueError.__init__" e) := by heap_get
  have k₃ : ∀ b o, h₂.get? b = some o → (h₂.push (kxs_mw "ValueError.__init__" e)).get? b = some o := fun b o z => Heap.get?_push_of_some _ z
  refine kxs_callWith (i := "ValueError.__init__") (x := e) (by rfl) ?_
  refine evalArgs_plain (spliced_cons ?_)
  show wpAny _ _ (eval (.Constant (.str m) k p3) _) _ _ _
  refine Constant_str (spliced_nil ⟨hu, ?_⟩)
  refine call_bw (k₃ _ _ hC₂) (k₃ _ _ hx₂) hu (one_size _) (fun h₄ t4 k₄ hx₄ => ?_)
  have k₅ : ∀ b o, b ≠ e → s.heap.get? b = some o → h₄.get? b = some o := fun b o z y => k₄ b o z (k₃ _ _ (k₂ _ _ (hk₁ _ _ y)))
  have X₄ : K.In h₄ := kept_but (X₂.keeps k₃) hnx k₄
  have hLe : s.heap.objs.size ≠ e := Nat.ne_of_gt (Heap.lt_size hx)
  have hns₄ : h₄.Ns s.heap.objs.size (fun y => List.lookup y ([(("self" : Str), Value.ref e), (("text" : Str), v), (("at" : Str), u)] : List (Str × Value)).reverse) := by
    obtain ⟨oL, es, ep, hL, r⟩ := hns
    exact ⟨oL, es, ep, k₄ _ _ hLe (k₃ _ _ (k₂ _ _ hL)), r⟩
  show wpAt _ _ _ (execs [.Assign [.Attribute (.Name "self" q1) "text" q2] (.Name "text" q3) q4, .Assign [.Attribute (.Name "self" q5) "at" q6] (.Name "at" q7) q8] _) _ _ _
  refine wpAt_of_wpAny (wpAny_execs_cons (plainObj_wpAny_Assign_Attribute ?_))
  refine ESX.ldL (v := v) hns₄ (by rfl) (ESX.ldL (v := .ref e) hns₄ (by rfl) ?_)
  refine set_plain X₄ (ox := excO C t4) (od := none) ⟨hx₄, rfl, rfl, trivial⟩ T.sa ?_
  refine exc_osa X₄ hx₄ hcl (show refsVE (.ref C :: bm) = true from hbm) rfl T.noN (fun h₆ tk₆ dx k₆ dn dne hx₆ hn₆ => ?_)
  have X₆ : K.In h₆ := kept_but X₄ hnx k₆
  have hns₆ : h₆.Ns s.heap.objs.size (fun y => List.lookup y ([(("self" : Str), Value.ref e), (("text" : Str), v), (("at" : Str), u)] : List (Str × Value)).reverse) := by
    obtain ⟨oL, es, ep, hL, r⟩ := hns₄
    exact ⟨oL, es, ep, k₆ _ _ hLe hL, r⟩
  have z : s.heap.objs.size < h₄.objs.size := hns₄.lt
  have dbig : s.heap.objs.size ≤ dx := Nat.le_of_lt (Nat.lt_of_lt_of_le z dn)
  refine wpAny_execs_cons (plainObj_wpAny_Assign_Attribute ?_)
  refine ESX.ldL (v := u) hns₆ (by rfl) (ESX.ldL (v := .ref e) hns₆ (by rfl) ?_)
  obtain ⟨oD, esD, epD, hoD, hdD, hcD⟩ := hn₆.count (Within.cons "text" v Within.nil)
  refine set_plain X₆ (od := some oD) ⟨hx₆, rfl, rfl, hoD⟩ T.sa ?_
  refine PX.osa_old X₆ hx₆ hn₆ (Within.cons "text" v Within.nil) (by decide) hcl (px_refs (.ref C :: bm) hbm) rfl T.noM (fun h₇ tk₇ k₇ hn₇ => ?_)
  refine wpAny_execs_nil (hq h₇ tk₇ dx ⟨fun b o hb y => ?_, ⟨t4, ?_⟩, dbig, dne, hn₇⟩)
  · exact k₇ b o (Nat.ne_of_lt (Nat.lt_of_lt_of_le (Heap.lt_size y) dbig)) (k₆ b o hb (k₅ b o hb y))
  · exact k₇ _ _ (Ne.symm dne) hx₆
/-- a made exception -/
structure OwnMade (h h' : Heap) (e C d : Addr) (v u : Value) : Prop where
  keep : ∀ b o, h.get? b = some o → h'.get? b = some o
  new : h.objs.size ≤ e
  obj : ∃ t1 : Addr, h'.get? e = some { cls := .ref C, dict := some d, data := .fields #[.ref t1, .none, .none, .none, .bool false, .none] }
  dbig : h.objs.size ≤ d
  dne : d ≠ e
  ns : h'.Ns1 d (fun y => if y = "at" then some u else if y = "text" then some v else none)
theorem sup_made (T : XTxt prog K mg x C fI) {v u : Value} (X : K.In s.heap) (hlim : s.heap.NoLimit) (hg : s.heap.Ns mainGlobals mg) (hb : ∃ mb, s.heap.Ns builtinsNs mb ∧ ∀ y : Str, y ≠ "__name__" → mb y = bootBuiltins y) (hroom : A.depth + 1 < recursionLimit)
    (hq : ∀ h' tk e d, OwnMade s.heap h' e C d v u → R (.ok (.ret (.ref e))) { s with heap := h', toks := tk }) :
    codeAny (model prog w) A (.call (.ref C) ⟨[v, u], []⟩) R s := by
  obtain ⟨nm, q, N, bs, bm, sn, sub, ab, col, dd, k0, k1, k2, k3, k5, hC, hbm⟩ := T.cls
  obtain ⟨mb, hb1, hb2⟩ := hb
  obtain ⟨hp, g, dr, tk, os⟩ := s
  have k : ∀ b o, hp.get? b = some o → ((hp.push (kdv_tup [v, u])).push (excO C hp.objs.size)).get? b = some o := fun b o e => Heap.get?_push_of_some _ (Heap.get?_push_of_some _ e)
  have hget : ((hp.push (kdv_tup [v, u])).push (excO C hp.objs.size)).get? (hp.objs.size + 1) = some (excO C hp.objs.size) := by heap_get
  have hnx : K.lookup (hp.objs.size + 1) = none := by
    cases e : K.lookup (hp.objs.size + 1) with
    | none => rfl
    | some o =>
      have z : hp.get? (hp.objs.size + 1) = some o := X _ _ e
      exact absurd (Nat.lt_of_succ_lt (Heap.lt_size z)) (Nat.lt_irrefl _)
  refine call_own F.excBase_ValueError (fun X => refsVE_contains X bm hbm) (X _ _ hC) (looks_findIn X T.iC) (fun self => bind_fn X self T.tC) (two_size v u) ?_
  refine sup_init (s := ⟨(hp.push (kdv_tup [v, u])).push (excO C hp.objs.size), g, dr, tk, os⟩) T (X.keeps k) (hlim.keeps k) (hg.keeps k) ⟨mb, hb1.keeps k, hb2⟩ hget hnx ?_ fun h' tk' dx M => ?_
  · show A.depth + 1 < recursionLimit
    exact hroom
  · obtain ⟨k', hx, dn, dne, hns⟩ := M
    have old : ∀ b o, hp.get? b = some o → h'.get? b = some o := fun b o e => k' b o (Nat.ne_of_lt (Nat.lt_succ_of_lt (Heap.lt_size e))) (k b o e)
    have z : hp.objs.size + 1 + 1 ≤ dx := by
      first
        | (simpa only [Heap.size_push] using dn)
        | exact dn
        | (have q := dn; rw [Heap.size_push, Heap.size_push] at q; exact q)
    exact ⟨rfl, hq h' tk' (hp.objs.size + 1) dx ⟨old, Nat.le_succ _, hx, Nat.le_trans (Nat.le_trans (Nat.le_succ _) (Nat.le_succ _)) z, dne, hns⟩⟩
end
end SupY_text_at
end PySem

set_option Elab.async false
set_option linter.all false
set_option maxRecDepth 100000
set_option maxHeartbeats 2000000

namespace L2
open PySem PySem.Spec PyProof.Rows
theorem relO_two {f g : Str} {v u : V} {v' u' : Value} (ne : g ≠ f) (r : RelV v v') (q : RelV u u') (y : Str) : RelO (List.lookup y [(f, v), (g, u)]) (if y = g then some u' else if y = f then some v' else none) := by
  by_cases hg : y = g
  · subst hg
    rw [if_pos rfl]
    have e1 : (y == f) = false := by simpa using ne
    have z : List.lookup y [(f, v), (y, u)] = some u := by simp [List.lookup, e1]
    rw [z]
    exact q
  · rw [if_neg hg]
    have e2 : (y == g) = false := by simpa using hg
    by_cases hf : y = f
    · subst hf
      rw [if_pos rfl]
      have z : List.lookup y [(y, v), (g, u)] = some v := by simp [List.lookup]
      rw [z]
      exact r
    · rw [if_neg hf]
      have e1 : (y == f) = false := by simpa using hf
      have z : List.lookup y [(f, v), (g, u)] = none := by simp [List.lookup, e1, e2]
      rw [z]
      trivial
/-- C(e, e'), an exception that is made -/
def tMkX2 (C : Addr) (f g : Str) (ta : TA) : St → Hp → XK → Prop := fun σ H Q => ta σ H fun vs H1 => ∃ v u, vs = [v, u] ∧ ∀ d, H1 d = none → Q (.ref C) (some d) (upd H1 d (.xd [(f, v), (g, u)]))
/-- C(e, e') as a value: the exception at a, its dict at d -/
def tExV2 (C : Addr) (f g : Str) (ta : TA) : TE := fun σ H Q => ta σ H fun vs H1 => ∃ v u, vs = [v, u] ∧ ∀ a d, H1 a = none → H1 d = none → d ≠ a → Q (.ref a) (upd (upd H1 d (.xd [(f, v), (g, u)])) a (exo a C (some d)))
end L2

namespace L2
namespace Supy_text_at
open PySem PySem.Spec PyProof.Rows PySem.SupY_text_at
section
variable {X : Cx} {C fI : Addr} {x : Str}
theorem gblt {pins : List (Addr × Obj)} {σ : St} {H : Hp} {s : Shared} (I : Inv X pins σ H s) : ∃ mb, s.heap.Ns builtinsNs mb ∧ ∀ y : Str, y ≠ "__name__" → mb y = bootBuiltins y := by
  obtain ⟨mb, h1, h2⟩ := I.mod.blt
  exact ⟨mb, h1.keeps I.bk, h2⟩
theorem pmk_sup {a b : Expr} {ta : TA} {p pos : Pos} {k : Nat} (T : XTxt X.prog X.K X.mg x C fI) (hr : Room k X.A) (ha : PA X [a, b] ta) (hg : Gl X x := by rfl)
    (he : starEach (a :: [b]) X.env = (false, eval a X.env) :: starEach [b] X.env := by rfl) (hpl : (backTo pos (starEach [b] X.env)).any (·.1) = false := by rfl) :
    PMk X (.Call (.Name x p) [a, b] [] pos) (tMkX2 C "text" "at" ta) := by
  intro pins s σ H Q I h
  refine wpAny_Call_Name_kw (ld_glob I hg T.gC ?_ T.nm)
  refine PySem.W.callWith_K (h₀ := X.base) I.ok.mod.kin T.kC (thn (ha.run pos pins s σ H _ I h) fun us s1 hh => ?_) he hpl
  obtain ⟨vs, H1, I1, r1, v, u, ev, q1⟩ := hh
  subst ev
  refine ⟨I1.kIn, ?_⟩
  cases r1 with
  | cons rv rn =>
    rename_i v' us'
    cases rn with
    | cons ru rn =>
    rename_i u' us''
    cases rn
    show wpAny _ _ (call (.ref C) [v', u']) _ _ _
    have hlim := I1.nolimit
    have hgl := I1.mod.glob.keeps I1.bk
    have hbl := gblt I1
    obtain ⟨hp, g, dr, tk, os⟩ := s1
    refine wpAny_call (sup_made T I1.kIn hlim hgl hbl (by have := hr.dp; omega) fun h' tk' e d M => ?_)
    show MkP X pins σ Q (.ref e) ⟨h', g, dr, tk', os⟩
    obtain ⟨t1, hoe⟩ := M.obj
    have hns := M.ns
    obtain ⟨G', g1, g2⟩ := restrict h' fun b => decide (b ≠ e)
    have gk : ∀ b, b ≠ e → G'.get? b = h'.get? b := fun b hb => g1 b (decide_eq_true hb)
    have ge : G'.get? e = none := g2 e (by simp)
    have old : ∀ b o, hp.get? b = some o → G'.get? b = some o := fun b o q => (gk b (Nat.ne_of_lt (Nat.lt_of_lt_of_le (Heap.lt_size q) M.new))).trans (M.keep b o q)
    have ob : ObjOk X.prog X.w (upd H1 d (.xd [(("text" : Str), v), (("at" : Str), u)])) G' d (.xd [(("text" : Str), v), (("at" : Str), u)]) :=
      ⟨_, hns.at (fun o q => (gk d M.dne).trans q), fun f => relO_two (by decide +kernel) rv ru f⟩
    have J : Inv X pins σ (upd H1 d (.xd [(("text" : Str), v), (("at" : Str), u)])) ⟨G', g, dr, tk', os⟩ := I1.laid (t' := tk') old M.dbig ob
    refine ⟨e, _, _, ⟨G', g, dr, tk', os⟩, _, .ref C, some d, rfl, J, fun b o q => ?_, ge, hoe, ⟨rfl, rfl⟩, rfl, rfl, ?_, rfl, I1.bare, raises_own T.exC T.tyC, q1 d (I1.hok.fresh M.dbig)⟩
    · by_cases hb : b = e
      · have q' : G'.get? b = some o := q
        rw [hb, ge] at q'; cases q'
      · exact (gk b hb).symm.trans q
    · rw [upd_ne (Ne.symm M.dne)]
      exact I1.hok.fresh M.new
/-- raise C(e) -/
theorem ps_raiseSup {a b : Expr} {ta : TA} {W : WX} {p pos pos2 : Pos} {k : Nat} (hc : X.calm = true) (T : XTxt X.prog X.K X.mg x C fI) (hr : Room k X.A) (tk : Takes X W) (ha : PA X [a, b] ta) (hg : Gl X x := by rfl)
    (he : starEach (a :: [b]) X.env = (false, eval a X.env) :: starEach [b] X.env := by rfl) (hpl : (backTo pos (starEach [b] X.env)).any (·.1) = false := by rfl) :
    PS X (.Raise (some (.Call (.Name x p) [a, b] [] pos)) none pos2) (fun _ σ H => tMkX2 C "text" "at" ta σ H fun cls d H' => W cls d σ H') := ps_raise hc tk (pmk_sup T hr ha hg he hpl)
theorem pmk_supN {a b : Expr} {ta : TA} {p pos : Pos} {k : Nat} (T : XTxt X.prog X.K X.mg x C fI) (hr : Room k X.A) (ha : PA X [a, b] ta) (hg : Gl X x := by rfl)
    (he : starEach (a :: [b]) X.env = (false, eval a X.env) :: starEach [b] X.env := by rfl) (hpl : (backTo pos (starEach [b] X.env)).any (·.1) = false := by rfl) :
    L2N.PMk X (.Call (.Name x p) [a, b] [] pos) (tMkX2 C "text" "at" ta) := by
  intro pins s σ H Q I h
  refine wpAny_Call_Name_kw (ld_glob I hg T.gC ?_ T.nm)
  refine PySem.W.callWith_K (h₀ := X.base) I.ok.mod.kin T.kC (thn (ha.run pos pins s σ H _ I h) fun us s1 hh => ?_) he hpl
  obtain ⟨vs, H1, I1, r1, v, u, ev, q1⟩ := hh
  subst ev
  refine ⟨I1.kIn, ?_⟩
  cases r1 with
  | cons rv rn =>
    rename_i v' us'
    cases rn with
    | cons ru rn =>
    rename_i u' us''
    cases rn
    show wpAny _ _ (call (.ref C) [v', u']) _ _ _
    have hlim := I1.nolimit
    have hgl := I1.mod.glob.keeps I1.bk
    have hbl := gblt I1
    obtain ⟨hp, g, dr, tk, os⟩ := s1
    refine wpAny_call (sup_made T I1.kIn hlim hgl hbl (by have := hr.dp; omega) fun h' tk' e d M => ?_)
    show L2N.MkP X pins σ Q (.ref e) ⟨h', g, dr, tk', os⟩
    obtain ⟨t1, hoe⟩ := M.obj
    have hns := M.ns
    obtain ⟨G', g1, g2⟩ := restrict h' fun b => decide (b ≠ e)
    have gk : ∀ b, b ≠ e → G'.get? b = h'.get? b := fun b hb => g1 b (decide_eq_true hb)
    have ge : G'.get? e = none := g2 e (by simp)
    have old : ∀ b o, hp.get? b = some o → G'.get? b = some o := fun b o q => (gk b (Nat.ne_of_lt (Nat.lt_of_lt_of_le (Heap.lt_size q) M.new))).trans (M.keep b o q)
    have ob : ObjOk X.prog X.w (upd H1 d (.xd [(("text" : Str), v), (("at" : Str), u)])) G' d (.xd [(("text" : Str), v), (("at" : Str), u)]) :=
      ⟨_, hns.at (fun o q => (gk d M.dne).trans q), fun f => relO_two (by decide +kernel) rv ru f⟩
    have J : Inv X pins σ (upd H1 d (.xd [(("text" : Str), v), (("at" : Str), u)])) ⟨G', g, dr, tk', os⟩ := I1.laid (t' := tk') old M.dbig ob
    refine ⟨e, _, _, ⟨G', g, dr, tk', os⟩, _, .ref C, some d, rfl, J, fun b o q => ?_, ge, hoe, ⟨rfl, rfl, fun vs e => by cases e; rfl⟩, rfl, rfl, ?_, rfl, I1.bare, raises_own T.exC T.tyC, q1 d (I1.hok.fresh M.dbig)⟩
    · by_cases hb : b = e
      · have q' : G'.get? b = some o := q
        rw [hb, ge] at q'; cases q'
      · exact (gk b hb).symm.trans q
    · rw [upd_ne (Ne.symm M.dne)]
      exact I1.hok.fresh M.new
/-- raise C(e) -/
theorem ps_raiseSupN {a b : Expr} {ta : TA} {W : WX} {p pos pos2 : Pos} {k : Nat} (hc : X.calm = true) (T : XTxt X.prog X.K X.mg x C fI) (hr : Room k X.A) (tk : L2N.Takes X W) (ha : PA X [a, b] ta) (hg : Gl X x := by rfl)
    (he : starEach (a :: [b]) X.env = (false, eval a X.env) :: starEach [b] X.env := by rfl) (hpl : (backTo pos (starEach [b] X.env)).any (·.1) = false := by rfl) :
    PS X (.Raise (some (.Call (.Name x p) [a, b] [] pos)) none pos2) (fun _ σ H => tMkX2 C "text" "at" ta σ H fun cls d H' => W cls d σ H')   := L2N.ps_raise hc tk (pmk_supN T hr ha hg he hpl)
/-- C(e) as a value -/
theorem pe_supV {a b : Expr} {ta : TA} {p pos : Pos} {k : Nat} (T : XTxt X.prog X.K X.mg x C fI) (hr : Room k X.A) (ha : PA X [a, b] ta) (hg : Gl X x := by rfl)
    (he : starEach (a :: [b]) X.env = (false, eval a X.env) :: starEach [b] X.env := by rfl) (hpl : (backTo pos (starEach [b] X.env)).any (·.1) = false := by rfl) :
    PE X (.Call (.Name x p) [a, b] [] pos) (tExV2 C "text" "at" ta) := by
  refine ⟨fun pins s σ H Q I h => ?_⟩
  refine wpAny_Call_Name_kw (ld_glob I hg T.gC ?_ T.nm)
  refine PySem.W.callWith_K (h₀ := X.base) I.ok.mod.kin T.kC (thn (ha.run pos pins s σ H _ I h) fun us s1 hh => ?_) he hpl
  obtain ⟨vs, H1, I1, r1, v, u, ev, q1⟩ := hh
  subst ev
  refine ⟨I1.kIn, ?_⟩
  cases r1 with
  | cons rv rn =>
    rename_i v' us'
    cases rn with
    | cons ru rn =>
    rename_i u' us''
    cases rn
    show wpAny _ _ (call (.ref C) [v', u']) _ _ _
    have hlim := I1.nolimit
    have hgl := I1.mod.glob.keeps I1.bk
    have hbl := gblt I1
    obtain ⟨hp, g, dr, tk, os⟩ := s1
    refine wpAny_call (sup_made T I1.kIn hlim hgl hbl (by have := hr.dp; omega) fun h' tk' e d M => ?_)
    obtain ⟨t1, hoe⟩ := M.obj
    have hne : H1 e = none := I1.hok.fresh M.new
    have hnd : H1 d = none := I1.hok.fresh M.dbig
    have nde : ∀ {b : Addr} {o : Obj}, hp.get? b = some o → b ≠ e := fun {b o} z => Nat.ne_of_lt (Nat.lt_of_lt_of_le (Heap.lt_size z) M.new)
    have ndd : ∀ {b : Addr} {o : Obj}, hp.get? b = some o → b ≠ d := fun {b o} z => Nat.ne_of_lt (Nat.lt_of_lt_of_le (Heap.lt_size z) M.dbig)
    have two : ∀ {b : Addr} {o : HO}, H1 b = some o → upd (upd H1 d (.xd [(("text" : Str), v), (("at" : Str), u)])) e (exo e C (some d)) b = some o := fun {b o} z => by
      rw [upd_ne (ne_of_none z hne), upd_ne (ne_of_none z hnd)]
      exact z
    have U : Un X.fs [] H1 (upd (upd H1 d (.xd [(("text" : Str), v), (("at" : Str), u)])) e (exo e C (some d))) hp h' := {
      keep := fun b u z _ _ _ => M.keep b u z
      slot := fun b u z _ _ _ => ⟨u.slots, M.keep b u z⟩
      free := fun b u z n _ => by rw [upd_ne (nde z), upd_ne (ndd z)]; exact n
      there := fun b u z _ => ⟨u, M.keep b u z⟩
      tups := fun b xs z => two z
      frzs := fun b u xs z => two z
      tbls := fun b ps z => ⟨#[], by rw [two z]; simp⟩ }
    have ok2 : HOk X.prog X.w (upd (upd H1 d (.xd [(("text" : Str), v), (("at" : Str), u)])) e (exo e C (some d))) h' := fun b o z => by
      by_cases hb : b = e
      · subst hb
        rw [upd_same] at z
        cases z
        exact exo_ok hoe
      · rw [upd_ne hb] at z
        by_cases hd : b = d
        · subst hd
          rw [upd_same] at z
          cases z
          exact ⟨_, M.ns, fun f => relO_two (by decide +kernel) rv ru f⟩
        · rw [upd_ne hd] at z
          exact (I1.hok b o z).stay (fun c u _ q => M.keep c u q) (fun c q => two q) fun c xs q => two q
    have J2 : Inv X pins σ (upd (upd H1 d (.xd [(("text" : Str), v), (("at" : Str), u)])) e (exo e C (some d))) ⟨h', g, dr, tk', os⟩ := I1.un (t' := tk') U ok2
    exact ⟨.ref e, _, J2, rfl, q1 e d hne hnd M.dne⟩
end
end Supy_text_at
end L2

set_option Elab.async false
set_option linter.all false
set_option maxRecDepth 100000
set_option maxHeartbeats 4000000
namespace PySem.W
open PySem PySem.Spec PySem.Calls PyProof.Rows
section
variable {prog : Program} {w : World} {A : Around} {E : Value → Shared → Prop} {s : Shared} {K : Frag} {x D : Addr} {ox : Obj}
theorem findObj_dX {C : Addr} {odx : Option Obj} {name : Str} {a g : Value} (hc : (clsIn K C).isSome = true) (ha : findIn K (.ref C) name = some (some a)) (hg : specialIn K a "__get__" = some (some g)) (ht : takesIn K a = some true) : findObj K C odx name = some (.bind g a) := by
  obtain ⟨cd, hc⟩ := Option.isSome_iff_exists.mp hc
  unfold findObj
  rw [hc, Option.bind_some, ha, Option.bind_some]
  simp [hg, ht]
theorem kin_classX {odx : Option Obj} {Q : Option Value → Shared → Prop} (hga : findIn K (.ref D) "__getattribute__" = some (some (.builtin "BaseException.__getattribute__"))) (hgt : findIn K (.ref D) "__getattr__" = some none) (hsub : subIn K (.ref D) (.type "BaseException") = some true)
    (hdct : hasDictIn K D = true) (ha : findIn K (.ref D) "__class__" = some (some (.builtin "object.__class__")))
    (hn : specialIn K (.builtin "object.__class__") "__get__" = some (some (.builtin "getset_descriptor.__get__"))) (htk : takesIn K (.builtin "object.__class__") = some true) (hm : mroIn K D (.type "object") = some true)
    (X : K.In s.heap) (I : InstAt s.heap x ox D odx) (h : Q (some (.ref D)) { s with toks := s.toks + 1 }) : wpAny (model prog w) A (getAttr? (.ref x) "__class__") Q E s := by
  have hf : findObj K D odx "__class__" = some (.bind (.builtin "getset_descriptor.__get__") (.builtin "object.__class__")) := findObj_dX (by obtain ⟨cd, hc, _⟩ := any_some hdct; rw [hc]; rfl) ha hn htk
  obtain ⟨hp, g, d, t, os⟩ := s
  have L0 := I.type (M := model prog w)
  have L1 := looks_findIn (M := model prog w) X hga
  have L2 := looks_findIn (M := model prog w) X hgt
  have L3 := looks_find (M := model prog w) X I hf
  have sub : Looks (model prog w) hp (isInstance (.ref x) (.type "BaseException")) true := L0.andThen (looks_subIn X hsub)
  have hx0 : (false && onTheHeap (Value.builtin "BaseException.__getattribute__")) = false := rfl
  have hx2 : (Value.builtin "BaseException.__getattribute__" == Value.builtin "object.__getattribute__") = false := by decide +kernel
  have hx1 : (onTheHeap (Value.ref D) && Value.builtin "BaseException.__getattribute__" == Value.builtin "object.__getattribute__") = false := by rw [hx2]; rfl
  unfold getAttr? getAttrBy? getAttrBy
  refine wpAny_bind (wpAny_mkText (wpAny_bind (wpAny_attempt (wpAny_holding (wpAny_bind (L0.at (wpAny_bind (L1.at ?_))))))))
  show wpAny _ _ (if (onTheHeap (Value.ref D) && Value.builtin "BaseException.__getattribute__" == Value.builtin "object.__getattribute__") = true then _ else _) _ _ _
  rw [hx1, if_neg Bool.false_ne_true]
  unfold getAttrByItsOwn hookBefore
  refine wpAny_bind ?_
  rw [if_pos (show onTheHeap (Value.ref D) = true from rfl)]
  refine L2.at ?_
  refine wpAny_bind (wpAny_attempt (wpAny_holding ?_))
  unfold callGetattribute
  rw [hx0, if_neg Bool.false_ne_true]
  unfold boundAndCalled
  rw [PySem.F.excAttr_ValueError.ga.bind (.ref x)]
  refine wpAny_bind (wpAny_pure ?_)
  show wpAny _ _ (call (.builtin "BaseException.__getattribute__") [.ref x, .str "__class__" t]) _ _ _
  refine wpAny_call (codeAny_call_builtin PySem.F.excAttr_ValueError.ga.plain PySem.F.entry_bexc_ga ?_)
  refine @check_slot (model prog w) _ _ ⟨hp, g, d, t + 1, os⟩ "BaseException.__getattribute__" "BaseException" "__getattribute__" (.ref x) [.str "__class__" t] [] _ (by decide +kernel) (by decide +kernel) sub (PySem.F.args_bexc_ga (.ref x) (.str "__class__" t)) ?_
  unfold Builtin.«object.__getattribute__»
  refine wpAny_bind (wpAny_of_eq (a := ((Value.ref x : Value), [Value.str "__class__" t])) (by first | rfl | (simp only [slotArgs]; rfl)) ?_)
  refine wpAny_bind (wpAny_pure (wpAny_bind (L0.at (wpAny_bind (L3.at ?_)))))
  show wpAny _ _ (holding [Value.builtin "object.__class__"] (call (.builtin "getset_descriptor.__get__") [.builtin "object.__class__", .ref x, .ref D]) >>= ret) _ _ _
  refine wpAny_bind (wpAny_holding (wpAny_call (class_get (s := ⟨hp, g, d, t + 1, os⟩) (ox := ox) (od := odx) X I hm ?_)))
  refine wpAny_pure ?_
  show wpAny _ _ (handedOut (.ref D)) _ _ _
  rw [handedOut_of (v := .ref D) rfl]
  first
    | exact wpAny_pure (wpAny_pure h)
    | exact wpAny_pure h
    | exact wpAny_pure (wpAny_bind (wpAny_pure (wpAny_pure h)))
theorem kitx_excX {odx : Option Obj} (hga : findIn K (.ref D) "__getattribute__" = some (some (.builtin "BaseException.__getattribute__"))) (hgt : findIn K (.ref D) "__getattr__" = some none) (hsub : subIn K (.ref D) (.type "BaseException") = some true) (hdct : hasDictIn K D = true) (ha : findIn K (.ref D) "__class__" = some (some (.builtin "object.__class__")))
    (hn : specialIn K (.builtin "object.__class__") "__get__" = some (some (.builtin "getset_descriptor.__get__"))) (htk : takesIn K (.builtin "object.__class__") = some true) (hm : mroIn K D (.type "object") = some true) :
    KitX K (.ref x) (.ref D) (fun h => InstAt h x ox D odx) where
  ty := fun _ _ _ I => I.type
  it := fun _ _ X _ => by
    obtain ⟨cdD, hcD, _⟩ := any_some hdct
    unfold clsIn at hcD
    split at hcD
    · rename_i c' d' cd' sl' ho
      intro A' Q' E' s' k q
      unfold isType loadHead
      exact wpAny_bind (wpAny_loadPart (k _ _ (X _ _ ho)) (wpAny_pure q))
    · cases hcD
  ne := fun h tp dd its n sl X htp => by
    obtain ⟨cdD, hcD, _⟩ := any_some hdct
    refine Bool.eq_false_iff.mpr fun q => ?_
    have e : D = tp := Value.ref.inj (beq_iff_eq.mp q)
    subst e
    unfold clsIn at hcD
    split at hcD
    · rename_i c' d' cd' sl' ho
      have z := (X _ _ ho).symm.trans htp
      cases z
    · cases hcD
  ca := fun X I k => kin_classX hga hgt hsub hdct ha hn htk hm X I k
end
end PySem.W
namespace L2
open PySem PySem.Spec PyProof.Rows
/-- an exception object that stands, with its dict -/
def ExT (K : PySem.W.Frag) (H : Hp) (x : V) (t : Value) : Prop := ∃ (a C d : Addr) (fs : List (Str × V)), x = .ref a ∧ t = .ref C ∧ H a = some (exo a C (some d)) ∧ H d = some (.xd fs) ∧ ExcC K C
def KX (K : PySem.W.Frag) (H : Hp) (x : V) (t : Value) : Prop := TyX K H x t ∨ ExT K H x t
def rIsiV (K : PySem.W.Frag) : List V → Hp → VK → Prop := fun xs H Q => ∃ (x c : V) (t u : Value) (b : Bool), xs = [x, c] ∧ ClsV c u ∧ KX K H x t ∧ PySem.W.kitOne K t u = some b ∧ Q (.bl b) H
section
variable {X : Cx}
theorem call_isiV : CallR X (.builtin "isinstance") (rIsiV X.K) := by
  intro pins s σ H xs us Q I r h
  obtain ⟨x, c, t, u, b, rfl, k, ty, e, q⟩ := h
  obtain ⟨u1, u2, rfl, r1, r2⟩ := vals2 r
  have e2 := k.eq r2
  subst e2
  rcases ty with ty | ⟨a, C, d, fs, rfl, rfl, ha, hd, EC⟩
  · obtain ⟨P, Z, p, hx⟩ := kit_of I r1 ty
    exact PySem.W.kia_one Z I.kIn p e hx fun tk => ⟨.bl b, H, I.tok tk, rfl, q⟩
  · cases (show u1 = Value.ref a from r1)
    obtain ⟨t1, ho⟩ := exo_at I.hok ha
    obtain ⟨mA, ⟨od, es, ep, hod, _⟩, _⟩ := (show ObjOk X.prog X.w H s.heap d (.xd fs) from I.hok d _ hd)
    have J : PySem.W.InstAt s.heap a _ C (some od) := ⟨ho, rfl, rfl, hod⟩
    exact PySem.W.kia_one (PySem.W.kitx_excX EC.hg EC.hk EC.hs EC.hd EC.ha EC.hn EC.ht EC.hm) I.kIn J e (fun z => nomatch z) fun tk => ⟨.bl b, H, I.tok tk, rfl, q⟩
end
end L2

set_option Elab.async false
set_option linter.all false
set_option maxRecDepth 100000
set_option maxHeartbeats 4000000
/-! isinstance of the caught error itself, of an own class with a field -/
namespace L2
open PySem PySem.Spec PyProof.Rows
def rIsED (K : PySem.W.Frag) (cls : Value) (d : Option Addr) (a : Addr) : List V → Hp → VK → Prop := fun xs H Q => ∃ (c : V) (cv : Value) (b : Bool) (D dd : Addr) (fs : List (Str × V)), xs = [.ref a, c] ∧ cls = .ref D ∧ d = some dd ∧ ExcC K D ∧ (∀ u, RelV c u → u = cv) ∧ PySem.W.kitOne K (.ref D) cv = some b ∧ H dd = some (.xd fs) ∧ Q (.bl b) H
theorem call_isED {X : Cx} {a : Addr} {cls : Value} {d : Option Addr} {oe : Obj} {pn : List (Addr × Obj)} (hz : Zc cls d oe) (hf : ∃ vs, oe.data = .fields vs) : CallR (X.suite a ((a, oe) :: pn)) (.builtin "isinstance") (rIsED X.K cls d a) := by
  intro pins s σ H xs us Q I r h
  obtain ⟨c, cv, b, D, dd, fs, rfl, rfl, rfl, C, hcv, e, hd, q⟩ := h
  cases r with
  | cons rx rr =>
    cases rr with
    | cons rt rr =>
      cases rr
      cases rx
      have ec := hcv _ rt
      subst ec
      obtain ⟨hget, _⟩ := I.pin (a, oe) (List.mem_append.mpr (.inl List.mem_cons_self))
      obtain ⟨vs, hv⟩ := hf
      have hx : ObjOk X.prog X.w H s.heap dd (.xd fs) := I.hok dd _ hd
      obtain ⟨mA, ⟨od, es, ep, hod, _⟩, _⟩ := hx
      have J : PySem.W.InstAt s.heap a oe D (some od) := by
        obtain ⟨oc, od', oda, osl⟩ := oe
        obtain ⟨h1, h2⟩ := hz
        dsimp only at h1 h2 hv
        subst h1 h2 hv
        exact ⟨hget, rfl, rfl, hod⟩
      exact PySem.W.kia_one (PySem.W.kitx_excX C.hg C.hk C.hs C.hd C.ha C.hn C.ht C.hm) I.kIn J e (fun z => nomatch z) fun tk => ⟨.bl b, H, I.kept (t' := tk) fun _ _ z => z, rfl, q⟩
end L2
namespace Sx
open PySem L2
theorem kit_own {K : PySem.W.Frag} {C D : Addr} (hd : PySem.W.hasDictIn K C = true) (ht : PySem.W.typeIn K (.ref C) = some (.type "type")) (h : PySem.W.subIn K (.ref D) (.ref C) = some true) : PySem.W.kitOne K (.ref D) (.ref C) = some true := by
  obtain ⟨cd, hc, _⟩ := PySem.W.any_some hd
  have e2 : ((PySem.W.clsIn K C).isSome && PySem.W.typeIn K (.ref C) == some (.type "type")) = true := by rw [hc, ht] <;> rfl
  unfold PySem.W.kitOne
  split
  · rfl
  · show (if ((PySem.W.clsIn K C).isSome && PySem.W.typeIn K (.ref C) == some (.type "type")) = true then PySem.W.subIn K (.ref D) (.ref C) else none) = some true
    rw [if_pos e2]
    exact h
end Sx

set_option Elab.async false
set_option linter.all false
set_option maxRecDepth 100000
set_option maxHeartbeats 2000000
namespace L2
open PySem PySem.Spec PyProof.Rows
section
variable {X : Cx} {CX : CXT} {k : Nat} {f C : Addr} {fd : FuncData} {ps ks : List Str} {sp : Sp} {E : XK} {x m : Str} {p pos : Pos} {kws : List Keyword} {tk : TA} {g : List Value → List Value → List Value} {gV : List V → List V → List V}
/-- f(k = v, ..): keywords alone -/
theorem pe_kw0 (F : FnOk X.prog X.w X.K X.mg X.base CX k f fd ps sp) (hr : Room k X.A) (hg : Gl X x) (hm : X.mg x = some (.ref f)) (hk : PySem.W.keepIn X.K (.ref f) = true) (hb : KBinds X.K fd ps ks g gV) (hx : Passes CX X E)
    (hkw : PK X kws tk) (hall : (backToKw pos (keywordEach kws X.env)).all (·.1.isSome) = true := by rfl) (hks : (backToKw pos (keywordEach kws X.env)).filterMap (·.1) = ks := by rfl) (hdb : (x == ("__debug__" : Str)) = false := by decide)
    (hpl : ((backTo pos (starEach [] X.env)).any (·.1) || (backToKw pos (keywordEach kws X.env)).any (·.1.isNone)) = false := by rfl) :
    PE X (.Call (.Name x p) [] kws pos) (tCallK sp gV E tNil tk) := by
  refine ⟨fun pins s σ H Q I h => ?_⟩
  refine wpAny_Call_Name_kw (ld_glob I hg hm ?_ hdb)
  refine PySem.W.callWith_KW0 (h₀ := X.base) I.ok.mod.kin hk hall (thn (hkw.run pos pins s σ H _ I h) fun ws s2 ⟨zs, H2, I2, rz, q2⟩ => ⟨I2.kIn, ?_⟩) hpl
  rw [hks]
  exact run_fnk (us := []) (vs := []) F hr hb hx I2 .nil rz q2
end
section
variable {X : Cx} {CX : CXT} {k : Nat} {f C : Addr} {fd : FuncData} {ps ks : List Str} {sp : Sp} {E : L2.St → XK} {x m : Str} {p pos : Pos} {kws : List Keyword} {tk : TA} {g : List Value → List Value → List Value} {gV : List V → List V → List V}
def tCallKS (sp : Sp) (gV : List V → List V → List V) (E : L2.St → XK) (tk : TA) : TE := fun σ H Q => tk σ H fun zs H2 => sp (gV [] zs) H2 Q (E σ)
/-- f(k = v, ..) that may raise, the wish at the caller's slots -/
theorem pe_kwS0 (F : FnOk X.prog X.w X.K X.mg X.base CX k f fd ps sp) (hr : Room k X.A) (hg : Gl X x) (hm : X.mg x = some (.ref f)) (hk : PySem.W.keepIn X.K (.ref f) = true) (hb : KBinds X.K fd ps ks g gV) (hx : ∀ σ, PassesAt CX X σ (E σ))
    (hkw : PK X kws tk) (hall : (backToKw pos (keywordEach kws X.env)).all (·.1.isSome) = true := by rfl) (hks : (backToKw pos (keywordEach kws X.env)).filterMap (·.1) = ks := by rfl) (hdb : (x == ("__debug__" : Str)) = false := by decide)
    (hpl : ((backTo pos (starEach [] X.env)).any (·.1) || (backToKw pos (keywordEach kws X.env)).any (·.1.isNone)) = false := by rfl) :
    PE X (.Call (.Name x p) [] kws pos) (tCallKS sp gV E tk) := by
  refine ⟨fun pins s σ H Q I h => ?_⟩
  refine wpAny_Call_Name_kw (ld_glob I hg hm ?_ hdb)
  refine PySem.W.callWith_KW0 (h₀ := X.base) I.ok.mod.kin hk hall (thn (hkw.run pos pins s σ H _ I h) fun ws s2 ⟨zs, H2, I2, rz, q2⟩ => ⟨I2.kIn, ?_⟩) hpl
  rw [hks]
  have r2 := hb.rel (vs := []) (us := []) .nil rz
  have hl : (g [] ws).length = ps.length := by rw [← r2.length]; exact F.len _ _ _ _ q2
  refine wpAny_call (codeAny_mono (F.run X.A X.stack s2 H2 ⟨[], ks.zip ws⟩ (g [] ws) (gV [] zs) Q (E σ) hr I2.env0 (hb.to s2 [] ws I2.kIn hl) r2 q2) fun r s' hq => ?_)
  cases r with
  | error e => exact hx σ pins H2 s2 e s' I2 hq
  | ok fl =>
    cases fl with
    | ret u => exact I2.after hq
    | next => exact False.elim hq
    | brk => exact False.elim hq
    | cont => exact False.elim hq
end
section
variable {X : Cx}
/-- // by any divisor but nought, not too long -/
def CDivV (_ j : Int) : Prop := j ≠ 0 ∧ j.natAbs.log2 < 9000
theorem op_fdivV : OpR X (binaryOp .FloorDiv) (rI CDivV fun i j => .int (i.fdiv j)) := opI fun _ _ _ _ _ _ _ hc q => floordiv_int hc.1 q (.inl (PyProof.noPylong_of_log2 hc.2))
end
end L2
namespace L2
open PySem PySem.Spec PyProof.Rows
theorem passN {X : Cx} : Passes (L2N.CX X.prog X.w) X E0 := fun _ _ _ _ _ _ _ h => by
  obtain ⟨_, _, _, _, _, _, _, _, _, _, _, _, z⟩ := h
  exact z.elim
theorem passH {X : Cx} {σ : L2.St} {E : XK} : PassesAt CX0 X σ E := fun _ _ _ _ _ _ h => h.elim
theorem takesN0 {X : Cx} : L2N.Takes X (fun _ _ _ _ => False) := fun _ _ x => by
  obtain ⟨_, _, _, _, _, _, _, _, _, _, _, _, _, _, _, _, z⟩ := x
  exact z.elim
theorem hotS {X : Cx} {a : Addr} {oe : Obj} {cls : Value} {d : Option Addr} {pn : List (Addr × Obj)} (hz : L2N.Zn cls d oe) (hf : ∃ vs, oe.data = .fields vs) : L2H.HotC (X.suite a ((a, oe) :: pn)) := by
  obtain ⟨vs, e⟩ := hf
  exact ⟨(a, oe), ⟨rfl, vs, e, hz.2.2 vs e⟩, List.mem_cons_self⟩
theorem roomS {X : Cx} {k : Nat} {a : Addr} {pn : List (Addr × Obj)} (r : Room k X.A) : L2H.RoomH k (X.suite a pn).A := ⟨r.dp, r.un⟩
section
variable {P : Program} {w : World} {K : PySem.W.Frag} {mg : Str → Option Value} {base : Heap}
/-- a def that may raise, the exception's context none -/
theorem Fun.okN {x qual : Str} {st : Stmt} {f : Addr} {fd : FuncData} {N ps : List Str} {k : Nat} {sp : Sp} (F : Fun K x qual st f fd) (S : FnScope N ps (defScope st)) (len : ∀ vs H Q E, sp vs H Q E → vs.length = ps.length)
    (hbody : ∀ (cdv : Value) (A : Around) (outer : List Env) (s : Shared) (H : Hp) (vs : List V) (Q : VK) (E : XK), Room k (A.deeper (envOfC qual (defScope st) s.heap.objs.size f cdv)) → sp vs H Q E →
      ∃ t, PSs (cxOf (L2N.CX P w) P w K mg base N qual (defScope st) f cdv A outer s H E) (defBody st) t ∧ t { nx := fun _ H' => Q .non H', rt := Q } (start N vs) H) : FnOk P w K mg base (L2N.CX P w) (k + 1) f fd ps sp := by
  obtain ⟨oc, od, kV, doc, pm, an, cdv, ct, osl, rfl, lk, hcd⟩ := F.ex
  exact fn_of lk hcd S len fun A outer s H vs Q E hr hsp => hbody cdv A outer s H vs Q E hr hsp
/-- a def called where an exception is handled -/
theorem Fun.okH {CX : CXT} {x qual : Str} {st : Stmt} {f : Addr} {fd : FuncData} {N ps : List Str} {k : Nat} {sp : Sp} (F : Fun K x qual st f fd) (S : FnScope N ps (defScope st)) (len : ∀ vs H Q E, sp vs H Q E → vs.length = ps.length)
    (hbody : ∀ (cdv : Value) (A : Around) (outer : List Env) (s : Shared) (H : Hp) (vs : List V) (Q : VK) (E : XK) (p : Addr × Obj), L2H.RoomH k (A.deeper (envOfC qual (defScope st) s.heap.objs.size f cdv)) → sp vs H Q E →
      ∃ t, PSs (L2H.cxH CX P w K mg base N qual (defScope st) f cdv A outer s H E p) (defBody st) t ∧ t { nx := fun _ H' => Q .non H', rt := Q } (start N vs) H) : L2H.FnH P w K mg base CX (k + 1) f fd ps sp := by
  obtain ⟨oc, od, kV, doc, pm, an, cdv, ct, osl, rfl, lk, hcd⟩ := F.ex
  exact L2H.fn_ofH lk hcd S len fun A outer s H vs Q E p _ hr hsp => hbody cdv A outer s H vs Q E p hr hsp
end
end L2
namespace Sx
open PySem L2
abbrev St := L2.St
theorem Same.up {H H' : Hp} {a : Addr} {o : HO} (e : Same H H') (h : H a = some o) : H' a = some o := e _ _ h
/-- all but what stands at a is as it was -/
def Keep (a : Addr) (H H' : Hp) : Prop := ∀ b o, b ≠ a → H b = some o → H' b = some o
theorem Keep.up {c : Addr} {H H' : Hp} {a : Addr} {o : HO} (e : Keep c H H') (n : a ≠ c) (h : H a = some o) : H' a = some o := e _ _ n h
theorem Keep.refl (a : Addr) (H : Hp) : Keep a H H := fun _ _ _ h => h
theorem Keep.trans {a : Addr} {H H1 H2 : Hp} (e : Keep a H H1) (f : Keep a H1 H2) : Keep a H H2 := fun b o n h => f b o n (e b o n h)
theorem Keep.same {a : Addr} {H H1 : Hp} (e : Same H H1) : Keep a H H1 := fun b o _ h => e b o h
theorem Keep.put {a : Addr} {H H1 : Hp} {o : HO} (e : Keep a H H1) : Keep a H (upd H1 a o) := fun b o n h => by
  rw [upd_ne n]
  exact e b o n h
theorem Same.new {H : Hp} {p : Addr} {o : HO} (h : H p = none) : Same H (upd H p o) := fun a u e => by
  rw [upd_ne (ne_of_none e h)]
  exact e
theorem Same.put {a : Addr} {H H1 : Hp} {o : HO} (e : Same H H1) (n : H a = none) : Same H (upd H1 a o) := fun b u h => by
  rw [upd_ne (ne_of_none h n)]
  exact e b u h
/-- a keeping but at a place that was free ahead -/
theorem Keep.toSame {a : Addr} {H H1 H2 : Hp} (e : Same H H1) (n : H a = none) (f : Keep a H1 H2) : Same H H2 := fun b o h => f b o (ne_of_none h n) (e b o h)
theorem Keep.free {a b : Addr} {H H' : Hp} (e : Keep a H H') (n : b ≠ a) (h : H' b = none) : H b = none := by
  cases q : H b with
  | none => rfl
  | some o =>
    rw [e b o n q] at h
    cases h
theorem same_free {H H' : Hp} (e : Same H H') {l : Addr} (h : H' l = none) : H l = none := L2.Same.free e h
section
variable {K : PySem.W.Frag} {σ : St} {H : Hp} {Q : VK} {D : Ends} {t u : TS} {te ta tb tx : TE} {tt tu : TT} {r : R2} {x y z v w : V} {nx : St → Hp → Prop} {xs ys : List V}
theorem s_seq (h : t { D with nx := u D } σ H) : tSeq t u D σ H := h
theorem s_next (h : D.nx σ H) : tNext D σ H := h
theorem s_brk (h : D.bk σ H) : tBreak D σ H := h
theorem s_cont (h : D.ct σ H) : tCont D σ H := h
theorem s_asg {g : TG} (h : te σ H fun x H1 => g x σ H1 D.nx) : tAsg te g D σ H := h
theorem s_name {i : Nat} (h : nx (σ.set i (some v)) H) : gName i v σ H nx := h
theorem s_drop (h : te σ H fun _ H1 => D.nx σ H1) : tDrop te D σ H := h
theorem s_ret (h : te σ H D.rt) : tRet te D σ H := h
theorem s_ifS (h : tt σ H fun b H1 => if b = true then t D σ H1 else u D σ H1) : tIfS tt t u D σ H := h
theorem s_var {i : Nat} (h : σ[i]? = some (some v)) (q : Q v H) : tVar i σ H Q := ⟨v, h, q⟩
theorem s_c (q : Q v H) : tC v σ H Q := q
theorem s_op (h : ta σ H fun x H1 => tb σ H1 fun y H2 => r x y H2 Q) : tOp r ta tb σ H Q := h
theorem s_un {r : V → Hp → VK → Prop} (h : ta σ H fun x H1 => r x H1 Q) : tUn r ta σ H Q := h
variable {R : Bool → Hp → Prop}
theorem s_test (h : te σ H fun x H' => ∃ k, x = .bl k ∧ R k H') : tTest te σ H R := h
theorem s_tB (h : te σ H fun x H' => ∃ k, x = .bl k ∧ R k H') : tB te σ H R := h
theorem s_tT (h : te σ H fun x H' => ∃ k, x = .bl k ∧ R k H') : tTest te σ H R := h
theorem s_bl {k : Bool} (h : R k H) : ∃ k', V.bl k = V.bl k' ∧ R k' H := ⟨k, rfl, h⟩
theorem s_and (h : tt σ H fun c H1 => if c = true then tu σ H1 R else R false H1) : tAnd tt tu σ H R := h
theorem s_or (h : tt σ H fun c H1 => if c = true then R true H1 else tu σ H1 R) : tOr tt tu σ H R := h
theorem s_not (h : tt σ H fun c H1 => R (!c) H1) : tNot tt σ H R := h
theorem s_andV (h : ta σ H fun x H1 => ∃ c, x = .bl c ∧ if c = true then tb σ H1 Q else Q (.bl false) H1) : tAndV ta tb σ H Q := h
theorem s_orV (h : ta σ H fun x H1 => ∃ c, x = .bl c ∧ if c = true then Q (.bl true) H1 else tb σ H1 Q) : tOrV ta tb σ H Q := h
theorem s_notV (h : ta σ H fun x H1 => ∃ c, x = .bl c ∧ Q (.bl (!c)) H1) : tNotV ta σ H Q := h
theorem s_blV {k : Bool} {P : Bool → Prop} (h : P k) : ∃ k', V.bl k = V.bl k' ∧ P k' := ⟨k, rfl, h⟩
theorem s_if (h : tt σ H fun c H1 => if c = true then ta σ H1 Q else tb σ H1 Q) : tIf tt ta tb σ H Q := h
theorem s_cb {r : List V → Hp → VK → Prop} {t : TA} (h : t σ H fun vs H1 => r vs H1 Q) : tCB r t σ H Q := h
theorem s_call {sp : Sp} {dvs : List V} {E : XK} {t : TA} (h : t σ H fun vs H1 => sp (vs ++ dvs) H1 Q E) : tCall sp dvs E t σ H Q := h
theorem s_callK {sp : Sp} {gV : List V → List V → List V} {E : XK} {t tk : TA} (h : t σ H fun vs H1 => tk σ H1 fun zs H2 => sp (gV vs zs) H2 Q E) : tCallK sp gV E t tk σ H Q := h
theorem s_nil {P : List V → Hp → Prop} (h : P [] H) : tNil σ H P := h
theorem s_cons {ta : TE} {tr : TA} {P : List V → Hp → Prop} (h : ta σ H fun x H1 => tr σ H1 fun xs H2 => P (x :: xs) H2) : tCons ta tr σ H P := h
theorem s_tup {t : TA} (h : t σ H fun xs H1 => xs.length ≤ sizeLine ∧ ∀ p, H1 p = none → Q (.ref p) (upd H1 p (.tup xs))) : tTup t σ H Q := h
theorem s_lst {t : TA} (h : t σ H fun xs H1 => xs.length ≤ sizeLine ∧ ∀ p, H1 p = none → Q (.ref p) (upd H1 p (.lst xs))) : tLst t σ H Q := h
theorem new_same {H H2 : Hp} {p : Addr} {o : HO} (n : H p = none) (e : upd H p o = H2) : Same H H2 := by
  subst e
  exact Same.new n
theorem new_at {H H2 : Hp} {p : Addr} {o : HO} (e : upd H p o = H2) : H2 p = some o := by
  subst e
  exact upd_same
theorem put_keep {H H2 : Hp} {p : Addr} {o : HO} (e : upd H p o = H2) : Keep p H H2 := by
  subst e
  exact Keep.put (Keep.refl p H)
theorem c_mul_r {i j : Int} (a : -(2 ^ 64) < j) (b : j < 2 ^ 64) : CMul i j := .inr ⟨a, b⟩
theorem c_mul_l {i j : Int} (a : -(2 ^ 64) < i) (b : i < 2 ^ 64) : CMul i j := .inl ⟨a, b⟩
theorem c_div {i j : Int} (a : 0 < j) (b : j < 1073741824) : CDiv i j := ⟨a, b⟩
theorem c_pow {i j : Int} (a : 0 ≤ j) (b : j ≤ 1000000) (c : i.natAbs < 2 ^ 64) : CPow i j := ⟨a, b, c⟩
-- operators on values
theorem r_I0 {g : Int → Int → V} {i j : Int} (q : Q (g i j) H) : rI0 g (.int i) (.int j) H Q := ⟨i, j, rfl, rfl, q⟩
theorem r_I {C : Int → Int → Prop} {g : Int → Int → V} {i j : Int} (c : C i j) (q : Q (g i j) H) : rI C g (.int i) (.int j) H Q := ⟨i, j, rfl, rfl, c, q⟩
theorem r_U {g : Int → V} {i : Int} (q : Q (g i) H) : rU g (.int i) H Q := ⟨i, rfl, q⟩
theorem r_eq (h : scal x y = true) (q : Q (.bl (decide (x = y))) H) : rEq x y H Q := ⟨h, q⟩
theorem r_ne (h : scal x y = true) (q : Q (.bl (!decide (x = y))) H) : rNe x y H Q := ⟨h, q⟩
theorem v_int_eq {i j : Int} : decide (V.int i = V.int j) = decide (i = j) := by
  by_cases h : i = j
  · rw [h]; simp
  · simp [h]
theorem r_eqI {i j : Int} (q : Q (.bl (decide (i = j))) H) : rEq (.int i) (.int j) H Q := ⟨rfl, by rw [v_int_eq]; exact q⟩
theorem r_neI {i j : Int} (q : Q (.bl (!decide (i = j))) H) : rNe (.int i) (.int j) H Q := ⟨rfl, by rw [v_int_eq]; exact q⟩
theorem r_isB {a b : Bool} (q : Q (.bl (decide (a = b))) H) : rIsB (.bl a) (.bl b) H Q := ⟨a, b, rfl, rfl, q⟩
theorem r_notB {a b : Bool} (q : Q (.bl (!decide (a = b))) H) : rNotB (.bl a) (.bl b) H Q := ⟨a, b, rfl, rfl, q⟩
theorem r_ixL {p : Addr} {i : Int} (h : H p = some (.lst xs)) (a : atI xs i = some v) (q : Q v H) : rIx K (.ref p) (.int i) H Q := .inl ⟨p, xs, i, v, rfl, rfl, SqL.of h, a, q⟩
theorem r_ixT {p : Addr} {i : Int} (h : H p = some (.tup xs)) (a : atI xs i = some v) (q : Q v H) : rIx K (.ref p) (.int i) H Q := .inr (.inl ⟨p, xs, i, v, rfl, rfl, SqT.of h, a, q⟩)
def IxG : List V → Int → (V → Prop) → Prop
  | [], _, _ => False
  | a :: r, i, P => (i = 0 → P a) ∧ (i ≠ 0 → IxG r (i - 1) P)
theorem ig_cons {a : V} {r : List V} {i : Int} {P : V → Prop} (h1 : i = 0 → P a) (h2 : i ≠ 0 → IxG r (i - 1) P) : IxG (a :: r) i P := ⟨h1, h2⟩
theorem ig_nil {i : Int} {P : V → Prop} (h : False) : IxG [] i P := h
theorem IxG.get : ∀ {xs : List V} {n : Nat} {P : V → Prop}, IxG xs (n : Int) P → ∃ v, xs[n]? = some v ∧ P v
  | [], _, _, h => h.elim
  | a :: r, 0, P, h => ⟨a, rfl, h.1 rfl⟩
  | a :: r, n + 1, P, h => by
    have h2 := h.2 (by omega)
    have e : ((n + 1 : Nat) : Int) - 1 = (n : Int) := by omega
    rw [e] at h2
    obtain ⟨v, h3, h4⟩ := IxG.get h2
    exact ⟨v, by simpa using h3, h4⟩
theorem r_ixG {p : Addr} {i : Int} (h : H p = some (.lst xs)) (hi : 0 ≤ i) (q : IxG xs i fun v => Q v H) : rIx K (.ref p) (.int i) H Q := by
  obtain ⟨n, rfl⟩ := Int.eq_ofNat_of_zero_le hi
  obtain ⟨v, h1, h2⟩ := IxG.get q
  exact .inl ⟨p, xs, _, v, rfl, rfl, SqL.of h, atI_nat h1, h2⟩
theorem r_ixGT {p : Addr} {i : Int} (h : H p = some (.tup xs)) (hi : 0 ≤ i) (q : IxG xs i fun v => Q v H) : rIx K (.ref p) (.int i) H Q := by
  obtain ⟨n, rfl⟩ := Int.eq_ofNat_of_zero_le hi
  obtain ⟨v, h1, h2⟩ := IxG.get q
  exact .inr (.inl ⟨p, xs, _, v, rfl, rfl, SqT.of h, atI_nat h1, h2⟩)
theorem r_ixS {p : Addr} {i : Int} (h : SqL K H p xs) (a : atI xs i = some v) (q : Q v H) : rIx K (.ref p) (.int i) H Q := .inl ⟨p, xs, i, v, rfl, rfl, h, a, q⟩
theorem r_setL {p : Addr} {i : Int} {j : Nat} {P : Hp → Prop} (h : H p = some (.lst xs)) (a : ixN xs.length i = some j) (q : ∀ H2, Keep p H H2 → H2 p = some (.lst (xs.set j v)) → P H2) : rSetL (.ref p) (.int i) v H P := ⟨p, xs, i, j, rfl, rfl, h, a, q _ (Keep.put (Keep.refl p H)) upd_same⟩
theorem s_sub {to ti : TE} {ts : TSet} (h : to σ H fun o H1 => ti σ H1 fun i H2 => ts o i v H2 fun H3 => nx σ H3) : gSub to ti ts v σ H nx := h
theorem r_app {p : Addr} (h : H p = some (.lst xs)) (l : xs.length < sizeLine) (q : ∀ H2, Keep p H H2 → H2 p = some (.lst (xs ++ [y])) → Q .non H2) : rAppend (.ref p) [y] H Q := ⟨p, xs, y, rfl, rfl, h, l, q _ (Keep.put (Keep.refl p H)) upd_same⟩
theorem s_bm {T : String} {r : V → List V → Hp → VK → Prop} {to : TE} {t : TA} (h : to σ H fun x H1 => tyV K T x H1 ∧ t σ H1 fun xs H2 => r x xs H2 Q) : tBM K T r to t σ H Q := h
theorem ty_list {p : Addr} {P : Prop} (h : H p = some (.lst xs)) (q : P) : tyV K "list" (.ref p) H ∧ P := ⟨.inl ⟨rfl, _, SqL.of h⟩, q⟩
theorem r_gcd {a b : Int} (q : Q (.int ((Nat.gcd a.natAbs b.natAbs : Nat) : Int)) H) : rGcd [.int a, .int b] H Q := ⟨a, b, rfl, q⟩
theorem r_all {p : Addr} {bs : List Bool} (h : H p = some (.lst (bs.map V.bl))) (q : Q (.bl (bs.all id)) H) : rAll K [.ref p] H Q := ⟨p, bs, rfl, SqL.of h, q⟩
theorem i_T {c : Prop} [Decidable c] {A B : Prop} (hc : c) (h : A) : if decide c = true then A else B := by
  rw [if_pos (decide_eq_true hc)]; exact h
theorem i_F {c : Prop} [Decidable c] {A B : Prop} (hc : ¬ c) (h : B) : if decide c = true then A else B := by
  rw [if_neg (by simp [hc])]; exact h
theorem i_2 {c : Prop} [Decidable c] {A B : Prop} (h1 : c → A) (h2 : ¬ c → B) : if decide c = true then A else B := by
  by_cases h : c
  · exact i_T h (h1 h)
  · exact i_F h (h2 h)
theorem i_n2 {c : Prop} [Decidable c] {A B : Prop} (h1 : ¬ c → A) (h2 : c → B) : if (!decide c) = true then A else B := by
  by_cases h : c
  · rw [if_neg (by simp [h])]; exact h2 h
  · rw [if_pos (by simp [h])]; exact h1 h
theorem i_b2 {b : Bool} {A B : Prop} (h1 : b = true → A) (h2 : b = false → B) : if b = true then A else B := by
  cases b
  · exact iteF (h2 rfl)
  · exact iteT (h1 rfl)
theorem i_nb2 {b : Bool} {A B : Prop} (h1 : b = false → A) (h2 : b = true → B) : if (!b) = true then A else B := by
  cases b
  · exact iteT (h1 rfl)
  · exact iteF (h2 rfl)
theorem i_t {A B : Prop} (h : A) : if true = true then A else B := iteT h
theorem i_f {A B : Prop} (h : B) : if false = true then A else B := iteF h
theorem i_nt {A B : Prop} (h : B) : if (!true) = true then A else B := iteF h
theorem i_nf {A B : Prop} (h : A) : if (!false) = true then A else B := iteT h
end
end Sx

set_option Elab.async false
set_option linter.all false
set_option maxRecDepth 100000
set_option maxHeartbeats 2000000
namespace Sx
open PySem L2
/-- what a class of errors is not -/
structure ExK (K : PySem.W.Frag) (C : Addr) : Prop where
  ec : ExcC K C
  ni : PySem.W.subIn K (.ref C) (.type "int") = some false
  nb : PySem.W.subIn K (.ref C) (.type "bool") = some false
  nt : PySem.W.subIn K (.ref C) (.type "tuple") = some false
  ns : PySem.W.subIn K (.ref C) (.type "str") = some false
  nl : PySem.W.subIn K (.ref C) (.type "list") = some false
/-- a value whose kind is known; every address of it is in B -/
inductive Kn (K : PySem.W.Frag) (H : Hp) (B : Addr → Prop) : V → Prop where
  | non : Kn K H B .non
  | bl (b : Bool) : Kn K H B (.bl b)
  | int (i : Int) : Kn K H B (.int i)
  | str (s : Str) : Kn K H B (.str s)
  | lst {p : Addr} {xs : List V} (h : H p = some (.lst xs)) (b : B p) : Kn K H B (.ref p)
  | tup {p : Addr} {xs : List V} (h : H p = some (.tup xs)) (b : B p) : Kn K H B (.ref p)
  | exc {a C d : Addr} {fs : List (Str × V)} (ha : H a = some (exo a C (some d))) (hd : H d = some (.xd fs)) (e : ExK K C) (ba : B a) (bd : B d) : Kn K H B (.ref a)
theorem Kn.up {K : PySem.W.Frag} {H H' : Hp} {B B' : Addr → Prop} {v : V} (k : Kn K H B v) (hB : ∀ b, B b → B' b) (hk : ∀ b o, B b → H b = some o → H' b = some o) : Kn K H' B' v := by
  cases k with
  | non => exact .non
  | bl b => exact .bl b
  | int i => exact .int i
  | str s => exact .str s
  | lst h b => exact .lst (hk _ _ b h) (hB _ b)
  | tup h b => exact .tup (hk _ _ b h) (hB _ b)
  | exc ha hd e ba bd => exact .exc (hk _ _ ba ha) (hk _ _ bd hd) e (hB _ ba) (hB _ bd)
def isI : V → Bool | .int _ => true | _ => false
def isB : V → Bool | .bl _ => true | _ => false
def isS : V → Bool | .str _ => true | _ => false
def tO : Option HO → Bool | some (.tup _) => true | _ => false
def lO : Option HO → Bool | some (.lst _) => true | _ => false
def isT (H : Hp) : V → Bool | .ref p => tO (H p) | _ => false
def isL (H : Hp) : V → Bool | .ref p => lO (H p) | _ => false
theorem isT_of {H : Hp} {p : Addr} {o : HO} (h : H p = some o) : isT H (.ref p) = tO (some o) := by
  show tO (H p) = _
  rw [h]
theorem isL_of {H : Hp} {p : Addr} {o : HO} (h : H p = some o) : isL H (.ref p) = lO (some o) := by
  show lO (H p) = _
  rw [h]
theorem isT_inv {H : Hp} {v : V} (h : isT H v = true) : ∃ p xs, v = .ref p ∧ H p = some (.tup xs) := by
  cases v with
  | ref p =>
    have h' : tO (H p) = true := h
    cases e : H p with
    | none =>
      rw [e] at h'
      cases h'
    | some o =>
      rw [e] at h'
      cases o with
      | tup xs => exact ⟨p, xs, rfl, e⟩
      | _ => cases h'
  | _ => cases h
section
variable {K : PySem.W.Frag} {H : Hp} {B : Addr → Prop} {v : V} {Q : VK}
theorem kit_exc {C : Addr} {T : String} {b : Bool} (h : PySem.W.subIn K (.ref C) (.type T) = some b) (m : PySem.W.kitMeta T = true) : PySem.W.kitOne K (.ref C) (.type T) = some b := by
  unfold PySem.W.kitOne
  rw [if_neg (by intro z; exact nomatch z)]
  show (if PySem.W.kitMeta T = true then PySem.W.subIn K (.ref C) (.type T) else none) = some b
  rw [if_pos m, h]
theorem isi_go {T n : String} {ty : Value} {b : Bool} (k : KX K H v ty) (e : PySem.W.kitOne K ty (.type T) = some b) (q : Q (.bl b) H) : rIsiV K [v, .ty T] H Q := ⟨v, .ty T, ty, .type T, b, rfl, .ty T, k, e, q⟩
theorem c_isiI (k : Kn K H B v) (q : Q (.bl (isI v || isB v)) H) : rIsiV K [v, .ty "int"] H Q := by
  cases k with
  | non => exact ⟨_, _, _, _, false, rfl, .ty _, .inl (.base .non), kit_ty (by decide +kernel), q⟩
  | bl b => exact ⟨_, _, _, _, true, rfl, .ty _, .inl (.base (.bl b)), kit_ty (by decide +kernel), q⟩
  | int i => exact ⟨_, _, _, _, true, rfl, .ty _, .inl (.base (.int i)), kit_ty (by decide +kernel), q⟩
  | str s => exact ⟨_, _, _, _, false, rfl, .ty _, .inl (.base (.str s)), kit_ty (by decide +kernel), q⟩
  | lst h _ => exact ⟨_, _, _, _, false, rfl, .ty _, .inl (.base (.lst h)), kit_ty (by decide +kernel), q⟩
  | tup h _ => exact ⟨_, _, _, _, false, rfl, .ty _, .inl (.base (.tup h)), kit_ty (by decide +kernel), q⟩
  | exc ha hd e _ _ => exact ⟨_, _, _, _, false, rfl, .ty _, .inr ⟨_, _, _, _, rfl, rfl, ha, hd, e.ec⟩, kit_exc e.ni (by decide +kernel), q⟩
theorem c_isiB (k : Kn K H B v) (q : Q (.bl (isB v)) H) : rIsiV K [v, .ty "bool"] H Q := by
  cases k with
  | non => exact ⟨_, _, _, _, false, rfl, .ty _, .inl (.base .non), kit_ty (by decide +kernel), q⟩
  | bl b => exact ⟨_, _, _, _, true, rfl, .ty _, .inl (.base (.bl b)), kit_ty (by decide +kernel), q⟩
  | int i => exact ⟨_, _, _, _, false, rfl, .ty _, .inl (.base (.int i)), kit_ty (by decide +kernel), q⟩
  | str s => exact ⟨_, _, _, _, false, rfl, .ty _, .inl (.base (.str s)), kit_ty (by decide +kernel), q⟩
  | lst h _ => exact ⟨_, _, _, _, false, rfl, .ty _, .inl (.base (.lst h)), kit_ty (by decide +kernel), q⟩
  | tup h _ => exact ⟨_, _, _, _, false, rfl, .ty _, .inl (.base (.tup h)), kit_ty (by decide +kernel), q⟩
  | exc ha hd e _ _ => exact ⟨_, _, _, _, false, rfl, .ty _, .inr ⟨_, _, _, _, rfl, rfl, ha, hd, e.ec⟩, kit_exc e.nb (by decide +kernel), q⟩
theorem c_isiS (k : Kn K H B v) (q : Q (.bl (isS v)) H) : rIsiV K [v, .ty "str"] H Q := by
  cases k with
  | non => exact ⟨_, _, _, _, false, rfl, .ty _, .inl (.base .non), kit_ty (by decide +kernel), q⟩
  | bl b => exact ⟨_, _, _, _, false, rfl, .ty _, .inl (.base (.bl b)), kit_ty (by decide +kernel), q⟩
  | int i => exact ⟨_, _, _, _, false, rfl, .ty _, .inl (.base (.int i)), kit_ty (by decide +kernel), q⟩
  | str s => exact ⟨_, _, _, _, true, rfl, .ty _, .inl (.base (.str s)), kit_ty (by decide +kernel), q⟩
  | lst h _ => exact ⟨_, _, _, _, false, rfl, .ty _, .inl (.base (.lst h)), kit_ty (by decide +kernel), q⟩
  | tup h _ => exact ⟨_, _, _, _, false, rfl, .ty _, .inl (.base (.tup h)), kit_ty (by decide +kernel), q⟩
  | exc ha hd e _ _ => exact ⟨_, _, _, _, false, rfl, .ty _, .inr ⟨_, _, _, _, rfl, rfl, ha, hd, e.ec⟩, kit_exc e.ns (by decide +kernel), q⟩
theorem c_isiT (k : Kn K H B v) (q : Q (.bl (isT H v)) H) : rIsiV K [v, .ty "tuple"] H Q := by
  cases k with
  | non => exact ⟨_, _, _, _, false, rfl, .ty _, .inl (.base .non), kit_ty (by decide +kernel), q⟩
  | bl b => exact ⟨_, _, _, _, false, rfl, .ty _, .inl (.base (.bl b)), kit_ty (by decide +kernel), q⟩
  | int i => exact ⟨_, _, _, _, false, rfl, .ty _, .inl (.base (.int i)), kit_ty (by decide +kernel), q⟩
  | str s => exact ⟨_, _, _, _, false, rfl, .ty _, .inl (.base (.str s)), kit_ty (by decide +kernel), q⟩
  | lst h _ => exact ⟨_, _, _, _, false, rfl, .ty _, .inl (.base (.lst h)), kit_ty (by decide +kernel), by rw [isT_of h] at q; exact q⟩
  | tup h _ => exact ⟨_, _, _, _, true, rfl, .ty _, .inl (.base (.tup h)), kit_ty (by decide +kernel), by rw [isT_of h] at q; exact q⟩
  | exc ha hd e _ _ => exact ⟨_, _, _, _, false, rfl, .ty _, .inr ⟨_, _, _, _, rfl, rfl, ha, hd, e.ec⟩, kit_exc e.nt (by decide +kernel), by rw [isT_of ha] at q; exact q⟩
theorem c_isiL (k : Kn K H B v) (q : Q (.bl (isL H v)) H) : rIsiV K [v, .ty "list"] H Q := by
  cases k with
  | non => exact ⟨_, _, _, _, false, rfl, .ty _, .inl (.base .non), kit_ty (by decide +kernel), q⟩
  | bl b => exact ⟨_, _, _, _, false, rfl, .ty _, .inl (.base (.bl b)), kit_ty (by decide +kernel), q⟩
  | int i => exact ⟨_, _, _, _, false, rfl, .ty _, .inl (.base (.int i)), kit_ty (by decide +kernel), q⟩
  | str s => exact ⟨_, _, _, _, false, rfl, .ty _, .inl (.base (.str s)), kit_ty (by decide +kernel), q⟩
  | lst h _ => exact ⟨_, _, _, _, true, rfl, .ty _, .inl (.base (.lst h)), kit_ty (by decide +kernel), by rw [isL_of h] at q; exact q⟩
  | tup h _ => exact ⟨_, _, _, _, false, rfl, .ty _, .inl (.base (.tup h)), kit_ty (by decide +kernel), by rw [isL_of h] at q; exact q⟩
  | exc ha hd e _ _ => exact ⟨_, _, _, _, false, rfl, .ty _, .inr ⟨_, _, _, _, rfl, rfl, ha, hd, e.ec⟩, kit_exc e.nl (by decide +kernel), by rw [isL_of ha] at q; exact q⟩
end
/-- a stream of draws stands at a -/
def Flow (H : Hp) (a : Addr) : Prop := ∃ (c n : Int) (b : Bool) (p : Int), H a = some (.lst [.int c, .int n, .bl b, .int p])
theorem Flow.up {H H' : Hp} {a : Addr} (f : Flow H a) (k : ∀ o, H a = some o → H' a = some o) : Flow H' a := by
  obtain ⟨c, n, b, p, h⟩ := f
  exact ⟨c, n, b, p, k _ h⟩
theorem Flow.same {H H' : Hp} {a : Addr} (e : Same H H') (f : Flow H a) : Flow H' a := f.up fun o h => e _ _ h
theorem Flow.keep {H H' : Hp} {a b : Addr} (e : Keep b H H') (n : a ≠ b) (f : Flow H a) : Flow H' a := f.up fun o h => e _ _ n h
theorem Flow.at {H : Hp} {a : Addr} (f : Flow H a) : ∃ o, H a = some o := by
  obtain ⟨c, n, b, p, h⟩ := f
  exact ⟨_, h⟩
theorem Flow.ne {H : Hp} {a b : Addr} (f : Flow H a) (n : H b = none) : a ≠ b := by
  obtain ⟨o, h⟩ := f.at
  exact ne_of_none h n
end Sx
namespace Sx
open PySem L2
def Mem (K : PySem.W.Frag) (H : Hp) (B : Addr → Prop) (x : V) : Prop := Kn K H B x ∧ ∀ n, x = .int n → n.natAbs < 2 ^ 190
def Val (K : PySem.W.Frag) (H : Hp) (B : Addr → Prop) (v : V) : Prop := Kn K H B v ∧ ∀ p xs, v = .ref p → H p = some (.tup xs) → ∀ x ∈ xs, Mem K H B x
section
variable {K : PySem.W.Frag} {H H' : Hp} {B B' : Addr → Prop} {v x : V} {xs : List V} {p a d C : Addr}
theorem Mem.up (k : Mem K H B x) (hB : ∀ b, B b → B' b) (hk : ∀ b o, B b → H b = some o → H' b = some o) : Mem K H' B' x := ⟨k.1.up hB hk, k.2⟩
theorem Val.up (k : Val K H B v) (hB : ∀ b, B b → B' b) (hk : ∀ b o, B b → H b = some o → H' b = some o) : Val K H' B' v := by
  refine ⟨k.1.up hB hk, fun p xs e h x hx => ?_⟩
  subst e
  cases k.1 with
  | lst g b =>
    rw [hk _ _ b g] at h
    cases h
  | tup g b =>
    have g' := hk _ _ b g
    rw [g'] at h
    cases h
    exact (k.2 p xs rfl g x hx).up hB hk
  | exc ha hd e ba bd =>
    rw [hk _ _ ba ha] at h
    cases h
theorem mem_int {n : Int} (h1 : -100000000000000 < n) (h2 : n < 100000000000000) : Mem K H B (.int n) := ⟨.int n, fun m e => by
  cases e
  have : (100000000000000 : Nat) < 2 ^ 190 := by decide
  omega⟩
theorem mem_kn (k : Kn K H B x) (h : isI x = false) : Mem K H B x := ⟨k, fun n e => by
  subst e
  cases h⟩
theorem mems_nil : ∀ x ∈ ([] : List V), Mem K H B x := fun x h => by cases h
theorem mems_cons (h1 : Mem K H B x) (h2 : ∀ y ∈ xs, Mem K H B y) : ∀ y ∈ x :: xs, Mem K H B y := fun y h => by
  rcases List.mem_cons.mp h with rfl | h
  · exact h1
  · exact h2 y h
theorem val_tup (h : H p = some (.tup xs)) (b : B p) (m : ∀ x ∈ xs, Mem K H B x) : Val K H B (.ref p) := ⟨.tup h b, fun q ys e g => by
  cases e
  rw [h] at g
  cases g
  exact m⟩
theorem val_lst (h : H p = some (.lst xs)) (b : B p) : Val K H B (.ref p) := ⟨.lst h b, fun q ys e g => by
  cases e
  rw [h] at g
  cases g⟩
theorem val_exc {fs : List (Str × V)} (ha : H a = some (exo a C (some d))) (hd : H d = some (.xd fs)) (e : ExK K C) (ba : B a) (bd : B d) : Val K H B (.ref a) := ⟨.exc ha hd e ba bd, fun q ys z g => by
  cases z
  rw [ha] at g
  cases g⟩
theorem val_flat (k : Kn K H B v) (h : ∀ p, v ≠ .ref p) : Val K H B v := ⟨k, fun q ys e _ => absurd e (h q)⟩
theorem newx_same {H2 : Hp} {o u : HO} (na : H a = none) (nd : H d = none) (e : upd (upd H d u) a o = H2) : Same H H2 := by
  subst e
  intro b z h
  rw [upd_ne (ne_of_none h na), upd_ne (ne_of_none h nd)]
  exact h
theorem newx_at {H2 : Hp} {o u : HO} (e : upd (upd H d u) a o = H2) : H2 a = some o := by
  subst e
  exact upd_same
theorem newx_d {H2 : Hp} {o u : HO} (n : d ≠ a) (e : upd (upd H d u) a o = H2) : H2 d = some u := by
  subst e
  rw [upd_ne n]
  exact upd_same
theorem s_exv {σ : St} {Q : VK} {f : Str} {ta : TA} (h : ta σ H fun vs H1 => ∃ v, vs = [v] ∧ ∀ a d, H1 a = none → H1 d = none → d ≠ a → Q (.ref a) (upd (upd H1 d (.xd [(f, v)])) a (exo a C (some d)))) : tExV C f ta σ H Q := h
end
end Sx

set_option Elab.async false
set_option linter.all false
set_option maxRecDepth 100000
set_option maxHeartbeats 2000000
/-! a dict comprehension whose dict may have tuples as keys -/
namespace L2
open PySem PySem.Spec PyProof.Rows
section
variable {X : Cx} {pins : List (Addr × Obj)} {σ : St} {H H' : Hp} {s : Shared} {E : Value → Shared → Prop} {D : Addr} {y v : V} {yv r : Value} {Q : Unit → Shared → Prop}
/-- the store of a comprehension, keys of both kinds -/
theorem dcp_put (hu : X.A.units < cLine) (I : Inv X pins σ H s) (g : DPut H D y v H') (ry : RelV y yv) (rv : RelV v r) (h : ∀ s', Inv X pins σ H' s' → Q () s') :
    wpAny (model X.prog X.w) X.A (dictSet D yv r) Q E s := by
  rcases g with ⟨kvs, k, eD, rfl, lz, rfl⟩ | ⟨kvs, k, b, eD, rfl, eb, lz, rfl⟩
  · exact d_dictSet I eD lz ry rv h
  · obtain rfl : yv = Value.ref b := ry
    obtain ⟨z1, ns, xs, rl, ok⟩ := dt_of I.hok eD
    have l1 : (putK kvs k v).length ≤ sizeLine := Nat.le_trans (length_putK kvs k v) lz
    have l2 : xs.length ≤ sizeLine := by
      rw [← rl.length]
      exact z1
    refine wpAny_dictSet_heap (hsz := l2) (knd := tupleKind (mixKind X.prog X.w)) hu (key_of I.hok eb) ok fun hh ⟨q, es, ep, k1, k2, k3, k4, _, k5⟩ sb => h _ (d_write I (by rw [eD]; trivial) sb ⟨q, k1⟩ ?_)
    exact ⟨l1, ns, _, (rl.put k eb rv).keeps fun c ys ec => (upd_ne (ne_of ec eD fun e => nomatch e)).trans ec, q, es, ep, k1, k2, k3, k4, k5⟩
end
section
variable {X : Cx}
/-- {k: v for target in iter if ..}: u0 says which keys are coming -/
def tDcP (u0 : HO) (wi : TI) (g : TG) (tt : TT) (tk tv : TE) (vs : List Nat) : TE := fun σ H Q => wi σ H fun J H1 => ∀ D, H1 D = none →
  ∃ W : Nat → Nat → Hp → Prop, (∃ m, W 0 m (upd H1 D u0)) ∧ ∀ i m H2, W i m H2 → (J.stop i H2 ∧ Q (.ref D) H2) ∨
    (J.go i H2 ∧ ∃ Nx : Hp → Prop, (∀ H', Nx H' → ∃ m', m' < m ∧ W (i + 1) m' H') ∧ ∀ x H3, J.yld i H2 x H3 → g x (wipe σ vs) H3 fun σ2 H4 => wipe σ2 vs = wipe σ vs ∧ tt σ2 H4 fun b H5 =>
      if b = true then tk σ2 H5 fun y H6 => tv σ2 H6 fun z H7 => ∃ H8, DPut H7 D y z H8 ∧ Nx H8 else Nx H5)
/-- the two beginnings -/
def Dc0 (u0 : HO) : Prop := u0 = .dK [] ∨ u0 = .dT []
theorem Dc0.new {u0 : HO} (z : Dc0 u0) {P : Program} {w : World} {H : Hp} (h : Heap) (hb : sysModules < h.objs.size) : ObjOk P w H (h.push { cls := .type "dict", data := .dict #[] }) h.objs.size u0 := by
  rcases z with rfl | rfl
  · exact dk_empty h hb
  · exact dt_empty h hb

/-- what a comprehension's parts answer, whatever block they stand in -/
structure DcParts (X : Cx) (scope : Scope) (tg kx vx : Expr) (ifs : List Expr) (g : TG) (tt : TT) (tk tv : TE) : Prop where
  tgt : ∀ (s : Shared) (H : Hp) (C : Addr) (cl : List (Str × Addr)) (fp : List Addr), PG (X.blk s H scope (compEnvC scope cl C X.env) fp) tg g
  tst : ∀ (s : Shared) (H : Hp) (C : Addr) (cl : List (Str × Addr)) (fp : List Addr), PTs (X.blk s H scope (compEnvC scope cl C X.env) fp) ifs tt
  key : ∀ (s : Shared) (H : Hp) (C : Addr) (cl : List (Str × Addr)) (fp : List Addr), PE (X.blk s H scope (compEnvC scope cl C X.env) fp) kx tk
  val : ∀ (s : Shared) (H : Hp) (C : Addr) (cl : List (Str × Addr)) (fp : List Addr), PE (X.blk s H scope (compEnvC scope cl C X.env) fp) vx tv
/-- a dict comprehension, its value used as use says -/
theorem dcp_core {pins : List (Addr × Obj)} {s : Shared} {σ : St} {H : Hp} {Q : VK} {u0 : HO} {kx vx tg iter : Expr} {ifs : List Expr} {scope : Scope} {own : List (Str × Nat)} {pos pos' : Pos} {wi : TI} {g : TG} {tt : TT} {tk tv : TE} {use : Option (Value → Sem Unit)} {Qf : Value → Shared → Prop} (z0 : Dc0 u0) (hu : X.A.units < cLine) (hc : X.calm = true) (hN : X.N.Nodup)
    (I : Inv X pins σ H s) (hi : PI X tg iter wi) (ok : BlkOk X.N X.env.scope scope own) (parts : DcParts X scope tg kx vx ifs g tt tk tv) (hs : ∀ x, foldedSetIterable iter X.env x = pure x) (want : tDcP u0 wi g tt tk tv (own.map (·.2)) σ H Q)
    (ends : ∀ D C s' m H', Inv X pins σ H' s' → Q (.ref D) H' → s'.heap.Ns C m → FpOk X pins H' C → compPost (model X.prog X.w) X.A X.xe use Qf (.ref D) C (.ok .next) s') :
    wpAny (model X.prog X.w) X.A (comprehension (.DictComp kx vx [⟨tg, iter, ifs, 0⟩] scope pos) scope X.env pos' newDict false (eval iter X.env) use) Qf X.xe s := by
  have cells : ∀ y ∈ scope.names, y.2 = .free → ∃ c, X.env.cells.lookup y.1 = some c := fun y hy e =>
    (ok.free y hy e).elim (fun k => I.ok.has _ (.inl k)) fun k => I.ok.has _ (.inr k)
  refine wpAny_comprehension_free (use := use) rfl hs (closure_ok cells) ok.kind (fun y hy e => (ok.uniq y hy).trans (by rw [e])) ?_
  refine thn (hi.run pins s σ H _ I want) fun xv s1 hx => thn hx fun itv s2 ⟨it, fp, tn, J, H2, e, I2, T, st2, f2, rest⟩ => ?_
  subst e
  refine wpAny_newObj_type (newEnv_comp ?_)
  obtain ⟨D, hD⟩ : ∃ D, D = s2.heap.objs.size := ⟨_, rfl⟩
  rw [← hD]
  obtain ⟨W, ⟨m0, start⟩, turns⟩ := rest D (I2.hok.fresh (Nat.le_of_eq hD.symm))
  -- behind the making of the dict
  obtain ⟨s3, hs3⟩ : ∃ s3 : Shared, s3 = { s2 with heap := s2.heap.push { cls := .type "dict", data := .dict #[] } } := ⟨_, rfl⟩
  have heap3 : s3.heap = s2.heap.push { cls := .type "dict", data := .dict #[] } := by rw [hs3]
  have grows : ∀ b o, s2.heap.get? b = some o → s3.heap.get? b = some o := fun b o e => by
    rw [heap3]
    exact Heap.get?_push_of_some _ e
  have I3 : Inv X pins σ (upd H2 D u0) s3 := by
    rw [hs3]
    refine I2.laid (t' := s2.toks) (fun b o e => Heap.get?_push_of_some _ e) (Nat.le_of_eq hD.symm) ?_
    rw [hD]
    exact z0.new s2.heap I2.big
  have lows : ∀ b ∈ fp, b < s2.heap.objs.size := fun b hb => (T.obj _ _ st2 b hb).elim fun o h => Heap.lt_size h.1
  have frees : ∀ b ∈ fp, FpOk X pins (upd H2 D u0) b ∧ b < s3.heap.objs.size := fun b hb => by
    have l := lows b hb
    have n : b ≠ D := fun e => Nat.lt_irrefl _ (by rw [e, hD] at l; exact l)
    refine ⟨⟨by rw [upd_ne n]; exact (f2 b hb).1, (f2 b hb).2⟩, ?_⟩
    rw [heap3, Heap.size_push]
    exact Nat.lt_succ_of_lt l
  have st3 : tn 0 s3.heap := T.keep _ _ _ st2 fun b _ o e => grows b o e
  obtain ⟨C, hC⟩ : ∃ C, C = s3.heap.objs.size := ⟨_, rfl⟩
  obtain ⟨cl, hcl⟩ : ∃ cl, cl = cellsFrom (C + 1) scope.names (cloFrom X.env.cells scope.names []) := ⟨_, rfl⟩
  obtain ⟨H3, hH3⟩ : ∃ H3, H3 = upd H2 D u0 := ⟨_, rfl⟩
  have I4 := block_start I3 ok hN frees
  rw [← hC, ← hcl, ← hH3] at I4
  rw [← hH3] at I3 frees start
  have pg := parts.tgt s3 H3 C cl fp
  have pt := parts.tst s3 H3 C cl fp
  have pk := parts.key s3 H3 C cl fp
  have pv := parts.val s3 H3 C cl fp
  rw [← hs3, ← hC, ← hcl]
  obtain ⟨ce, hce⟩ : ∃ ce, ce = compEnvC scope cl C X.env := ⟨_, rfl⟩
  have locals : ce.locals = C := by rw [hce]; rfl
  rw [← hce] at I4 pg pt pk pv
  show codeAny _ _ (.compStart (.DictComp kx vx [⟨tg, iter, ifs, 0⟩] scope pos) 0 (.ref it) (.ref D) (compEnvC scope cl C X.env)) (compPost (model X.prog X.w) X.A X.xe use Qf (.ref D) C) { s3 with heap := pushCells (s3.heap.push { cls := .type "dict", data := .dict #[] }) scope.names }
  rw [← hce]
  obtain ⟨s4, hs4⟩ : ∃ s4 : Shared, s4 = { s3 with heap := pushCells (s3.heap.push { cls := .type "dict", data := .dict #[] }) scope.names } := ⟨_, rfl⟩
  rw [← hs4] at I4 ⊢
  have st4 : tn 0 s4.heap := T.keep _ _ _ st3 fun b _ o e => by
    rw [hs4]
    exact pushCells_keeps _ _ _ _ (Heap.get?_push_of_some _ e)
  -- what the walk reads stays what it was
  have still : ∀ {τ : St} {H' : Hp} {s' : Shared}, Inv (X.blk s3 H3 scope ce fp) [] τ H' s' → (∀ b ∈ fp, H' b = none) → ∀ b ∈ fp, FpOk (X.blk s3 H3 scope ce fp) [] H' b := by
    exact fun I' no b hb => ⟨no b hb, (I'.ok.exf b hb).1, I'.ok.exfs b hb, .inl hb, fun x c e => (I'.ok.exf b hb).2 x c e, fun p hp => absurd (show p ∈ ([] : List (Addr × Obj)) ++ [] from hp) (by simp)⟩
  -- behind the block
  have back : ∀ {τ : St} {H' : Hp} {s' : Shared}, Inv (X.blk s3 H3 scope ce fp) [] τ H' s' → Inv X pins σ H' s' ∧ (∃ m, s'.heap.Ns C m) ∧ FpOk X pins H' C := by
    intro τ H' s' I'
    have n : H' C = none := by rw [← locals]; exact I'.free
    obtain ⟨m, ns, _⟩ := I'.loc
    refine ⟨I3.call' (ch := fp) I'.os I'.base I'.hok I'.bare fun b hb => ⟨(frees b hb).1.2.2.2.1, (frees b hb).1.2.1, (frees b hb).1.2.2.2.2.1, (frees b hb).1.2.2.2.2.2⟩, ⟨m, ?_⟩, I3.fpOk (Nat.le_of_eq hC.symm) n⟩
    rw [← locals]
    exact ns
  have loop : codeAny (model X.prog X.w) X.A (.compLoop (.DictComp kx vx [⟨tg, iter, ifs, 0⟩] scope pos) 0 (.ref it) (.ref D) ce) (compPost (model X.prog X.w) X.A X.xe use Qf (.ref D) C) s4 := by
    refine compLoop_anyD (fun n s' => ∃ i H', W i n H' ∧ tn i s'.heap ∧ (∀ b ∈ fp, H' b = none) ∧ Inv (X.blk s3 H3 scope ce fp) [] (wipe σ (own.map (·.2))) H' s') ?_ m0 ⟨0, H3, start, st4, fun b hb => (frees b hb).1.1, I4⟩
    rintro n s5 ⟨i, H5, w5, st5, n5, I5⟩
    rcases turns i n H5 w5 with ⟨halt, won⟩ | ⟨go, Nx, next, turn⟩
    · refine thnF (T.done (X.blk s3 H3 scope ce fp) rfl rfl rfl hc i [] s5 _ H5 (fun _ _ => False) I5 (still I5 n5) st5 halt) fun r s6 ⟨hr, I6⟩ => ?_
      subst hr
      obtain ⟨J6, ⟨m, ns⟩, f6⟩ := back I6
      exact ends D C s6 m H5 J6 won ns f6
    · refine thnF (T.item (X.blk s3 H3 scope ce fp) rfl rfl rfl hc i [] s5 _ H5 (fun _ _ => False) I5 (still I5 n5) st5 go) fun r s6 ⟨u, hr, h6⟩ => ?_
      subst hr
      refine thnF h6 fun _ s7 ⟨x, H7, I7, r7, y7, st7, n7⟩ => ?_
      obtain ⟨pl, hpl⟩ : ∃ pl, pl = pinsAt fp s7.heap := ⟨_, rfl⟩
      have P7 : Inv (X.blk s3 H3 scope ce fp) ([] ++ pl) (wipe σ (own.map (·.2))) H7 s7 := by
        rw [hpl]
        exact I7.pinned (still I7 n7) (T.obj _ _ st7)
      -- a turn that is over
      have over : ∀ {τ : St} {s' : Shared} {H' : Hp}, wipe τ (own.map (·.2)) = wipe σ (own.map (·.2)) → Inv (X.blk s3 H3 scope ce fp) ([] ++ pl) τ H' s' → Nx H' →
          ∃ m, m < n ∧ ∃ i H', W i m H' ∧ tn i s'.heap ∧ (∀ b ∈ fp, H' b = none) ∧ Inv (X.blk s3 H3 scope ce fp) [] (wipe σ (own.map (·.2))) H' s' := by
        intro τ s' H' same I' nx
        obtain ⟨m', lt, w'⟩ := next H' nx
        have there : ∀ b ∈ fp, ∀ o, s7.heap.get? b = some o → s'.heap.get? b = some o ∧ H' b = none := fun b hb o e => by
          have z := I'.pin (b, o) (List.mem_append_right _ (List.mem_append_right _ (by rw [hpl]; exact mem_pinsAt hb e)))
          exact ⟨z.1, z.2.1⟩
        refine ⟨m', lt, i + 1, H', w', T.keep _ _ _ st7 fun b hb o e => (there b hb o e).1, fun b hb => (T.obj _ _ st7 b hb).elim fun o h => (there b hb o h.1).2, ?_⟩
        refine (I'.unpinned (pins := [])).weak (by rw [← same, wipe_length]) fun j v e => ?_
        rw [← same] at e
        exact (wipe_some e).1
      refine thnF (pg.run _ s7 _ H7 x u _ P7 r7 (turn x H7 y7)) fun _ s8 ⟨τ, H8, I8, same, q8⟩ => ?_
      refine thnF (pt.run _ s8 τ H8 _ I8 q8) fun b s9 ⟨H9, I9, q9⟩ => ?_
      cases b with
      | true =>
        refine thnF (pk.run _ s9 τ H9 _ I9 q9) fun ku s10 ⟨y, H10, I10, r10, q10⟩ => ?_
        refine thnF (pv.run _ s10 τ H10 _ I10 q10) fun vu s11 ⟨v, H11, I11, r11, H12, put, nx⟩ => ?_
        exact dcp_put (X := X.blk s3 H3 scope ce fp) hu I11 put r10 r11 fun s12 I12 => over same I12 nx
      | false => exact over same I9 q9
  exact codeAny_compStart_dict loop (T.self X.A 0 _ _ _ st4 loop)
/-- the value of a dict comprehension over any walk -/
theorem pe_dcP {u0 : HO} {kx vx tg iter : Expr} {ifs : List Expr} {scope : Scope} {own : List (Str × Nat)} {pos : Pos} {wi : TI} {g : TG} {tt : TT} {tk tv : TE} (z0 : Dc0 u0) (hu : X.A.units < cLine) (hc : X.calm = true) (hN : X.N.Nodup)
    (hi : PI X tg iter wi) (ok : BlkOk X.N X.env.scope scope own) (parts : DcParts X scope tg kx vx ifs g tt tk tv) (hs : ∀ x, foldedSetIterable iter X.env x = pure x := by intro _; rfl) :
    PE X (.DictComp kx vx [⟨tg, iter, ifs, 0⟩] scope pos) (tDcP u0 wi g tt tk tv (own.map (·.2))) := by
  refine ⟨fun pins s σ H Q I want => ?_⟩
  rw [arm_eval_DictComp]
  refine dcp_core z0 hu hc hN I hi ok parts hs want fun D C s' m H' I' q ns f => ⟨m, ns, fun h'' sb => ?_⟩
  obtain ⟨q0, q1, _, q3, q4, q5⟩ := f
  exact ⟨.ref D, H', I'.turned (t' := s'.toks) (fun b o hb e => (sb.2 b hb).trans e) q0 q1 q3 q4 q5, rfl, q⟩
theorem swd_true {kx vx : Expr} {gs : List Comprehension} {scope : Scope} {pos py : Pos} {y : Str} {l : Nat} {env : Env} (hk : env.scope.kind = .function) (hy : env.scope.names.lookup y = some .local) (hl : (py.line == pos.line) = true)
    (ha : (scope.names.any fun (n, k) => n == y && (k == .local || k == .cell)) = false) : swapsWith (.DictComp kx vx gs scope pos) (some (.Name y py)) l env = pure true := by
  have b1 : env.kindOf y = some .local := hy
  have b2 : env.blockKind = .function := by (unfold Env.blockKind; rw [hk]; rfl)
  (unfold swapsWith; simp only [b2, b1, ha, Expr.pos, hl]; rfl)
/-- name = {..} on one line, the name a local -/
theorem ps_setDc {i : Nat} {y : Str} {py : Pos} {u0 : HO} {kx vx tg iter : Expr} {ifs : List Expr} {scope : Scope} {own : List (Str × Nat)} {pos spos : Pos} {wi : TI} {g : TG} {tt : TT} {tk tv : TE} (z0 : Dc0 u0) (hu : X.A.units < cLine) (hc : X.calm = true) (hN : X.N.Nodup) (hy : X.N[i]? = some y) (hyl : X.env.scope.names.lookup y = some .local)
    (hsw : swapsWith (.DictComp kx vx [⟨tg, iter, ifs, 0⟩] scope pos) (some (.Name y py)) spos.line X.env = pure true) (hi : PI X tg iter wi) (ok : BlkOk X.N X.env.scope scope own) (parts : DcParts X scope tg kx vx ifs g tt tk tv) (hs : ∀ x, foldedSetIterable iter X.env x = pure x := by intro _; rfl) :
    PS X (.Assign [.Name y py] (.DictComp kx vx [⟨tg, iter, ifs, 0⟩] scope pos) spos) (tAsg (tDcP u0 wi g tt tk tv (own.map (·.2))) (gName i)) := by
  refine ⟨fun pins s σ H D I want => ?_⟩
  rw [exec_Assign_Name_used _ _ _ _ hsw]
  refine wpAny_bind (wpAny_standAt (wpAny_bind (m := evalThenUse _ _ _) ?_))
  show wpAny _ X.A (do let _ ← comprehension (.DictComp kx vx [⟨tg, iter, ifs, 0⟩] scope pos) scope X.env (firstIterPos [⟨tg, iter, ifs, 0⟩] pos) newDict false (eval iter X.env) (some (assign (.Name y py) X.env))) _ _ s
  have want' : tDcP u0 wi g tt tk tv (own.map (·.2)) σ H (fun x H1 => gName i x σ H1 D.nx) := want
  refine wpAny_bind (thn (dcp_core (Qf := fun _ s' => SP X pins D .next s') z0 hu hc hN I hi ok parts hs want' fun L C s' m H' I' q hn f => ?_) fun _ s' hq => wpAny_pure (wpAny_pure hq))
  obtain ⟨f0, f1, f2, f3, f4, f5⟩ := f
  refine wpAny_assign_Name (store_ok2 (v := V.ref L) I' hN hy (.inl hyl) rfl (fun s2 I2 ⟨a, sb, ha⟩ => ⟨m, hn.sameBut sb ?_, fun h3 sb3 => ⟨_, H', I2.turned (t' := s2.toks) (fun b o hb e => (sb3.2 b hb).trans e) f0 f1 f3 f4 f5, q⟩⟩) (.inr hyl))
  exact ha.elim (fun z => by rw [z]; exact f1) fun z e => f4 y a z e.symm
/-- over a tuple that stays: n turns, Pv i what is so behind i of them -/
theorem dcp_tup {K : PySem.W.Frag} {u0 : HO} {a : Addr} {xs : List V} {g : TG} {tt : TT} {tk tv : TE} {vs : List Nat} {σ : St} {H1 : Hp} {D : Addr} {Qd : Hp → Prop} (Pv : Nat → Hp → Prop) (first : Pv 0 (upd H1 D u0)) (stays : ∀ i H, i ≤ xs.length → Pv i H → SqT K H a xs)
    (each : ∀ i x H, xs[i]? = some x → Pv i H → g x (wipe σ vs) H fun σ2 H4 => wipe σ2 vs = wipe σ vs ∧ tt σ2 H4 fun b H5 =>
      if b = true then tk σ2 H5 fun y H6 => tv σ2 H6 fun z H7 => ∃ H8, DPut H7 D y z H8 ∧ Pv (i + 1) H8 else Pv (i + 1) H5) (last : ∀ H, Pv xs.length H → Qd H) :
    ∃ W : Nat → Nat → Hp → Prop, (∃ m, W 0 m (upd H1 D u0)) ∧ ∀ i m H2, W i m H2 → ((Itt K a).stop i H2 ∧ Qd H2) ∨
      ((Itt K a).go i H2 ∧ ∃ Nx : Hp → Prop, (∀ H', Nx H' → ∃ m', m' < m ∧ W (i + 1) m' H') ∧ ∀ x H3, (Itt K a).yld i H2 x H3 → g x (wipe σ vs) H3 fun σ2 H4 => wipe σ2 vs = wipe σ vs ∧ tt σ2 H4 fun b H5 =>
        if b = true then tk σ2 H5 fun y H6 => tv σ2 H6 fun z H7 => ∃ H8, DPut H7 D y z H8 ∧ Nx H8 else Nx H5) := by
  refine ⟨fun i m H => i + m = xs.length ∧ Pv i H, ⟨xs.length, Nat.zero_add _, first⟩, ?_⟩
  rintro i m H ⟨e, p⟩
  have sq := stays i H (by omega) p
  cases m with
  | zero =>
    obtain rfl : i = xs.length := by omega
    exact .inl ⟨⟨xs, sq, Nat.le_refl _⟩, last H p⟩
  | succ m =>
    have lt : i < xs.length := by omega
    refine .inr ⟨⟨xs, xs[i], sq, by simp [lt]⟩, Pv (i + 1), fun H' p' => ⟨m, Nat.lt_succ_self m, by omega, p'⟩, fun x H' ⟨e', y⟩ => ?_⟩
    subst e'
    exact each i x _ (y xs sq) p
end
end L2

set_option Elab.async false
set_option linter.all false
set_option maxRecDepth 100000
set_option maxHeartbeats 3200000
/-! set(v) of a list or a tuple, the loop's promise left open -/
namespace L2
open PySem PySem.Spec PyProof.Rows
section
variable {P : Program} {w : World} {A : Around} {E : Value → Shared → Prop} {s : Shared}
/-- the set that a call makes first -/
abbrev setNew (w : World) : Obj := { cls := .type "set", dict := none, data := .set #[] 0 (.fresh 0 0 (!w.params.followText "set-order")) }
/-- a built-in kind that set() walks -/
structure SeqTy (T : String) : Prop where
  noSet : isSubtype (.type T) (.type "set") = pure false
  noFrozen : isSubtype (.type T) (.type "frozenset") = pure false
  noDict : (Value.type T == Value.type "dict") = false
theorem seqTy_list : SeqTy "list" := ⟨F.sub_list_set, F.sub_list_frozenset, by decide⟩
theorem seqTy_tuple : SeqTy "tuple" := ⟨F.sub_tuple_set, F.sub_tuple_frozenset, by decide⟩
/-- what is asked of the walk that fills the set at S: R is what it leaves -/
def Fills (P : Program) (w : World) (A : Around) (E : Value → Shared → Prop) (S l : Addr) (R : Shared → Prop) (s : Shared) : Prop :=
  wpAny (model P w) A (pyIter (.ref l)) (fun it s2 => codeAny (model P w) A (.builtin "set.update.loop" ⟨[.ref S, it], []⟩) (wants (fun r s3 => r = .none ∧ R s3) E) s2) E s
theorem init_seq {T : String} {S l : Addr} {o : Obj} {R : Shared → Prop} (ty : SeqTy T) (hS : s.heap.get? S = some (setNew w)) (hl : s.heap.get? l = some o) (hT : o.cls = .type T) (fill : Fills P w A E S l R s) :
    wpAny (model P w) A (Builtin.«set.__init__» ⟨[.ref S, .ref l], []⟩) (fun r s2 => r = .done (.ret .none) ∧ R s2) E s := by
  obtain ⟨c, dd, da, sl⟩ := o
  obtain rfl : c = Value.type T := hT
  have q1 := ty.noSet
  have q2 := ty.noFrozen
  have q3 := ty.noDict
  unfold Builtin.«set.__init__» noKeywords Builtin.Frozenset.updateFrom
  unfold Fills at fill
  generalize pyIter = PI at *
  wp_walk
  refine wpAny_mono fill (fun it s2 h2 => ?_) fun _ _ z => z
  refine wpAny_bind (wpAny_runValue (codeAny_mono h2 fun r s3 h3 => ?_))
  cases r with
  | error e => exact h3
  | ok fl =>
    cases fl with
    | ret u => exact wpAny_pure (wpAny_pure ⟨rfl, h3.2⟩)
    | _ => exact h3.elim
/-- set(v): the walk is asked where it stands -/
theorem call_set_seq {T : String} {l : Addr} {o : Obj} {R : Shared → Prop} {Q : Value → Shared → Prop} (ty : SeqTy T) (hl : s.heap.get? l = some o) (hT : o.cls = .type T)
    (fill : Fills P w A.in1.in1 E s.heap.objs.size l R { s with heap := s.heap.push (setNew w) }) (won : ∀ s', R s' → Q (.ref s.heap.objs.size) s') : wpAny (model P w) A (call (.type "set") [.ref l]) Q E s := by
  obtain ⟨c, tl, hmro⟩ := F.called_set.mro
  have a1 := F.called_set.made
  have a2 := F.called_set.sub
  have a3 := F.called_set.notType
  have a4 := F.called_set.canCreate
  have a5 := F.typeCall_set_1 (.ref l)
  refine wpAny_call (codeAny_of_tree ?_)
  show wpAny _ _ (callAny (.type "set") ⟨[.ref l], []⟩) _ _ s
  refine wpAny_pure ⟨Code.quiet_builtin _ (by decide +kernel), codeAny_builtin F.entry_type_call ?_⟩
  rw [Around.under_plain (weight_type_call_type "set" [.ref l] []) rfl]
  repeat (any_goals (first | assumption | wp_step))
  -- the new set
  refine codeAny_mono (code_set_led1 (.ref l) (E := E) (Q₁ := fun v s1 => v = .ref s.heap.objs.size ∧ s1 = { s with heap := s.heap.push (setNew w) }) ⟨rfl, rfl⟩) fun r s1 hr => ?_
  cases r with
  | error e => exact hr
  | ok fl =>
    cases fl with
    | ret v =>
      obtain ⟨rfl, rfl⟩ := hr
      have at0 : (s.heap.push (setNew w)).get? s.heap.objs.size = some (setNew w) := Heap.get?_push_size _ rfl
      have atl : (s.heap.push (setNew w)).get? l = some o := Heap.get?_push_of_some _ hl
      have hty : Shared.TypeIs { s with heap := s.heap.push (setNew w) } (.ref s.heap.objs.size) "set" := ⟨_, at0, rfl⟩
      have b1 := F.called_set.init.lookup
      have b2 := F.called_set.init.bind (.ref s.heap.objs.size)
      repeat (any_goals (first | assumption | wp_step))
      refine codeAny_mono (codeAny_call_builtin (R := wants (fun r s2 => r = .none ∧ R s2) E) F.called_set.init.plain F.entry_set_init (check_set_init_1 hty ?_)) fun r2 s2 hr2 => ?_
      · refine wpAny_mono (init_seq ty at0 atl hT fill) (fun fin s3 h3 => ?_) fun _ _ z => z
        obtain ⟨rfl, h3⟩ := h3
        exact ⟨rfl, h3⟩
      · cases r2 with
        | error e => exact hr2
        | ok fl2 =>
          cases fl2 with
          | ret u =>
            obtain ⟨rfl, h3⟩ := hr2
            have q := won s2 h3
            repeat (any_goals (first | assumption | wp_step))
          | _ => exact hr2.elim
    | _ => exact hr.elim

/-- set(t), t a tuple of tuples of ints -/
theorem call_set_ofT {l : Addr} {items : Array Value} (ks : List (Addr × List Int)) {Q : Value → Shared → Prop} (hh : A.handled = none) (hl : s.heap.IsTuple l items) (same : items.toList = ks.map fun p => Value.ref p.1)
    (keys : ∀ p ∈ ks, IsT P w s.heap p.2 p.1) (few : ks.length < 64) (hu : A.units + 3 < cLine)
    (won : ∀ (h' : Heap) (tk : Nat) L es ep t, (∀ b o, s.heap.get? b = some o → h'.get? b = some o) → Got ks ks.length L → SetTR P w h' s.heap.objs.size L es ep t → Q (.ref s.heap.objs.size) { s with heap := h', toks := tk }) :
    wpAny (model P w) A (call (.type "set") [.ref l]) Q E s := by
  have len : items.size = ks.length := by rw [← Array.length_toList, same, List.length_map]
  obtain ⟨o, ho, oc, n, od⟩ := id hl
  have lt : l < s.heap.objs.size := Heap.lt_size ho
  have nobody : ∀ b, s.heap.objs.size ≤ b → s.heap.get? b = none := fun b hb => Classical.byContradiction fun h => by
    obtain ⟨u, hu⟩ := Option.ne_none_iff_exists'.mp h
    exact Nat.lt_irrefl _ (Nat.lt_of_le_of_lt hb (Heap.lt_size hu))
  refine call_set_seq (R := fun s' => ∃ (h' : Heap) (tk : Nat), s' = { s with heap := h', toks := tk } ∧ ∃ L es ep t, (∀ b o, s.heap.get? b = some o → h'.get? b = some o) ∧ Got ks ks.length L ∧ SetTR P w h' s.heap.objs.size L es ep t)
    seqTy_tuple ho oc ?_ fun s' ⟨h', tk, e, L, es, ep, t, q1, q2, q3⟩ => by rw [e]; exact won h' tk L es ep t q1 q2 q3
  have l1 : (s.heap.push (setNew w)).IsTuple l items := hl.at fun u e => Heap.get?_push_of_some _ e
  have sz : (s.heap.push (setNew w)).objs.size = s.heap.objs.size + 1 := Heap.size_push ..
  refine wpAny_pyIter_tuple l1 ?_
  have apart : l ≠ (s.heap.push (setNew w)).objs.size := by
    rw [sz]
    exact Nat.ne_of_lt (Nat.lt_succ_of_lt lt)
  have hA : A.in1.in1.in1.handled = none := by simp [hh]
  refine set_update_tups (A := A.in1.in1) (Walks.tuple hA _ l apart items).toS s.heap.objs.size ?_ ks len few (fun i v hv => ?_) s.heap keys (nobody _ (Nat.le_refl _)) (fun b hb => ?_) hu items.size 0 _ rfl (Nat.zero_le _)
    ⟨⟨_, Heap.get?_push_size _ rfl, rfl, rfl⟩, l1.at fun u e => Heap.get?_push_of_some _ e⟩ (fun b u e => Heap.get?_push_of_some _ (Heap.get?_push_of_some _ e)) ?_ ?_
  · rw [sz]
    simp only [List.mem_cons, List.not_mem_nil, or_false, not_or]
    exact ⟨Nat.ne_of_lt (Nat.lt_succ_self _), Nat.ne_of_gt lt⟩
  · have z : (ks.map fun p => Value.ref p.1)[i]? = some v := by rw [← same, Array.getElem?_toList]; exact hv
    rw [List.getElem?_map] at z
    obtain ⟨p, e1, e2⟩ := Option.map_eq_some_iff.mp z
    exact ⟨p, e1, e2.symm⟩
  · rw [List.mem_singleton.mp hb, sz]
    exact nobody _ (Nat.le_succ _)
  · exact ⟨[], #[], 0, _, setTR_fresh (Heap.get?_push_of_some _ (Heap.get?_push_size _ rfl)), Got.zero ks⟩
  · rintro ⟨h', g', d', tk', os'⟩ L es ep t mv full got keeps
    obtain rfl : g' = s.gens := mv.gens
    obtain rfl : d' = s.drawn := mv.drawn
    obtain rfl : os' = s.os := mv.os
    rw [len] at got
    exact ⟨rfl, h', tk', rfl, L, es, ep, t, keeps, got, full⟩
end
section
variable {X : Cx}
/-- set(t), the rule -/
def rSetOfTT (K : PySem.W.Frag) (P : Program) (w : World) : List V → Hp → VK → Prop := fun xs H Q => ∃ (l : Addr) (ks : List (Addr × List Int)), xs = [V.ref l] ∧ SqT K H l (ks.map fun p => V.ref p.1) ∧ (∀ p ∈ ks, SqT K H p.1 (p.2.map V.int)) ∧ ks.length < 64 ∧
  ∀ a L, H a = none → (∀ p ∈ L, p ∈ ks) → (∀ p ∈ ks, p.2 ∈ L.map (·.2)) → Q (.ref a) (upd H a (SetTO P w a L))
theorem cr_setOfTT (hc : X.calm = true) (hu : X.A.units + 64 < cLine) : CallR X (.type "set") (rSetOfTT X.K X.prog X.w) := by
  rintro pins s σ H xs us Q I r ⟨l, ks, rfl, tl, keys, few, won⟩
  rw [Vals.ref1 r]
  obtain ⟨its, rv, ⟨o, ho, oc, n, od⟩, _⟩ := I.tuple tl
  refine call_set_ofT (items := its.toArray) ks (I.ok.hd hc) ⟨o, ho, oc, n, od⟩ (by simpa using refs_of_vals rv) (fun p hp => I.isT (keys p hp)) few (by omega) fun h' tk L es ep t k g R => ?_
  refine ⟨.ref s.heap.objs.size, upd H s.heap.objs.size (SetTO X.prog X.w s.heap.objs.size L), I.laid (t' := tk) k (Nat.le_refl _) (setTO_new R.t0), rfl, won _ L (I.hok.fresh (Nat.le_refl _)) (fun p hp => List.mem_of_mem_take (g.sub p hp)) fun p hp => g.all p ?_⟩
  rw [List.take_length]
  exact hp
end
end L2

set_option Elab.async false
set_option linter.all false
set_option maxRecDepth 100000
set_option maxHeartbeats 3200000
/-! sorted(s) of a set with one tuple, or none -/
namespace L2
open PySem PySem.Spec PyProof.Rows SrtO
section
variable {P : Program} {w : World} {A : Around} {E : Value → Shared → Prop} {s : Shared}
theorem perm_one {α : Type} {l m : List α} (p : l.Perm m) (h : m.length ≤ 1) : l = m := by
  match m, h with
  | [], _ => exact p.eq_nil
  | [x], _ => exact List.perm_singleton.mp p
theorem swo_none {α : Type} : Swo fun (_ _ : α) => false := ⟨fun _ _ _ => rfl, fun _ _ _ _ _ => rfl⟩
theorem sorted_setOne {a : Addr} {L : List (Addr × List Int)} {es : Array (Int × Value)} {ep : Nat} {t : SetTable} {Q : Value → Shared → Prop} (R : SetTR P w s.heap a L es ep t) (hh : A.handled = none) (one : L.length ≤ 1)
    (won : ∀ s' p c, (∀ b o, s.heap.get? b = some o → s'.heap.get? b = some o) → s'.gens = s.gens → s'.os = s.os → s.heap.objs.size ≤ p → s'.heap.get? p = some (seqObj "list" (L.map fun q => Value.ref q.1).toArray c) → Q (.ref p) s') :
    wpAny (model P w) A (call (.builtin "sorted") [.ref a]) Q E s := by
  obtain ⟨o, ho, hex, hd⟩ := R.ob
  have size := R.size
  refine Calls.call_function_entry kind_sorted plain_sorted entry_sorted (args_sorted1 _) ?_
  unfold Builtin.«sorted»
  refine wpAny_bind (m := checkCount "sorted" 1 1 _) (wpAny_pure ?_)
  refine wpAny_bind (collect_set (A := A.in1) hh ⟨o, ho, hex.1, hd⟩ R.fits (by unfold scanBound; omega) R.tab.ris R.led fun s1 vs keep bigger hg hos pm => ?_)
  have vals : es.toList.map (·.2) = L.map fun q => Value.ref q.1 := by
    rw [R.rows]
    unfold rowsOf
    rw [List.map_map] <;> rfl
  have evs : vs = L.map fun q => Value.ref q.1 := by
    rw [vals] at pm
    exact perm_one pm (by rw [List.length_map]; exact one)
  subst evs
  have lz : (L.map fun q => Value.ref q.1).length ≤ sizeLine := by rw [List.length_map, sizeLine_eq]; omega
  refine wpAny_bind (wpAny_newList ?_ lz)
  have new : (s1.heap.push (seqObj "list" (L.map fun q => Value.ref q.1).toArray 0)).get? s1.heap.objs.size = some (seqObj "list" (L.map fun q => Value.ref q.1).toArray 0) := Heap.get?_push_size _ rfl
  refine wpAny_bind (wpAny_holding (wpAny_call_entry slot_list_sort ⟨_, new, rfl⟩ entry_list_sort
    (list_sort_ord (s := { s1 with heap := s1.heap.push (seqObj "list" (L.map fun q => Value.ref q.1).toArray 0) }) swo_none new lz (fun h => absurd h (by rw [List.length_map]; omega)) fun out h1 h2 => ⟨_, rfl, ?_⟩) (args_list_sort _)))
  have eo : out = L.map fun q => Value.ref q.1 := perm_one h2.perm (by rw [List.length_map]; exact one)
  subst eo
  obtain ⟨c, hc⟩ := sortedHeap_at (vs := L.map fun q => Value.ref q.1) (out := (L.map fun q => Value.ref q.1).toArray) new
  refine wpAny_pure ⟨_, rfl, won _ s1.heap.objs.size c (fun b u e => ?_) hg hos bigger hc⟩
  have lt := Heap.lt_size (keep b u e)
  have q := Heap.get?_push_of_some (seqObj "list" (L.map fun q => Value.ref q.1).toArray 0) (keep b u e)
  rw [← sortedHeap_old (vs := L.map fun q => Value.ref q.1) (out := (L.map fun q => Value.ref q.1).toArray) (Nat.ne_of_lt lt) (by rw [size_push']; exact Nat.lt_succ_of_lt lt)] at q
  exact q
end
section
variable {X : Cx}
def rSortedOne (K : PySem.W.Frag) (P : Program) (w : World) : List V → Hp → VK → Prop := fun vs H Q => ∃ (a : Addr) (L : List (Addr × List Int)), vs = [V.ref a] ∧ H a = some (SetTO P w a L) ∧ (∀ p ∈ L, SqT K H p.1 (p.2.map V.int)) ∧ (∀ p ∈ L, p.2 = []) ∧
  ((L.map (·.2)).Nodup → L.length ≤ 1 → ∀ p, H p = none → Q (.ref p) (upd H p (.lst (L.map fun q => V.ref q.1))))
theorem nils_one : ∀ {L : List (Addr × List Int)}, (L.map (·.2)).Nodup → (∀ p ∈ L, p.2 = []) → L.length ≤ 1
  | [], _, _ => Nat.zero_le _
  | [p], _, _ => Nat.le_refl _
  | p :: q :: L, nd, e => by
    have h1 := e p List.mem_cons_self
    have h2 := e q (List.mem_cons_of_mem _ List.mem_cons_self)
    have h3 := (List.nodup_cons.mp nd).1
    exact absurd (show p.2 ∈ (q :: L).map (·.2) by rw [List.map_cons, h1, h2]; exact List.mem_cons_self) h3
theorem cr_sortedOne (hc : X.calm = true) : CallR X (.builtin "sorted") (rSortedOne X.K X.prog X.w) := by
  rintro pins s σ H vs us Q I r ⟨a, L, rfl, ha, keys, nils, won⟩
  obtain ⟨es, ep, t, R⟩ := SetT0.full (show SetT0 X.prog X.w s.heap a L from (I.hok a _ ha).1) fun p hp => I.isT (keys p hp)
  have one := nils_one R.nd nils
  rw [Vals.ref1 r]
  refine sorted_setOne R (I.ok.hd hc) one fun s' p c keep hg hos le at' => ?_
  have new : H p = none := I.hok.fresh le
  have J : Inv X pins σ (upd H p (.lst (L.map fun q => V.ref q.1))) { s with heap := s'.heap, gens := s'.gens, drawn := s'.drawn, toks := s'.toks } := by
    refine I.call (ch := []) (Un.laid keep le new) (I.hok.laid keep le ⟨?_, _, c, vals_of_refs L, at'⟩) (by rw [hg]; exact I.bare) fun _ z => nomatch z
    rw [List.length_map, sizeLine_eq]
    omega
  have e : s' = { s with heap := s'.heap, gens := s'.gens, drawn := s'.drawn, toks := s'.toks } := by
    cases s'; cases s; cases hos; rfl
  rw [e]
  exact ⟨.ref p, _, J, rfl, won R.nd one p new⟩
end
end L2

set_option Elab.async false
set_option linter.all false
set_option maxRecDepth 100000
set_option maxHeartbeats 2000000
/-! len(o) by an own __len__ -/
namespace L2
open PySem PySem.Spec PyProof.Rows
section
variable {X : Cx} {CX : CXT} {k : Nat} {f C : Addr} {fd : FuncData} {ps : List Str} {sp : Sp} {E : XK}
def rLenO (C : Addr) (sp : Sp) (E : XK) : List V → Hp → VK → Prop := fun vs H Q => ∃ a dx fs, vs = [.ref a] ∧ H a = some (.ins C dx fs) ∧ sp [.ref a] H (fun v H' => ∃ n : Nat, v = .int n ∧ n < 2 ^ 62 ∧ Q (.int n) H') E
theorem call_lenO (F : FnOk X.prog X.w X.K X.mg X.base CX k f fd ps sp) (hr : Room (k + 1) X.A) (hs : PySem.W.findIn X.K (.ref C) "__len__" = some (some (.ref f))) (hf : PySem.W.isFn X.K (.ref f) = true) (hb : Binds X.K fd ps []) (hx : Passes CX X E) :
    CallR X (.builtin "len") (rLenO C sp E) := by
  rintro pins s σ H vs us Q I r ⟨a, dx, fs, rfl, ha, hsp⟩
  rw [Vals.ref1 r]
  obtain ⟨mA, J, _⟩ := ins_get I.hok ha
  obtain ⟨od, J, _⟩ := J.look
  obtain ⟨m, hF⟩ := I.fr
  refine PySem.W.len_K hF I.ok.mod.kin J hs hf ?_
  have sub : Sub X k X.A.in1 := Sub.in1 ⟨hr, rfl⟩
  have e0 : Env0 X.prog X.w X.K X.mg X.base X.A.in1 X.stack s H := by
    have e := I.env0
    exact ⟨by rw [sub.fr]; exact e.frames, e.mod, e.bs, e.bsz, e.funs, e.frf, e.hok, e.bare⟩
  have hl := F.len _ _ _ _ hsp
  refine wpAny_call (codeAny_mono (F.run X.A.in1 X.stack s H ⟨[.ref a], []⟩ [.ref a] [.ref a] _ E sub.room e0 (by
    have z := hb s [.ref a] I.kIn (by simpa using hl)
    simpa using z) (.cons rfl .nil) hsp) fun r s' hq => ?_)
  cases r with
  | error e => exact hx pins σ H s e s' I hq
  | ok fl =>
    cases fl with
    | ret w =>
      obtain ⟨z, H', I', rz, n, ez, hn, q⟩ := I.after hq
      subst ez
      obtain ⟨t, rfl⟩ := rz
      refine ⟨⟨Int.natCast_nonneg n, by omega⟩, .int n, H', I'.tok _, ⟨_, rfl⟩, q⟩
    | next => exact False.elim hq
    | brk => exact False.elim hq
    | cont => exact False.elim hq
end
end L2

set_option Elab.async false
set_option linter.all false
set_option maxRecDepth 100000
set_option maxHeartbeats 2000000
/-! values of any kind asked for their class; instances of an own class -/
namespace Sx
open PySem L2
/-- an own class whose instances are asked with isinstance -/
structure OwnK (K : PySem.W.Frag) (C : Addr) : Prop where
  cl : Cls K C
  co : PySem.W.findIn K (.ref C) "__class__" = some (some (.builtin "object.__class__"))
  s1 : PySem.W.specialIn K (.builtin "object.__class__") "__get__" = some (some (.builtin "getset_descriptor.__get__"))
  s2 : PySem.W.takesIn K (.builtin "object.__class__") = some true
  mo : PySem.W.mroIn K C (.type "object") = some true
  is : PySem.W.subIn K (.ref C) (.ref C) = some true
  ni : PySem.W.subIn K (.ref C) (.type "int") = some false
  nb : PySem.W.subIn K (.ref C) (.type "bool") = some false
  nt : PySem.W.subIn K (.ref C) (.type "tuple") = some false
  ns : PySem.W.subIn K (.ref C) (.type "str") = some false
  nl : PySem.W.subIn K (.ref C) (.type "list") = some false
theorem u1 {k : Nat} {A : Around} (r : Room k A) : A.units + 1 < cLine := by
  have := r.units
  omega
/-- isinstance(v, T) is b -/
def IsIn (K : PySem.W.Frag) (H : Hp) (v : V) (T : String) (b : Bool) : Prop := ∃ ty, KX K H v ty ∧ PySem.W.kitOne K ty (.type T) = some b
section
variable {K : PySem.W.Frag} {H H' : Hp} {B : Addr → Prop} {v : V} {Q : VK} {C : Addr}
theorem isi_in {T : String} {b : Bool} (h : IsIn K H v T b) (q : Q (.bl b) H) : rIsiV K [v, .ty T] H Q := by
  obtain ⟨ty, k, e⟩ := h
  exact ⟨v, .ty T, ty, .type T, b, rfl, .ty T, k, e, q⟩
theorem OwnK.ty (o : OwnK K C) {a dx : Addr} {fs : List (Str × V)} (h : H a = some (.ins C dx fs)) : KX K H (.ref a) (.ref C) := .inl (.base (.ins h o.cl o.co o.s1 o.s2 o.mo))
theorem OwnK.isin (o : OwnK K C) {a dx : Addr} {fs : List (Str × V)} (h : H a = some (.ins C dx fs)) {T : String} {b : Bool} (e : PySem.W.subIn K (.ref C) (.type T) = some b) (m : PySem.W.kitMeta T = true) : IsIn K H (.ref a) T b :=
  ⟨_, o.ty h, kit_exc e m⟩
/-- isinstance(o, C), o one of C's -/
theorem OwnK.own (o : OwnK K C) {a dx : Addr} {fs : List (Str × V)} (h : H a = some (.ins C dx fs)) (q : Q (.bl true) H) : rIsiV K [.ref a, .ref C] H Q := by
  refine ⟨.ref a, .ref C, .ref C, .ref C, true, rfl, .own C, o.ty h, ?_, q⟩
  unfold PySem.W.kitOne
  rw [if_pos (beq_self_eq_true _)]
theorem in_int (i : Int) : IsIn K H (.int i) "int" true := ⟨_, .inl (.base (.int i)), kit_ty (by decide +kernel)⟩
theorem in_int_b (i : Int) : IsIn K H (.int i) "bool" false := ⟨_, .inl (.base (.int i)), kit_ty (by decide +kernel)⟩
theorem in_int_t (i : Int) : IsIn K H (.int i) "tuple" false := ⟨_, .inl (.base (.int i)), kit_ty (by decide +kernel)⟩
theorem in_int_l (i : Int) : IsIn K H (.int i) "list" false := ⟨_, .inl (.base (.int i)), kit_ty (by decide +kernel)⟩
theorem in_int_s (i : Int) : IsIn K H (.int i) "str" false := ⟨_, .inl (.base (.int i)), kit_ty (by decide +kernel)⟩
theorem in_tup {p : Addr} {xs : List V} (h : H p = some (.tup xs)) : IsIn K H (.ref p) "tuple" true := ⟨_, .inl (.base (.tup h)), kit_ty (by decide +kernel)⟩
theorem in_tup_i {p : Addr} {xs : List V} (h : H p = some (.tup xs)) : IsIn K H (.ref p) "int" false := ⟨_, .inl (.base (.tup h)), kit_ty (by decide +kernel)⟩
theorem in_tup_b {p : Addr} {xs : List V} (h : H p = some (.tup xs)) : IsIn K H (.ref p) "bool" false := ⟨_, .inl (.base (.tup h)), kit_ty (by decide +kernel)⟩
theorem in_tup_l {p : Addr} {xs : List V} (h : H p = some (.tup xs)) : IsIn K H (.ref p) "list" false := ⟨_, .inl (.base (.tup h)), kit_ty (by decide +kernel)⟩
theorem in_tup_s {p : Addr} {xs : List V} (h : H p = some (.tup xs)) : IsIn K H (.ref p) "str" false := ⟨_, .inl (.base (.tup h)), kit_ty (by decide +kernel)⟩
theorem in_lst {p : Addr} {xs : List V} (h : H p = some (.lst xs)) : IsIn K H (.ref p) "list" true := ⟨_, .inl (.base (.lst h)), kit_ty (by decide +kernel)⟩
theorem in_lst_t {p : Addr} {xs : List V} (h : H p = some (.lst xs)) : IsIn K H (.ref p) "tuple" false := ⟨_, .inl (.base (.lst h)), kit_ty (by decide +kernel)⟩
/-- asked for int and for bool -/
def NI (K : PySem.W.Frag) (H : Hp) (v : V) : Prop := ∃ b c, IsIn K H v "int" b ∧ IsIn K H v "bool" c ∧ (b && !c) = isI v
theorem ni_int (i : Int) : NI K H (.int i) := ⟨_, _, in_int i, in_int_b i, rfl⟩
theorem ni_kn (k : Kn K H B v) : NI K H v := by
  cases k with
  | non => exact ⟨false, false, ⟨_, .inl (.base .non), kit_ty (by decide +kernel)⟩, ⟨_, .inl (.base .non), kit_ty (by decide +kernel)⟩, rfl⟩
  | bl b => exact ⟨true, true, ⟨_, .inl (.base (.bl b)), kit_ty (by decide +kernel)⟩, ⟨_, .inl (.base (.bl b)), kit_ty (by decide +kernel)⟩, rfl⟩
  | int i => exact ni_int i
  | str s => exact ⟨false, false, ⟨_, .inl (.base (.str s)), kit_ty (by decide +kernel)⟩, ⟨_, .inl (.base (.str s)), kit_ty (by decide +kernel)⟩, rfl⟩
  | lst h _ => exact ⟨false, false, ⟨_, .inl (.base (.lst h)), kit_ty (by decide +kernel)⟩, ⟨_, .inl (.base (.lst h)), kit_ty (by decide +kernel)⟩, rfl⟩
  | tup h _ => exact ⟨_, _, in_tup_i h, in_tup_b h, rfl⟩
  | exc ha hd e _ _ => exact ⟨false, false, ⟨_, .inr ⟨_, _, _, _, rfl, rfl, ha, hd, e.ec⟩, kit_exc e.ni (by decide +kernel)⟩, ⟨_, .inr ⟨_, _, _, _, rfl, rfl, ha, hd, e.ec⟩, kit_exc e.nb (by decide +kernel)⟩, rfl⟩
theorem OwnK.ni' (o : OwnK K C) {a dx : Addr} {fs : List (Str × V)} (h : H a = some (.ins C dx fs)) : NI K H (.ref a) := ⟨_, _, o.isin h o.ni (by decide +kernel), o.isin h o.nb (by decide +kernel), rfl⟩
/-- the number that a value is -/
def num? (f : Int → Bool) : V → Bool | .int i => f i | _ => false
def isBit : V → Bool := num? fun i => decide (0 ≤ i) && decide (i ≤ 1)
theorem tyOf_same {t : Value} (e : Same H H') (h : TyOf K H v t) : TyOf K H' v t := by
  cases h with
  | non => exact .non
  | bl x => exact .bl x
  | int i => exact .int i
  | str x => exact .str x
  | flt x => exact .flt x
  | lst g => exact .lst (e _ _ g)
  | frz g => exact .frz (e _ _ g)
  | tup g => exact .tup (e _ _ g)
  | dK g => exact .dK (e _ _ g)
  | dT g => exact .dT (e _ _ g)
  | ins g cl ha hn htk hm => exact .ins (e _ _ g) cl ha hn htk hm
theorem tyX_same {t : Value} (e : Same H H') (h : TyX K H v t) : TyX K H' v t := by
  cases h with
  | base g => exact .base (tyOf_same e g)
  | byt b => exact .byt b
  | set g => exact .set (e _ _ g)
  | kList g c => exact .kList g c
  | kTuple g c => exact .kTuple g c
  | kDict g c => exact .kDict g c
  | fTuple g => exact .fTuple (e _ _ g)
  | fDict g => exact .fDict (e _ _ g)
theorem isIn_same {T : String} {b : Bool} (e : Same H H') (h : IsIn K H v T b) : IsIn K H' v T b := by
  obtain ⟨ty, k, z⟩ := h
  refine ⟨ty, k.elim (fun k => .inl (tyX_same e k)) fun ⟨a, C, d, fs, e1, e2, ha, hd, c⟩ => .inr ⟨a, C, d, fs, e1, e2, e _ _ ha, e _ _ hd, c⟩, z⟩
theorem ni_same (e : Same H H') (h : NI K H v) : NI K H' v := by
  obtain ⟨b, c, h1, h2, z⟩ := h
  exact ⟨b, c, isIn_same e h1, isIn_same e h2, z⟩
theorem s_chain {σ : St} {r r' : R2} {ta tb tc : TE} (h : ta σ H fun x H1 => tb σ H1 fun y H2 => r x y H2 fun z H3 => ∃ k, z = .bl k ∧ if k = true then tc σ H3 fun w H4 => r' y w H4 Q else Q (.bl false) H3) : tChain r r' ta tb tc σ H Q := h
theorem s_fldS {σ : St} {D : Ends} {ta tv : TE} {f : Str} (h : tv σ H fun y H1 => ta σ H1 fun x H2 => ∃ a C dx fs, x = .ref a ∧ H2 a = some (.ins C dx fs) ∧ Cls K C ∧ NoAttr K C f ∧ fs.length < 1000 ∧ D.nx σ (upd H2 a (.ins C dx (putF f y fs)))) : sFld K ta tv f D σ H := h
theorem r_put {x : V} {a dx : Addr} {fs : List (Str × V)} {f : Str} {y : V} {P : Hp → Prop} (e : x = .ref a) (h : H a = some (.ins C dx fs)) (c : Cls K C) (n : NoAttr K C f) (l : fs.length < 1000) (q : ∀ H2, Keep a H H2 → H2 a = some (.ins C dx (putF f y fs)) → P H2) :
    ∃ a C dx fs, x = .ref a ∧ H a = some (.ins C dx fs) ∧ Cls K C ∧ NoAttr K C f ∧ fs.length < 1000 ∧ P (upd H a (.ins C dx (putF f y fs))) := ⟨a, C, dx, fs, e, h, c, n, l, q _ (put_keep rfl) upd_same⟩
theorem s_fld {σ : St} {ta : TE} {f : Str} (h : ta σ H fun x H1 => ∃ a C dx fs v, x = .ref a ∧ H1 a = some (.ins C dx fs) ∧ Cls K C ∧ NoAttr K C f ∧ fs.lookup f = some v ∧ Q v H1) : tFld K ta f σ H Q := h
theorem r_get {x : V} {a dx : Addr} {fs : List (Str × V)} {f : Str} {v : V} {P : V → Prop} (e : x = .ref a) (h : H a = some (.ins C dx fs)) (c : Cls K C) (n : NoAttr K C f) (l : fs.lookup f = some v) (q : P v) :
    ∃ a C dx fs v, x = .ref a ∧ H a = some (.ins C dx fs) ∧ Cls K C ∧ NoAttr K C f ∧ fs.lookup f = some v ∧ P v := ⟨a, C, dx, fs, v, e, h, c, n, l, q⟩
theorem s_dIn {σ : St} {ty td : TE} (h : ty σ H fun y H1 => td σ H1 fun x H2 => ∃ a o, x = .ref a ∧ DGet H2 a y o ∧ Q (.bl o.isSome) H2) : tDIn ty td σ H Q := h
theorem s_dNotIn {σ : St} {ty td : TE} (h : ty σ H fun y H1 => td σ H1 fun x H2 => ∃ a o, x = .ref a ∧ DGet H2 a y o ∧ Q (.bl (!o.isSome)) H2) : tDNotIn ty td σ H Q := h
theorem s_sl {σ : St} {r : V → Option Int → Option Int → Hp → VK → Prop} {te : TE} {tl th : TO} (h : te σ H fun x H1 => tl σ H1 fun l H2 => th σ H2 fun u H3 => r x l u H3 Q) : tSl r te tl th σ H Q := h
theorem s_noPart {σ : St} {R : Option Int → Hp → Prop} (h : R none H) : tNoPart σ H R := h
theorem s_part {σ : St} {t : TE} {R : Option Int → Hp → Prop} (h : t σ H fun x H1 => ∃ i, x = .int i ∧ R (some i) H1) : tPart t σ H R := h
/-- t[:j], a part of it -/
theorem r_take {p : Addr} {xs : List V} {j : Nat} (h : H p = some (.tup xs)) (lt : j < xs.length) (q : ∀ p' H2, H p' = none → Same H H2 → H2 p' = some (.tup (xs.take j)) → Q (.ref p') H2) : rSlA K (.ref p) none (some (j : Int)) H Q := by
  refine ⟨p, xs, rfl, SqT.of h, fun z => ?_, fun _ p' np => q p' _ np (Sx.Same.new np) ?_⟩
  · have e := z.2
    rw [HT.sIx_nat] at e
    omega
  · rw [upd_same]
    unfold cutV
    rw [HT.sIx_nat, HT.sIx_none, Nat.min_eq_left (Nat.le_of_lt lt)]
    rfl
/-- t[j + 1:] -/
theorem r_drop {p : Addr} {xs : List V} {j : Nat} (h : H p = some (.tup xs)) (lt : j < xs.length) (q : ∀ p' H2, H p' = none → Same H H2 → H2 p' = some (.tup (xs.drop (j + 1))) → Q (.ref p') H2) : rSlA K (.ref p) (some ((j : Int) + 1)) none H Q := by
  have e1 : ((j : Int) + 1) = ((j + 1 : Nat) : Int) := by omega
  rw [e1]
  refine ⟨p, xs, rfl, SqT.of h, fun z => ?_, fun _ p' np => q p' _ np (Sx.Same.new np) ?_⟩
  · have e := z.1
    rw [HT.sIx_nat] at e
    omega
  · rw [upd_same]
    unfold cutV
    rw [HT.sIx_nat, HT.sIx_none, Nat.min_eq_left lt, List.take_of_length_le (by rw [List.length_drop]; omega)]
/-- t + u -/
theorem r_cat {a b : Addr} {xs ys : List V} (ha : H a = some (.tup xs)) (hb : H b = some (.tup ys)) (sz : xs.length + ys.length ≤ sizeLine) (q : ∀ p H2, Same H H2 → H2 p = some (.tup (xs ++ ys)) → Q (.ref p) H2) : rCatA K (.ref a) (.ref b) H Q := by
  refine ⟨a, b, xs, ys, rfl, rfl, SqT.of ha, SqT.of hb, sz, fun e => q b H (L2.Same.refl _) ?_, fun _ e => q a H (L2.Same.refl _) ?_, fun _ _ p np => q p _ (Sx.Same.new np) upd_same⟩
  · rw [e]
    exact hb
  · rw [e, List.append_nil]
    exact ha
theorem s_meth {σ : St} {C : Addr} {m : Str} {sp : Sp} {dvs : List V} {E : XK} {ta : TE} {t : TA} (h : ta σ H fun x H1 => ∃ a dx fs, x = .ref a ∧ H1 a = some (.ins C dx fs) ∧ fs.lookup m = none ∧ t σ H1 fun vs H2 => sp (x :: (vs ++ dvs)) H2 Q E) : tMeth C m sp dvs E ta t σ H Q := h
theorem s_make {σ : St} {C : Addr} {sp : Sp} {dvs : List V} {E : XK} {t : TA} (h : t σ H fun vs H1 => ∀ x dx, H1 x = none → H1 dx = none → dx ≠ x → sp (.ref x :: (vs ++ dvs)) (upd (upd H1 dx (.own x)) x (.ins C dx [])) (fun v H2 => v = .non ∧ Q (.ref x) H2) E) : tMake C sp dvs E t σ H Q := h
theorem in_of {T : String} {b : Bool} (h : rIsiV K [v, .ty T] H fun z _ => z = .bl b) : IsIn K H v T b := by
  obtain ⟨x, c, t, u, b', e, kc, kx, ke, hb⟩ := h
  cases e
  cases kc
  cases hb
  exact ⟨t, kx, ke⟩
theorem in_iK (k : Kn K H B v) : IsIn K H v "int" (isI v || isB v) := in_of (c_isiI k rfl)
theorem in_bK (k : Kn K H B v) : IsIn K H v "bool" (isB v) := in_of (c_isiB k rfl)
theorem in_sK (k : Kn K H B v) : IsIn K H v "str" (isS v) := in_of (c_isiS k rfl)
theorem in_tK (k : Kn K H B v) : IsIn K H v "tuple" (isT H v) := in_of (c_isiT k rfl)
theorem in_lK (k : Kn K H B v) : IsIn K H v "list" (isL H v) := in_of (c_isiL k rfl)
theorem r_isN {x : V} (q : Q (.bl (decide (x = .non))) H) : V.non = V.non ∧ Q (.bl (decide (x = .non))) H := ⟨rfl, q⟩
theorem s_yes {σ : St} {R : Bool → Hp → Prop} (h : R true H) : tYes σ H R := h
theorem r_len {p : Addr} {xs : List V} (h : H p = some (.tup xs)) (q : Q (.int xs.length) H) : ∃ x n, [V.ref p] = [x] ∧ LenV K x H n ∧ Q (.int n) H := ⟨_, _, rfl, .inr ⟨xs, SqT.of h, rfl⟩, q⟩
end
end Sx

set_option Elab.async false
set_option linter.all false
set_option maxRecDepth 100000
set_option maxHeartbeats 2000000
namespace K09
open PySem L2 Sx
def top (i : Nat) : Stmt := PySem.Challenge.pw_nextguess_k09_texts_read.main.body.getD i (.Pass ⟨0, 0, 0, 0⟩)
abbrev s_is_an_integer : Stmt := top 3
abbrev s_is_number : Stmt := top 4
abbrev s_is_value : Stmt := top 5
abbrev s_Lines____init__ : Stmt := inClass (top 11) 0
abbrev s_Lines__ended : Stmt := inClass (top 11) 1
abbrev s_Lines__ahead : Stmt := inClass (top 11) 2
abbrev s_Lines__take : Stmt := inClass (top 11) 3
abbrev s_Lines__place : Stmt := inClass (top 11) 4
abbrev s_is_row : Stmt := top 13
abbrev s_are_rows : Stmt := top 15
abbrev s_Rules____init__ : Stmt := inClass (top 16) 0
abbrev s_points_line : Stmt := top 20
abbrev s_size_told : Stmt := top 21
abbrev s_row_told : Stmt := top 22
abbrev s_rules_ahead : Stmt := top 23
abbrev s_read_rules : Stmt := top 24
abbrev s__law_flow : Stmt := top 26
abbrev s__law_take : Stmt := top 27
abbrev s__law_lines : Stmt := top 28
abbrev s__law_sign : Stmt := top 29
abbrev s__law_odd : Stmt := top 30
abbrev s__law_spoilt_line : Stmt := top 31
abbrev s__law_spoilt : Stmt := top 32
abbrev s__law_text : Stmt := top 33
abbrev s__law_figures : Stmt := top 34
abbrev s__law_read : Stmt := top 35
abbrev s__law_same_rows : Stmt := top 36
abbrev s__law_is_integer : Stmt := top 37
abbrev s__law_asked : Stmt := top 38
abbrev s_law : Stmt := top 39
theorem sc_is_an_integer : FnScope ["value"] ["value"] (defScope s_is_an_integer) := ⟨rfl, rfl, rfl, by decide +kernel, rfl, by decide +kernel, by decide +kernel⟩
theorem sc_is_number : FnScope ["value"] ["value"] (defScope s_is_number) := ⟨rfl, rfl, rfl, by decide +kernel, rfl, by decide +kernel, by decide +kernel⟩
theorem sc_is_value : FnScope ["value"] ["value"] (defScope s_is_value) := ⟨rfl, rfl, rfl, by decide +kernel, rfl, by decide +kernel, by decide +kernel⟩
theorem sc_Lines____init__ : FnScope ["self", "text"] ["self", "text"] (defScope s_Lines____init__) := ⟨rfl, rfl, rfl, by decide +kernel, rfl, by decide +kernel, by decide +kernel⟩
theorem sc_Lines__ended : FnScope ["self"] ["self"] (defScope s_Lines__ended) := ⟨rfl, rfl, rfl, by decide +kernel, rfl, by decide +kernel, by decide +kernel⟩
theorem sc_Lines__ahead : FnScope ["self"] ["self"] (defScope s_Lines__ahead) := ⟨rfl, rfl, rfl, by decide +kernel, rfl, by decide +kernel, by decide +kernel⟩
theorem sc_Lines__take : FnScope ["self"] ["self"] (defScope s_Lines__take) := ⟨rfl, rfl, rfl, by decide +kernel, rfl, by decide +kernel, by decide +kernel⟩
theorem sc_Lines__place : FnScope ["self"] ["self"] (defScope s_Lines__place) := ⟨rfl, rfl, rfl, by decide +kernel, rfl, by decide +kernel, by decide +kernel⟩
theorem sc_is_row : FnScope ["value", "size", "member"] ["value", "size"] (defScope s_is_row) := ⟨rfl, rfl, rfl, by decide +kernel, rfl, by decide +kernel, by decide +kernel⟩
theorem sc_are_rows : FnScope ["rows", "size", "row"] ["rows", "size"] (defScope s_are_rows) := ⟨rfl, rfl, rfl, by decide +kernel, rfl, by decide +kernel, by decide +kernel⟩
theorem sc_Rules____init__ : FnScope ["self", "size", "rows", "row"] ["self", "size", "rows"] (defScope s_Rules____init__) := ⟨rfl, rfl, rfl, by decide +kernel, rfl, by decide +kernel, by decide +kernel⟩
theorem sc_points_line : FnScope ["size"] ["size"] (defScope s_points_line) := ⟨rfl, rfl, rfl, by decide +kernel, rfl, by decide +kernel, by decide +kernel⟩
theorem sc_size_told : FnScope ["line", "size"] ["line"] (defScope s_size_told) := ⟨rfl, rfl, rfl, by decide +kernel, rfl, by decide +kernel, by decide +kernel⟩
theorem sc_row_told : FnScope ["line", "size", "word", "sign"] ["line", "size"] (defScope s_row_told) := ⟨rfl, rfl, rfl, by decide +kernel, rfl, by decide +kernel, by decide +kernel⟩
theorem sc_rules_ahead : FnScope ["lines", "size", "rows", "row"] ["lines"] (defScope s_rules_ahead) := ⟨rfl, rfl, rfl, by decide +kernel, rfl, by decide +kernel, by decide +kernel⟩
theorem sc_read_rules : FnScope ["text", "lines", "rules"] ["text"] (defScope s_read_rules) := ⟨rfl, rfl, rfl, by decide +kernel, rfl, by decide +kernel, by decide +kernel⟩
theorem sc__law_flow : FnScope ["script", "place", "cell"] ["script", "place"] (defScope s__law_flow) := ⟨rfl, rfl, rfl, by decide +kernel, rfl, by decide +kernel, by decide +kernel⟩
theorem sc__law_take : FnScope ["flow", "limit", "digit", "mixed"] ["flow", "limit"] (defScope s__law_take) := ⟨rfl, rfl, rfl, by decide +kernel, rfl, by decide +kernel, by decide +kernel⟩
theorem sc__law_lines : FnScope ["flow", "size", "full", "k", "kept", "lines", "number", "figures"] ["flow"] (defScope s__law_lines) := ⟨rfl, rfl, rfl, by decide +kernel, rfl, by decide +kernel, by decide +kernel⟩
theorem sc__law_sign : FnScope ["flow", "signs"] ["flow"] (defScope s__law_sign) := ⟨rfl, rfl, rfl, by decide +kernel, rfl, by decide +kernel, by decide +kernel⟩
theorem sc__law_odd : FnScope ["flow", "odd"] ["flow"] (defScope s__law_odd) := ⟨rfl, rfl, rfl, by decide +kernel, rfl, by decide +kernel, by decide +kernel⟩
theorem sc__law_spoilt_line : FnScope ["flow", "lines", "at", "shape", "line", "place"] ["flow", "lines", "at"] (defScope s__law_spoilt_line) := ⟨rfl, rfl, rfl, by decide +kernel, rfl, by decide +kernel, by decide +kernel⟩
theorem sc__law_spoilt : FnScope ["flow", "lines", "shape", "at"] ["flow", "lines"] (defScope s__law_spoilt) := ⟨rfl, rfl, rfl, by decide +kernel, rfl, by decide +kernel, by decide +kernel⟩
theorem sc__law_text : FnScope ["flow", "lines", "k", "text"] ["flow"] (defScope s__law_text) := ⟨rfl, rfl, rfl, by decide +kernel, rfl, by decide +kernel, by decide +kernel⟩
theorem sc__law_figures : FnScope ["figures", "size", "row", "sign"] ["figures", "size"] (defScope s__law_figures) := ⟨rfl, rfl, rfl, by decide +kernel, rfl, by decide +kernel, by decide +kernel⟩
theorem sc__law_read : FnScope ["text", "at", "size", "found", "line", "right", "k", "row"] ["text"] (defScope s__law_read) := ⟨rfl, rfl, rfl, by decide +kernel, rfl, by decide +kernel, by decide +kernel⟩
theorem sc__law_same_rows : FnScope ["actual", "due", "k", "worth"] ["actual", "due"] (defScope s__law_same_rows) := ⟨rfl, rfl, rfl, by decide +kernel, rfl, by decide +kernel, by decide +kernel⟩
theorem sc__law_is_integer : FnScope ["value", "due"] ["value", "due"] (defScope s__law_is_integer) := ⟨rfl, rfl, rfl, by decide +kernel, rfl, by decide +kernel, by decide +kernel⟩
theorem sc__law_asked : FnScope ["text", "due", "actual", "e"] ["text"] (defScope s__law_asked) := ⟨rfl, rfl, rfl, by decide +kernel, rfl, by decide +kernel, by decide +kernel⟩
theorem sc_law : FnScope ["script", "asked", "turn", "text", "k"] ["script"] (defScope s_law) := ⟨rfl, rfl, rfl, by decide +kernel, rfl, by decide +kernel, by decide +kernel⟩
structure Ad where
  a_is_an_integer : Addr
  d_is_an_integer : FuncData
  a_is_number : Addr
  d_is_number : FuncData
  a_is_value : Addr
  d_is_value : FuncData
  a_Lines____init__ : Addr
  d_Lines____init__ : FuncData
  a_Lines__ended : Addr
  d_Lines__ended : FuncData
  a_Lines__ahead : Addr
  d_Lines__ahead : FuncData
  a_Lines__take : Addr
  d_Lines__take : FuncData
  a_Lines__place : Addr
  d_Lines__place : FuncData
  a_is_row : Addr
  d_is_row : FuncData
  a_are_rows : Addr
  d_are_rows : FuncData
  a_Rules____init__ : Addr
  d_Rules____init__ : FuncData
  a_points_line : Addr
  d_points_line : FuncData
  a_size_told : Addr
  d_size_told : FuncData
  a_row_told : Addr
  d_row_told : FuncData
  a_rules_ahead : Addr
  d_rules_ahead : FuncData
  a_read_rules : Addr
  d_read_rules : FuncData
  a__law_flow : Addr
  d__law_flow : FuncData
  a__law_take : Addr
  d__law_take : FuncData
  a__law_lines : Addr
  d__law_lines : FuncData
  a__law_sign : Addr
  d__law_sign : FuncData
  a__law_odd : Addr
  d__law_odd : FuncData
  a__law_spoilt_line : Addr
  d__law_spoilt_line : FuncData
  a__law_spoilt : Addr
  d__law_spoilt : FuncData
  a__law_text : Addr
  d__law_text : FuncData
  a__law_figures : Addr
  d__law_figures : FuncData
  a__law_read : Addr
  d__law_read : FuncData
  a__law_same_rows : Addr
  d__law_same_rows : FuncData
  a__law_is_integer : Addr
  d__law_is_integer : FuncData
  a__law_asked : Addr
  d__law_asked : FuncData
  a_law : Addr
  d_law : FuncData
  c_InvalidText : Addr
  i_InvalidText : Addr
  c_Lines : Addr
  c_Rules : Addr
  t_MOST_POINTS : Tok
  t_NO_VALUES : Tok
  t_RULE : Tok
  c_GuessError : Addr
structure Txt (P : Program) (K : PySem.W.Frag) (mg : Str → Option Value) (A : Ad) : Prop where
  g_is_an_integer : mg "is_an_integer" = some (.ref A.a_is_an_integer)
  F_is_an_integer : Fun K "is_an_integer" "is_an_integer" s_is_an_integer A.a_is_an_integer A.d_is_an_integer
  g_is_number : mg "is_number" = some (.ref A.a_is_number)
  F_is_number : Fun K "is_number" "is_number" s_is_number A.a_is_number A.d_is_number
  g_is_value : mg "is_value" = some (.ref A.a_is_value)
  F_is_value : Fun K "is_value" "is_value" s_is_value A.a_is_value A.d_is_value
  F_Lines____init__ : Fun K "__init__" "Lines.__init__" s_Lines____init__ A.a_Lines____init__ A.d_Lines____init__
  F_Lines__ended : Fun K "ended" "Lines.ended" s_Lines__ended A.a_Lines__ended A.d_Lines__ended
  F_Lines__ahead : Fun K "ahead" "Lines.ahead" s_Lines__ahead A.a_Lines__ahead A.d_Lines__ahead
  F_Lines__take : Fun K "take" "Lines.take" s_Lines__take A.a_Lines__take A.d_Lines__take
  F_Lines__place : Fun K "place" "Lines.place" s_Lines__place A.a_Lines__place A.d_Lines__place
  g_is_row : mg "is_row" = some (.ref A.a_is_row)
  F_is_row : Fun K "is_row" "is_row" s_is_row A.a_is_row A.d_is_row
  g_are_rows : mg "are_rows" = some (.ref A.a_are_rows)
  F_are_rows : Fun K "are_rows" "are_rows" s_are_rows A.a_are_rows A.d_are_rows
  F_Rules____init__ : Fun K "__init__" "Rules.__init__" s_Rules____init__ A.a_Rules____init__ A.d_Rules____init__
  g_points_line : mg "points_line" = some (.ref A.a_points_line)
  F_points_line : Fun K "points_line" "points_line" s_points_line A.a_points_line A.d_points_line
  g_size_told : mg "size_told" = some (.ref A.a_size_told)
  F_size_told : Fun K "size_told" "size_told" s_size_told A.a_size_told A.d_size_told
  g_row_told : mg "row_told" = some (.ref A.a_row_told)
  F_row_told : Fun K "row_told" "row_told" s_row_told A.a_row_told A.d_row_told
  g_rules_ahead : mg "rules_ahead" = some (.ref A.a_rules_ahead)
  F_rules_ahead : Fun K "rules_ahead" "rules_ahead" s_rules_ahead A.a_rules_ahead A.d_rules_ahead
  g_read_rules : mg "read_rules" = some (.ref A.a_read_rules)
  F_read_rules : Fun K "read_rules" "read_rules" s_read_rules A.a_read_rules A.d_read_rules
  g__law_flow : mg "_law_flow" = some (.ref A.a__law_flow)
  F__law_flow : Fun K "_law_flow" "_law_flow" s__law_flow A.a__law_flow A.d__law_flow
  g__law_take : mg "_law_take" = some (.ref A.a__law_take)
  F__law_take : Fun K "_law_take" "_law_take" s__law_take A.a__law_take A.d__law_take
  g__law_lines : mg "_law_lines" = some (.ref A.a__law_lines)
  F__law_lines : Fun K "_law_lines" "_law_lines" s__law_lines A.a__law_lines A.d__law_lines
  g__law_sign : mg "_law_sign" = some (.ref A.a__law_sign)
  F__law_sign : Fun K "_law_sign" "_law_sign" s__law_sign A.a__law_sign A.d__law_sign
  g__law_odd : mg "_law_odd" = some (.ref A.a__law_odd)
  F__law_odd : Fun K "_law_odd" "_law_odd" s__law_odd A.a__law_odd A.d__law_odd
  g__law_spoilt_line : mg "_law_spoilt_line" = some (.ref A.a__law_spoilt_line)
  F__law_spoilt_line : Fun K "_law_spoilt_line" "_law_spoilt_line" s__law_spoilt_line A.a__law_spoilt_line A.d__law_spoilt_line
  g__law_spoilt : mg "_law_spoilt" = some (.ref A.a__law_spoilt)
  F__law_spoilt : Fun K "_law_spoilt" "_law_spoilt" s__law_spoilt A.a__law_spoilt A.d__law_spoilt
  g__law_text : mg "_law_text" = some (.ref A.a__law_text)
  F__law_text : Fun K "_law_text" "_law_text" s__law_text A.a__law_text A.d__law_text
  g__law_figures : mg "_law_figures" = some (.ref A.a__law_figures)
  F__law_figures : Fun K "_law_figures" "_law_figures" s__law_figures A.a__law_figures A.d__law_figures
  g__law_read : mg "_law_read" = some (.ref A.a__law_read)
  F__law_read : Fun K "_law_read" "_law_read" s__law_read A.a__law_read A.d__law_read
  g__law_same_rows : mg "_law_same_rows" = some (.ref A.a__law_same_rows)
  F__law_same_rows : Fun K "_law_same_rows" "_law_same_rows" s__law_same_rows A.a__law_same_rows A.d__law_same_rows
  g__law_is_integer : mg "_law_is_integer" = some (.ref A.a__law_is_integer)
  F__law_is_integer : Fun K "_law_is_integer" "_law_is_integer" s__law_is_integer A.a__law_is_integer A.d__law_is_integer
  g__law_asked : mg "_law_asked" = some (.ref A.a__law_asked)
  F__law_asked : Fun K "_law_asked" "_law_asked" s__law_asked A.a__law_asked A.d__law_asked
  g_law : mg "law" = some (.ref A.a_law)
  F_law : Fun K "law" "law" s_law A.a_law A.d_law
  X_InvalidText : PySem.SupY_text_at.XTxt P K mg "InvalidText" A.c_InvalidText A.i_InvalidText
  E_InvalidText : Sx.ExK K A.c_InvalidText
  g_Lines : mg "Lines" = some (.ref A.c_Lines)
  o_Lines : Sx.OwnK K A.c_Lines
  mk_Lines : Mk K A.c_Lines A.a_Lines____init__
  no_Lines_text : NoAttr K A.c_Lines "text"
  no_Lines__lines : NoAttr K A.c_Lines "_lines"
  no_Lines__taken : NoAttr K A.c_Lines "_taken"
  no_Lines__at : NoAttr K A.c_Lines "_at"
  me_Lines_ended : Meth K A.c_Lines "ended" A.a_Lines__ended
  me_Lines_ahead : Meth K A.c_Lines "ahead" A.a_Lines__ahead
  me_Lines_take : Meth K A.c_Lines "take" A.a_Lines__take
  me_Lines_place : Meth K A.c_Lines "place" A.a_Lines__place
  g_Rules : mg "Rules" = some (.ref A.c_Rules)
  o_Rules : Sx.OwnK K A.c_Rules
  mk_Rules : Mk K A.c_Rules A.a_Rules____init__
  no_Rules_size : NoAttr K A.c_Rules "size"
  no_Rules_rows : NoAttr K A.c_Rules "rows"
  no_Rules__known : NoAttr K A.c_Rules "_known"
  n_abs : mg "abs" = none
  n_all : mg "all" = none
  n_bool : mg "bool" = none
  n_int : mg "int" = none
  n_isinstance : mg "isinstance" = none
  n_len : mg "len" = none
  n_list : mg "list" = none
  n_min : mg "min" = none
  n_range : mg "range" = none
  n_set : mg "set" = none
  n_sorted : mg "sorted" = none
  n_str : mg "str" = none
  n_tuple : mg "tuple" = none
  k_MOST_POINTS : mg "MOST_POINTS" = some (.int 8 A.t_MOST_POINTS)
  k_NO_VALUES : mg "NO_VALUES" = some (.str (Str.ofString "-") A.t_NO_VALUES)
  k_RULE : mg "RULE" = some (.str (Str.ofString "rule ") A.t_RULE)
  g_GuessError : mg "GuessError" = some (.ref A.c_GuessError)
  kg_InvalidText_GuessError : PySem.W.kitOne K (.ref A.c_InvalidText) (.ref A.c_GuessError) = some true
section
variable {P : Program} {K : PySem.W.Frag} {mg : Str → Option Value} {A : Ad}
theorem Txt.cl_Lines (T : Txt P K mg A) : Cls K A.c_Lines := T.o_Lines.cl
theorem Txt.cl_Rules (T : Txt P K mg A) : Cls K A.c_Rules := T.o_Rules.cl
theorem Txt.g_InvalidText (T : Txt P K mg A) : mg "InvalidText" = some (.ref A.c_InvalidText) := T.X_InvalidText.gC
theorem B_is_an_integer (T : Txt P K mg A) : Binds K A.d_is_an_integer ["value"] [] := T.F_is_an_integer.binds (ps := ["value"]) fun _ _ _ _ _ _ us hl => match us, hl with | [_], _ => rfl
theorem B_is_number (T : Txt P K mg A) : Binds K A.d_is_number ["value"] [] := T.F_is_number.binds (ps := ["value"]) fun _ _ _ _ _ _ us hl => match us, hl with | [_], _ => rfl
theorem B_is_value (T : Txt P K mg A) : Binds K A.d_is_value ["value"] [] := T.F_is_value.binds (ps := ["value"]) fun _ _ _ _ _ _ us hl => match us, hl with | [_], _ => rfl
theorem B_Lines____init__ (T : Txt P K mg A) : Binds K A.d_Lines____init__ ["self", "text"] [] := T.F_Lines____init__.binds (ps := ["self", "text"]) fun _ _ _ _ _ _ us hl => match us, hl with | [_, _], _ => rfl
theorem B_Lines__ended (T : Txt P K mg A) : Binds K A.d_Lines__ended ["self"] [] := T.F_Lines__ended.binds (ps := ["self"]) fun _ _ _ _ _ _ us hl => match us, hl with | [_], _ => rfl
theorem B_Lines__ahead (T : Txt P K mg A) : Binds K A.d_Lines__ahead ["self"] [] := T.F_Lines__ahead.binds (ps := ["self"]) fun _ _ _ _ _ _ us hl => match us, hl with | [_], _ => rfl
theorem B_Lines__take (T : Txt P K mg A) : Binds K A.d_Lines__take ["self"] [] := T.F_Lines__take.binds (ps := ["self"]) fun _ _ _ _ _ _ us hl => match us, hl with | [_], _ => rfl
theorem B_Lines__place (T : Txt P K mg A) : Binds K A.d_Lines__place ["self"] [] := T.F_Lines__place.binds (ps := ["self"]) fun _ _ _ _ _ _ us hl => match us, hl with | [_], _ => rfl
theorem B_is_row (T : Txt P K mg A) : Binds K A.d_is_row ["value", "size"] [] := T.F_is_row.binds (ps := ["value", "size"]) fun _ _ _ _ _ _ us hl => match us, hl with | [_, _], _ => rfl
theorem B_are_rows (T : Txt P K mg A) : Binds K A.d_are_rows ["rows", "size"] [] := T.F_are_rows.binds (ps := ["rows", "size"]) fun _ _ _ _ _ _ us hl => match us, hl with | [_, _], _ => rfl
theorem B_Rules____init__ (T : Txt P K mg A) : Binds K A.d_Rules____init__ ["self", "size", "rows"] [] := T.F_Rules____init__.binds (ps := ["self", "size", "rows"]) fun _ _ _ _ _ _ us hl => match us, hl with | [_, _, _], _ => rfl
theorem B_points_line (T : Txt P K mg A) : Binds K A.d_points_line ["size"] [] := T.F_points_line.binds (ps := ["size"]) fun _ _ _ _ _ _ us hl => match us, hl with | [_], _ => rfl
theorem B_size_told (T : Txt P K mg A) : Binds K A.d_size_told ["line"] [] := T.F_size_told.binds (ps := ["line"]) fun _ _ _ _ _ _ us hl => match us, hl with | [_], _ => rfl
theorem B_row_told (T : Txt P K mg A) : Binds K A.d_row_told ["line", "size"] [] := T.F_row_told.binds (ps := ["line", "size"]) fun _ _ _ _ _ _ us hl => match us, hl with | [_, _], _ => rfl
theorem B_rules_ahead (T : Txt P K mg A) : Binds K A.d_rules_ahead ["lines"] [] := T.F_rules_ahead.binds (ps := ["lines"]) fun _ _ _ _ _ _ us hl => match us, hl with | [_], _ => rfl
theorem B_read_rules (T : Txt P K mg A) : Binds K A.d_read_rules ["text"] [] := T.F_read_rules.binds (ps := ["text"]) fun _ _ _ _ _ _ us hl => match us, hl with | [_], _ => rfl
theorem B__law_flow (T : Txt P K mg A) : Binds K A.d__law_flow ["script", "place"] [] := T.F__law_flow.binds (ps := ["script", "place"]) fun _ _ _ _ _ _ us hl => match us, hl with | [_, _], _ => rfl
theorem B__law_take (T : Txt P K mg A) : Binds K A.d__law_take ["flow", "limit"] [] := T.F__law_take.binds (ps := ["flow", "limit"]) fun _ _ _ _ _ _ us hl => match us, hl with | [_, _], _ => rfl
theorem B__law_lines (T : Txt P K mg A) : Binds K A.d__law_lines ["flow"] [] := T.F__law_lines.binds (ps := ["flow"]) fun _ _ _ _ _ _ us hl => match us, hl with | [_], _ => rfl
theorem B__law_sign (T : Txt P K mg A) : Binds K A.d__law_sign ["flow"] [] := T.F__law_sign.binds (ps := ["flow"]) fun _ _ _ _ _ _ us hl => match us, hl with | [_], _ => rfl
theorem B__law_odd (T : Txt P K mg A) : Binds K A.d__law_odd ["flow"] [] := T.F__law_odd.binds (ps := ["flow"]) fun _ _ _ _ _ _ us hl => match us, hl with | [_], _ => rfl
theorem B__law_spoilt_line (T : Txt P K mg A) : Binds K A.d__law_spoilt_line ["flow", "lines", "at"] [] := T.F__law_spoilt_line.binds (ps := ["flow", "lines", "at"]) fun _ _ _ _ _ _ us hl => match us, hl with | [_, _, _], _ => rfl
theorem B__law_spoilt (T : Txt P K mg A) : Binds K A.d__law_spoilt ["flow", "lines"] [] := T.F__law_spoilt.binds (ps := ["flow", "lines"]) fun _ _ _ _ _ _ us hl => match us, hl with | [_, _], _ => rfl
theorem B__law_text (T : Txt P K mg A) : Binds K A.d__law_text ["flow"] [] := T.F__law_text.binds (ps := ["flow"]) fun _ _ _ _ _ _ us hl => match us, hl with | [_], _ => rfl
theorem B__law_figures (T : Txt P K mg A) : Binds K A.d__law_figures ["figures", "size"] [] := T.F__law_figures.binds (ps := ["figures", "size"]) fun _ _ _ _ _ _ us hl => match us, hl with | [_, _], _ => rfl
theorem B__law_read (T : Txt P K mg A) : Binds K A.d__law_read ["text"] [] := T.F__law_read.binds (ps := ["text"]) fun _ _ _ _ _ _ us hl => match us, hl with | [_], _ => rfl
theorem B__law_same_rows (T : Txt P K mg A) : Binds K A.d__law_same_rows ["actual", "due"] [] := T.F__law_same_rows.binds (ps := ["actual", "due"]) fun _ _ _ _ _ _ us hl => match us, hl with | [_, _], _ => rfl
theorem B__law_is_integer (T : Txt P K mg A) : Binds K A.d__law_is_integer ["value", "due"] [] := T.F__law_is_integer.binds (ps := ["value", "due"]) fun _ _ _ _ _ _ us hl => match us, hl with | [_, _], _ => rfl
theorem B__law_asked (T : Txt P K mg A) : Binds K A.d__law_asked ["text"] [] := T.F__law_asked.binds (ps := ["text"]) fun _ _ _ _ _ _ us hl => match us, hl with | [_], _ => rfl
theorem B_law (T : Txt P K mg A) : Binds K A.d_law ["script"] [] := T.F_law.binds (ps := ["script"]) fun _ _ _ _ _ _ us hl => match us, hl with | [_], _ => rfl
def kg_read_rules_text : List Value → List Value → List Value := fun us ws => match us, ws with | [], [x0] => [x0] | _, _ => []
def kv_read_rules_text : List V → List V → List V := fun us ws => match us, ws with | [], [x0] => [x0] | _, _ => []
theorem KB_read_rules_text (T : Txt P K mg A) : KBinds K A.d_read_rules ["text"] ["text"] kg_read_rules_text kv_read_rules_text := by
  obtain ⟨oc, od, kV, doc, pm, an, cdv, ct, osl, e, _, _⟩ := T.F_read_rules.ex
  rw [e]
  refine ⟨fun s us ws _ hl => ?_, fun {vs us zs ws} r rz => ?_⟩
  · match us, ws, hl with
    | [], [_], _ => exact .of_eq rfl
  · cases r with
    | cons _ _ => exact .nil
    | nil =>
      cases rz with
      | nil => exact .nil
      | cons r0 rz =>
        cases rz with
        | cons _ _ => exact .nil
        | nil => exact (.cons r0 .nil)
end
local macro_rules | `(tactic| walk_at "cond") => `(tactic| first
  | assumption
  | decide
  | exact c_mul_r (by first | decide | omega) (by first | decide | omega)
  | exact c_mul_l (by first | decide | omega) (by first | decide | omega)
  | exact c_div (by first | decide | omega) (by first | decide | omega)
  | exact c_pow (by first | decide | omega) (by first | decide | omega) (by first | decide | omega)
  | omega)
local macro_rules | `(tactic| walk_at "ne") => `(tactic| first
  | assumption
  | (refine Ne.symm ?_; assumption)
  | (refine' Flow.ne ?nh ?nn; (case nn => assumption); (case nh => walk_at "fl"))
  | (refine Ne.symm ?_; refine' Flow.ne ?nh ?nn; (case nn => assumption); (case nh => walk_at "fl"))
  | (refine' ne_of_none ?nh ?nn; (case nn => assumption); (case nh => walk_at "at"))
  | (refine Ne.symm ?_; refine' ne_of_none ?nh ?nn; (case nn => assumption); (case nh => walk_at "at")))
local macro_rules | `(tactic| walk_at "at") => `(tactic| first
  | assumption
  | (refine Same.up (by assumption) ?_; walk_at "at")
  | (refine Keep.up (by assumption) (by walk_at "ne") ?_; walk_at "at"))
local macro_rules | `(tactic| walk_at "fl") => `(tactic| first
  | assumption
  | (refine Flow.same (by assumption) ?_; walk_at "fl")
  | (refine Flow.keep (by assumption) (by walk_at "ne") ?_; walk_at "fl"))
local macro_rules | `(tactic| walk_at "fr") => `(tactic| first
  | assumption
  | (refine same_free (by assumption) ?_; walk_at "fr")
  | (refine Keep.free (by assumption) (by walk_at "ne") ?_; walk_at "fr"))
local macro_rules | `(tactic| walk_at "kp") => `(tactic| first
  | assumption
  | exact Keep.refl _ _
  | (refine Keep.trans ?_ (by assumption); walk_at "kp")
  | (refine Keep.trans ?_ (Keep.same (by assumption)); walk_at "kp"))
local macro_rules | `(tactic| walk_at "sm") => `(tactic| first
  | assumption
  | exact L2.Same.refl _
  | (refine L2.Same.trans ?_ (by assumption); walk_at "sm"))
local macro_rules | `(tactic| walk_at "sz") => `(tactic| first | exact Nat.le_of_ble_eq_true rfl | omega)
local macro_rules | `(tactic| walk_at "new") => `(tactic| (intro p np; generalize hE : upd _ p _ = H2; have s2 := new_same np hE; have h2 := new_at hE; clear hE))
local macro_rules | `(tactic| walk_at "newx") => `(tactic| (intro e d na nd hda; generalize hE : upd (upd _ d _) e _ = H2; have s2 := newx_same na nd hE; have h2 := newx_at hE; have h3 := newx_d hda hE; clear hE))
local macro_rules | `(tactic| walk_at "s1") => `(tactic| first
  | with_reducible refine s_seq ?_
  | with_reducible refine s_asg ?_
  | with_reducible refine s_name ?_
  | with_reducible refine s_ret ?_
  | with_reducible refine s_c ?_
  | ((with_reducible refine' s_var ?hv ?_); (case hv => rfl))
  | with_reducible refine s_op ?_
  | with_reducible refine s_un ?_
  | with_reducible refine s_ifS ?_
  | with_reducible refine s_cb ?_
  | with_reducible refine s_cons ?_
  | with_reducible refine s_nil ?_
  | with_reducible refine s_call ?_
  | with_reducible refine s_test ?_
  | with_reducible refine s_tB ?_
  | with_reducible refine s_bl ?_
  | with_reducible refine s_and ?_
  | with_reducible refine s_or ?_
  | with_reducible refine s_not ?_
  | with_reducible refine s_andV ?_
  | with_reducible refine s_orV ?_
  | with_reducible refine s_notV ?_
  | with_reducible refine s_blV ?_
  | with_reducible refine s_if ?_
  | with_reducible refine s_tup ?_
  | with_reducible refine s_lst ?_
  | with_reducible refine s_drop ?_
  | with_reducible refine s_next ?_
  | with_reducible refine s_sub ?_
  | with_reducible refine s_bm ?_
  | with_reducible refine s_callK ?_
  | with_reducible refine s_brk ?_
  | with_reducible refine s_cont ?_
  | with_reducible refine r_I0 ?_
  | with_reducible refine r_U ?_
  | with_reducible refine r_eqI ?_
  | with_reducible refine r_neI ?_
  | with_reducible refine r_isB ?_
  | with_reducible refine r_notB ?_
  | with_reducible refine i_t ?_
  | with_reducible refine i_f ?_
  | with_reducible refine i_nt ?_
  | with_reducible refine i_nf ?_
  | ((with_reducible refine' r_I ?hc ?_); (case hc => walk_at "cond"))
  | (with_reducible refine .inl ⟨_, rfl, ?_⟩)
  | (with_reducible refine ⟨_, rfl, ?_⟩)
  | ((with_reducible refine' r_ixL ?hx ?ha ?_); (case hx => walk_at "at"); (case ha => rfl))
  | ((with_reducible refine' r_ixT ?hx ?ha ?_); (case hx => walk_at "at"); (case ha => rfl))
  | ((with_reducible refine' r_setL ?hx ?ha ?_); (case hx => walk_at "at"); (case ha => rfl); intro H2 k2 h2; (try dsimp only [List.set, Int.toNat] at h2))
  | ((with_reducible refine' r_app ?hx ?hl ?_); (case hx => walk_at "at"); (case hl => first | exact Nat.lt_of_ble_eq_true rfl | omega); intro H2 k2 h2)
  | ((with_reducible refine' ty_list ?hx ?_); (case hx => walk_at "at"))
  | (refine And.intro (by (with_reducible show _ ≤ sizeLine); walk_at "sz") ?_; walk_at "new")
  | with_reducible refine s_exv ?_
  | walk_at "newx")
local macro_rules | `(tactic| walk_at "sx") => `(tactic| repeat (walk_at "s1"))
local macro_rules | `(tactic| walk_at "s2") => `(tactic| first
  | ((with_reducible refine' r_ixG ?hx ?hn ?_); (case hx => walk_at "at"); (case hn => omega))
  | ((with_reducible refine' r_ixGT ?hx ?hn ?_); (case hx => walk_at "at"); (case hn => omega))
  | (with_reducible refine ig_cons (fun hix => ?_) (fun hix => ?_))
  | ((with_reducible refine ig_nil ?_); omega)
  | ((with_reducible refine' i_T ?hc ?_); (case hc => omega))
  | ((with_reducible refine' i_F ?hc ?_); (case hc => omega))
  | (with_reducible refine i_2 (fun hc => ?_) (fun hc => ?_))
  | (with_reducible refine i_n2 (fun hc => ?_) (fun hc => ?_)))
local macro_rules | `(tactic| walk_at "go") => `(tactic| repeat' (first | walk_at "s1" | walk_at "s2"))

section
variable {P : Program} {w : World} {K : PySem.W.Frag} {mg : Str → Option Value} {base : Heap} {A : Ad}
def spTake : Sp := fun vs H Q _ => ∃ (a : Addr) (m : Int), vs = [.ref a, .int m] ∧ Flow H a ∧ 0 < m ∧ m < 1073741824 ∧ ∀ d H', 0 ≤ d → d < m → Flow H' a → Keep a H H' → Q (.int d) H'
theorem c_take {H : Hp} {Q : VK} {E : XK} {a : Addr} {m : Int} (f : Flow H a) (m0 : 0 < m) (m1 : m < 1073741824) (q : ∀ d H', 0 ≤ d → d < m → Flow H' a → Keep a H H' → Q (.int d) H') : spTake ([.ref a, .int m] ++ []) H Q E := ⟨a, m, rfl, f, m0, m1, q⟩
theorem ok_take (T : Txt P K mg A) : FnOk P w K mg base CX0 1 A.a__law_take A.d__law_take ["flow", "limit"] spTake := by
  refine T.F__law_take.ok sc__law_take (fun vs H Q E h => ?_) (fun cdv A' outer s H vs Q E hr h => ?_)
  · obtain ⟨a, m, rfl, _⟩ := h
    rfl
  · obtain ⟨a, m, rfl, ⟨c, n, b, p, hL⟩, m0, m1, k⟩ := h
    refine ⟨_, (pss_cons (ps_asg (pe_op op_add (pe_ix ix_seq (pv 0) pe_int (fun _ _ => rfl)) pe_int) (pg_sub (pv 0) pe_int set_list))
  (pss_cons (ps_if (pt_val (pe_ix ix_seq (pv 0) pe_int (fun _ _ => rfl))) (pss_cons (ps_set (i := 2) sc__law_take.nd rfl (Or.inl rfl) (pe_op op_mod (pe_callTy call_int1 (by rfl) T.n_int (by decide +kernel) (pa_cons (pe_ix ix_seq (pv 0) pe_int (fun _ _ => rfl)) pa_nil)) (pv 1)))
  (pss_cons (ps_asg (pe_op op_fdiv (pe_ix ix_seq (pv 0) pe_int (fun _ _ => rfl)) (pv 1)) (pg_sub (pv 0) pe_int set_list))
  (pss_one (ps_ret (pv 2))))) pss_nil)
  (pss_cons (ps_set (i := 3) sc__law_take.nd rfl (Or.inl rfl) (pe_op op_mod (pe_callTy call_int1 (by rfl) T.n_int (by decide +kernel) (pa_cons (pe_op op_add (pe_op op_add (pe_op op_mul (pe_ix ix_seq (pv 0) pe_int (fun _ _ => rfl)) pe_int) (pe_op op_mul (pe_ix ix_seq (pv 0) pe_int (fun _ _ => rfl)) pe_int)) (pe_op op_mul (pe_ix ix_seq (pv 0) pe_int (fun _ _ => rfl)) pe_int)) pa_nil)) pe_int))
  (pss_cons (ps_set (i := 3) sc__law_take.nd rfl (Or.inl rfl) (pe_op op_mod (pe_callTy call_int1 (by rfl) T.n_int (by decide +kernel) (pa_cons (pe_op op_add (pe_op op_add (pe_op op_mul (pv 3) pe_int) (pe_op op_mul (pe_ix ix_seq (pv 0) pe_int (fun _ _ => rfl)) pe_int)) pe_int) pa_nil)) pe_int))
  (pss_one (ps_ret (pe_op op_mod (pe_callTy call_int1 (by rfl) T.n_int (by decide +kernel) (pa_cons (pe_op op_fdiv (pv 3) pe_int) pa_nil)) (pv 1)))))))), ?_⟩
    walk_at "sx"
    refine i_b2 (fun hb => ?_) (fun hb => ?_)
    · walk_at "sx"
      exact k _ _ (Int.emod_nonneg _ (by omega)) (Int.emod_lt_of_pos _ m0) ⟨_, _, _, _, by assumption⟩ (by walk_at "kp")
    · walk_at "sx"
      exact k _ _ (Int.emod_nonneg _ (by omega)) (Int.emod_lt_of_pos _ m0) ⟨_, _, _, _, by assumption⟩ (by walk_at "kp")
def spFlow (K : PySem.W.Frag) : Sp := fun vs H Q _ => ∃ (l : Addr) (ns : List Int) (j : Nat), vs = [.ref l, .int (j : Int)] ∧ SqL K H l (ns.map V.int) ∧ ∀ p H', H p = none → Same H H' → Flow H' p → Q (.ref p) H'
theorem c_flow {H : Hp} {Q : VK} {E : XK} {l : Addr} {ns : List Int} {i : Int} (hi : 0 ≤ i) (h : SqL K H l (ns.map V.int)) (q : ∀ p H', H p = none → Same H H' → Flow H' p → Q (.ref p) H') : spFlow K ([.ref l, .int i] ++ []) H Q E :=
  ⟨l, ns, i.toNat, by rw [Int.toNat_of_nonneg hi]; rfl, h, q⟩
theorem ok_flow (T : Txt P K mg A) : FnOk P w K mg base CX0 1 A.a__law_flow A.d__law_flow ["script", "place"] (spFlow K) := by
  refine T.F__law_flow.ok sc__law_flow (fun vs H Q E h => ?_) (fun cdv A' outer s H vs Q E hr h => ?_)
  · obtain ⟨l, ns, j, rfl, _⟩ := h
    rfl
  · obtain ⟨l, ns, j, rfl, hs, k⟩ := h
    refine ⟨_, (pss_cons (ps_set (i := 2) sc__law_flow.nd rfl (Or.inl rfl) pe_int)
  (pss_cons (ps_if (pt_cmpR op_lt (pv 1) (pe_callB call_len (by rfl) T.n_len (by decide +kernel) (pa_cons (pv 0) pa_nil)) (nomark _)) (pss_one (ps_set (i := 2) sc__law_flow.nd rfl (Or.inl rfl) (pe_callB call_abs (by rfl) T.n_abs (by decide +kernel) (pa_cons (pe_callTy call_int1 (by rfl) T.n_int (by decide +kernel) (pa_cons (pe_ix ix_seq (pv 0) (pv 1) (fun _ _ => rfl)) pa_nil)) pa_nil)))) pss_nil)
  (pss_one (ps_ret (pe_lst (pa_cons (pv 2) (pa_cons pe_int (pa_cons (pe_cmpR op_ge (pv 2) (pe_op op_pow pe_int pe_int) (nomark _)) (pa_cons (pv 1) pa_nil))))))))), ?_⟩
    walk_at "sx"
    refine ⟨_, _, rfl, .inl ⟨_, hs, rfl⟩, ?_⟩
    walk_at "sx"
    refine i_2 (fun hb => ?_) (fun hb => ?_)
    · walk_at "sx"
      have hj : j < ns.length := by
        rw [List.length_map] at hb
        omega
      refine r_ixS hs (v := .int (ns[j])) (atI_nat (by rw [List.getElem?_map, List.getElem?_eq_getElem hj]; rfl)) ?_
      walk_at "sx"
      exact k _ _ (by walk_at "fr") (by walk_at "sm") ⟨_, _, _, _, by assumption⟩
    · walk_at "sx"
      exact k _ _ (by walk_at "fr") (by walk_at "sm") ⟨_, _, _, _, by assumption⟩

end
end K09

set_option Elab.async false
set_option linter.all false
set_option maxRecDepth 100000
set_option maxHeartbeats 2000000
namespace K09
open PySem L2 Sx
local macro_rules | `(tactic| walk_at "cond") => `(tactic| first
  | assumption
  | decide
  | exact c_mul_r (by first | decide | omega) (by first | decide | omega)
  | exact c_mul_l (by first | decide | omega) (by first | decide | omega)
  | exact c_div (by first | decide | omega) (by first | decide | omega)
  | exact c_pow (by first | decide | omega) (by first | decide | omega) (by first | decide | omega)
  | omega)
local macro_rules | `(tactic| walk_at "ne") => `(tactic| first
  | assumption
  | (refine Ne.symm ?_; assumption)
  | (refine' Flow.ne ?nh ?nn; (case nn => assumption); (case nh => walk_at "fl"))
  | (refine Ne.symm ?_; refine' Flow.ne ?nh ?nn; (case nn => assumption); (case nh => walk_at "fl"))
  | (refine' ne_of_none ?nh ?nn; (case nn => assumption); (case nh => walk_at "at"))
  | (refine Ne.symm ?_; refine' ne_of_none ?nh ?nn; (case nn => assumption); (case nh => walk_at "at")))
local macro_rules | `(tactic| walk_at "at") => `(tactic| first
  | assumption
  | (refine Same.up (by assumption) ?_; walk_at "at")
  | (refine Keep.up (by assumption) (by walk_at "ne") ?_; walk_at "at"))
local macro_rules | `(tactic| walk_at "fl") => `(tactic| first
  | assumption
  | (refine Flow.same (by assumption) ?_; walk_at "fl")
  | (refine Flow.keep (by assumption) (by walk_at "ne") ?_; walk_at "fl"))
local macro_rules | `(tactic| walk_at "fr") => `(tactic| first
  | assumption
  | (refine same_free (by assumption) ?_; walk_at "fr")
  | (refine Keep.free (by assumption) (by walk_at "ne") ?_; walk_at "fr"))
local macro_rules | `(tactic| walk_at "kp") => `(tactic| first
  | assumption
  | exact Keep.refl _ _
  | (refine Keep.trans ?_ (by assumption); walk_at "kp")
  | (refine Keep.trans ?_ (Keep.same (by assumption)); walk_at "kp"))
local macro_rules | `(tactic| walk_at "sm") => `(tactic| first
  | assumption
  | exact L2.Same.refl _
  | (refine L2.Same.trans ?_ (by assumption); walk_at "sm"))
local macro_rules | `(tactic| walk_at "sz") => `(tactic| first | exact Nat.le_of_ble_eq_true rfl | omega)
local macro_rules | `(tactic| walk_at "new") => `(tactic| (intro p np; generalize hE : upd _ p _ = H2; have s2 := new_same np hE; have h2 := new_at hE; clear hE))
local macro_rules | `(tactic| walk_at "newx") => `(tactic| (intro e d na nd hda; generalize hE : upd (upd _ d _) e _ = H2; have s2 := newx_same na nd hE; have h2 := newx_at hE; have h3 := newx_d hda hE; clear hE))
local macro_rules | `(tactic| walk_at "s1") => `(tactic| first
  | with_reducible refine s_seq ?_
  | with_reducible refine s_asg ?_
  | with_reducible refine s_name ?_
  | with_reducible refine s_ret ?_
  | with_reducible refine s_c ?_
  | ((with_reducible refine' s_var ?hv ?_); (case hv => rfl))
  | with_reducible refine s_op ?_
  | with_reducible refine s_un ?_
  | with_reducible refine s_ifS ?_
  | with_reducible refine s_cb ?_
  | with_reducible refine s_cons ?_
  | with_reducible refine s_nil ?_
  | with_reducible refine s_call ?_
  | with_reducible refine s_test ?_
  | with_reducible refine s_tB ?_
  | with_reducible refine s_bl ?_
  | with_reducible refine s_and ?_
  | with_reducible refine s_or ?_
  | with_reducible refine s_not ?_
  | with_reducible refine s_andV ?_
  | with_reducible refine s_orV ?_
  | with_reducible refine s_notV ?_
  | with_reducible refine s_blV ?_
  | with_reducible refine s_if ?_
  | with_reducible refine s_tup ?_
  | with_reducible refine s_lst ?_
  | with_reducible refine s_drop ?_
  | with_reducible refine s_next ?_
  | with_reducible refine s_sub ?_
  | with_reducible refine s_bm ?_
  | with_reducible refine s_callK ?_
  | with_reducible refine s_brk ?_
  | with_reducible refine s_cont ?_
  | with_reducible refine r_I0 ?_
  | with_reducible refine r_U ?_
  | with_reducible refine r_eqI ?_
  | with_reducible refine r_neI ?_
  | with_reducible refine r_isB ?_
  | with_reducible refine r_notB ?_
  | with_reducible refine i_t ?_
  | with_reducible refine i_f ?_
  | with_reducible refine i_nt ?_
  | with_reducible refine i_nf ?_
  | ((with_reducible refine' r_I ?hc ?_); (case hc => walk_at "cond"))
  | (with_reducible refine .inl ⟨_, rfl, ?_⟩)
  | (with_reducible refine ⟨_, rfl, ?_⟩)
  | ((with_reducible refine' r_ixL ?hx ?ha ?_); (case hx => walk_at "at"); (case ha => rfl))
  | ((with_reducible refine' r_ixT ?hx ?ha ?_); (case hx => walk_at "at"); (case ha => rfl))
  | ((with_reducible refine' r_setL ?hx ?ha ?_); (case hx => walk_at "at"); (case ha => rfl); intro H2 k2 h2; (try dsimp only [List.set, Int.toNat] at h2))
  | ((with_reducible refine' r_app ?hx ?hl ?_); (case hx => walk_at "at"); (case hl => first | exact Nat.lt_of_ble_eq_true rfl | omega); intro H2 k2 h2)
  | ((with_reducible refine' ty_list ?hx ?_); (case hx => walk_at "at"))
  | (refine And.intro (by (with_reducible show _ ≤ sizeLine); walk_at "sz") ?_; walk_at "new")
  | with_reducible refine s_exv ?_
  | walk_at "newx")
local macro_rules | `(tactic| walk_at "sx") => `(tactic| repeat (walk_at "s1"))
local macro_rules | `(tactic| walk_at "s2") => `(tactic| first
  | ((with_reducible refine' r_ixG ?hx ?hn ?_); (case hx => walk_at "at"); (case hn => omega))
  | ((with_reducible refine' r_ixGT ?hx ?hn ?_); (case hx => walk_at "at"); (case hn => omega))
  | (with_reducible refine ig_cons (fun hix => ?_) (fun hix => ?_))
  | ((with_reducible refine ig_nil ?_); omega)
  | ((with_reducible refine' i_T ?hc ?_); (case hc => omega))
  | ((with_reducible refine' i_F ?hc ?_); (case hc => omega))
  | (with_reducible refine i_2 (fun hc => ?_) (fun hc => ?_))
  | (with_reducible refine i_n2 (fun hc => ?_) (fun hc => ?_)))
local macro_rules | `(tactic| walk_at "go") => `(tactic| repeat' (first | walk_at "s1" | walk_at "s2"))

local macro_rules | `(tactic| walk_at "s1") => `(tactic| first
  | with_reducible refine s_chain ?_
  | with_reducible refine s_fldS ?_
  | with_reducible refine s_fld ?_
  | with_reducible refine s_dIn ?_
  | with_reducible refine s_dNotIn ?_
  | with_reducible refine s_sl ?_
  | with_reducible refine s_noPart ?_
  | with_reducible refine s_part ?_
  | with_reducible refine s_meth ?_
  | with_reducible refine s_make ?_)

section
variable {P : Program} {w : World} {K : PySem.W.Frag} {mg : Str → Option Value} {base : Heap} {A : Ad}
/-- a test of one value -/
def spT1 (K : PySem.W.Frag) (f : V → Bool) : Sp := fun vs H Q _ => ∃ v, vs = [v] ∧ NI K H v ∧ Q (.bl (f v)) H
theorem c_t1 {H : Hp} {Q : VK} {E : XK} {f : V → Bool} {v : V} (n : NI K H v) (q : Q (.bl (f v)) H) : spT1 K f ([v] ++ []) H Q E := ⟨v, rfl, n, q⟩
theorem i_cases (v : V) : (∃ i, v = .int i) ∨ isI v = false := by cases v <;> simp [isI]
theorem num_no {f : Int → Bool} {v : V} (h : isI v = false) : num? f v = false := by cases v <;> first | rfl | cases h
theorem ok_isi (T : Txt P K mg A) : FnOk P w K mg base CX0 1 A.a_is_an_integer A.d_is_an_integer ["value"] (spT1 K isI) := by
  refine T.F_is_an_integer.ok sc_is_an_integer (fun vs H Q E h => ?_) (fun cdv A' outer s H vs Q E hr h => ?_)
  · obtain ⟨v, rfl, _⟩ := h
    rfl
  · obtain ⟨v, rfl, ⟨b, c, hb, hc, e⟩, k⟩ := h
    refine ⟨_, (pss_one (ps_ret (pe_and (pe_callB (id := "isinstance") (r := rIsiV K) call_isiV (by rfl) T.n_isinstance (by decide +kernel) (pa_cons (pv 0) (pa_cons (pe_bltn (v := .ty "int") (u := .type "int") (by rfl) T.n_int (by decide +kernel) rfl) pa_nil))) (pe_one (pe_not (pe_callB (id := "isinstance") (r := rIsiV K) call_isiV (by rfl) T.n_isinstance (by decide +kernel) (pa_cons (pv 0) (pa_cons (pe_bltn (v := .ty "bool") (u := .type "bool") (by rfl) T.n_bool (by decide +kernel) rfl) pa_nil)))))))), ?_⟩
    rw [← e] at k
    walk_at "sx"
    refine isi_in hb ?_
    cases b
    · walk_at "sx"
      exact k
    · walk_at "sx"
      refine isi_in hc ?_
      walk_at "sx"
      exact k
abbrev isN : V → Bool := num? fun i => decide (0 ≤ i)
theorem ok_isn (T : Txt P K mg A) : FnOk P w K mg base CX0 2 A.a_is_number A.d_is_number ["value"] (spT1 K isN) := by
  refine T.F_is_number.ok sc_is_number (fun vs H Q E h => ?_) (fun cdv A' outer s H vs Q E hr h => ?_)
  · obtain ⟨v, rfl, _⟩ := h
    rfl
  · obtain ⟨v, rfl, n, k⟩ := h
    have G_is_an_integer := ok_isi (w := w) (base := base) T
    refine ⟨_, (pss_one (ps_ret (pe_and (pe_call G_is_an_integer (hr.mono (by decide)) rfl T.g_is_an_integer T.F_is_an_integer.kp (B_is_an_integer T) .nil pass0 (pa_cons (pv 0) pa_nil)) (pe_one (pe_cmpR op_ge (pv 0) pe_int (nomark _)))))), ?_⟩
    walk_at "sx"
    refine c_t1 n ?_
    rcases i_cases v with ⟨i, rfl⟩ | h
    · walk_at "sx"
      refine iteT ?_
      walk_at "sx"
      exact k
    · have e : isN v = false := num_no h
      rw [e] at k
      rw [h]
      walk_at "sx"
      exact k
theorem ok_isv (T : Txt P K mg A) : FnOk P w K mg base CX0 2 A.a_is_value A.d_is_value ["value"] (spT1 K isBit) := by
  refine T.F_is_value.ok sc_is_value (fun vs H Q E h => ?_) (fun cdv A' outer s H vs Q E hr h => ?_)
  · obtain ⟨v, rfl, _⟩ := h
    rfl
  · obtain ⟨v, rfl, n, k⟩ := h
    have G_is_an_integer := ok_isi (w := w) (base := base) T
    refine ⟨_, (pss_one (ps_ret (pe_and (pe_call G_is_an_integer (hr.mono (by decide)) rfl T.g_is_an_integer T.F_is_an_integer.kp (B_is_an_integer T) .nil pass0 (pa_cons (pv 0) pa_nil)) (pe_one (pe_chain op_le op_le pe_int (pv 0) pe_int))))), ?_⟩
    walk_at "sx"
    refine c_t1 n ?_
    rcases i_cases v with ⟨i, rfl⟩ | h
    · walk_at "sx"
      refine iteT ?_
      have e : isBit (.int i) = (decide (0 ≤ i) && decide (i ≤ 1)) := rfl
      rw [e] at k
      walk_at "sx"
      refine i_2 (fun hc => ?_) (fun hc => ?_)
      · rw [decide_eq_true hc] at k
        walk_at "sx"
        exact k
      · rw [decide_eq_false hc] at k
        exact k
    · have e : isBit v = false := num_no h
      rw [e] at k
      rw [h]
      walk_at "sx"
      exact k
/-- is_row -/
def spRow (K : PySem.W.Frag) : Sp := fun vs H Q _ => ∃ v n, vs = [v, .int n] ∧ ((IsIn K H v "tuple" false ∧ Q (.bl false) H) ∨
  ∃ p xs, v = .ref p ∧ H p = some (.tup xs) ∧ (∀ x ∈ xs, NI K H x) ∧ xs.length < 1000 ∧ ∀ H', Same H H' → Q (.bl (decide ((xs.length : Int) = n) && xs.all isBit)) H')
theorem ok_row (T : Txt P K mg A) : FnOk P w K mg base CX0 3 A.a_is_row A.d_is_row ["value", "size"] (spRow K) := by
  refine T.F_is_row.ok sc_is_row (fun vs H Q E h => ?_) (fun cdv A' outer s H vs Q E hr h => ?_)
  · obtain ⟨v, m, rfl, _⟩ := h
    rfl
  · obtain ⟨v, m, rfl, h⟩ := h
    have G_is_value := ok_isv (w := w) (base := base) T
    refine ⟨_, (pss_one (ps_ret (pe_and (pe_callB (id := "isinstance") (r := rIsiV K) call_isiV (by rfl) T.n_isinstance (by decide +kernel) (pa_cons (pv 0) (pa_cons (pe_bltn (v := .ty "tuple") (u := .type "tuple") (by rfl) T.n_tuple (by decide +kernel) rfl) pa_nil))) (pe_and (pe_cmpR op_eq (pe_callB call_len (by rfl) T.n_len (by decide +kernel) (pa_cons (pv 0) pa_nil)) (pv 1) (nomark _)) (pe_one (pe_callB (cr_all rfl) (by rfl) T.n_all (by decide +kernel) (pa_cons (pe_lc (own := [("member", 2)]) (g := (gName 2)) (by rfl) sc_is_row.nd (pi_tup (pv 0)) (blkOk_by (own := [("member", 2)]) (N := ["value", "size", "member"]) (sc := defScope s_is_row) (by decide +kernel)) (fun _ _ _ _ _ => (pg_name (i := 2) sc_is_row.nd rfl (Or.inl rfl))) (fun _ _ _ _ _ => pts_nil) (fun _ _ _ _ _ => (pe_call G_is_value (hr.mono (by decide)) rfl T.g_is_value T.F_is_value.kp (B_is_value T) .nil pass0 (pa_cons (pv 2) pa_nil)))) pa_nil))))))), ?_⟩
    walk_at "sx"
    rcases h with ⟨no, k⟩ | ⟨p, xs, rfl, hp, mem, sz, k⟩
    · refine isi_in no ?_
      walk_at "sx"
      exact k
    · refine isi_in (in_tup hp) ?_
      walk_at "sx"
      refine ⟨_, _, rfl, .inr ⟨xs, SqT.of hp, rfl⟩, ?_⟩
      walk_at "sx"
      refine i_2 (fun hc => ?_) (fun hc => ?_)
      · rw [decide_eq_true hc] at k
        walk_at "sx"
        refine ⟨_, rfl, p, rfl, ⟨_, SqT.of hp⟩, fun D hD => lc_tup (K := K) (a := p) (xs := xs) (fun i H' => Same H H' ∧ H' D = some (.lst ((xs.take i).map fun x => V.bl (isBit x)))) ⟨Same.new hD, upd_same⟩ (fun i H' _ ⟨s, _⟩ => SqT.of (s _ _ hp)) ?_ ?_⟩
        · rintro i x H' hx ⟨s', hD'⟩
          refine s_name ⟨rfl, ?_⟩
          refine s_yes (i_t ?_)
          walk_at "sx"
          refine c_t1 (ni_same s' (mem x (List.mem_of_getElem? hx))) ?_
          refine ⟨_, hD', ?_, Sx.Same.put s' hD, ?_⟩
          · rw [List.length_map, List.length_take]
            exact Nat.lt_of_le_of_lt (Nat.min_le_right _ _) (by show xs.length < 16777216; omega)
          · rw [upd_same, List.take_succ, hx]
            simp
        · rintro H' ⟨s', hD'⟩
          rw [List.take_length] at hD'
          have e : (xs.map fun x => V.bl (isBit x)) = (xs.map isBit).map V.bl := by
            rw [List.map_map]
            rfl
          rw [e] at hD'
          have k' := k H' s'
          rw [Bool.true_and, show xs.all isBit = (xs.map isBit).all id by rw [List.all_map]; rfl] at k'
          walk_at "sx"
          exact r_all hD' k'
      · rw [decide_eq_false hc] at k
        exact k H (L2.Same.refl _)
end
end K09

set_option Elab.async false
set_option linter.all false
set_option maxRecDepth 100000
set_option maxHeartbeats 2000000
namespace K09
open PySem L2 Sx
local macro_rules | `(tactic| walk_at "cond") => `(tactic| first
  | assumption
  | decide
  | exact c_mul_r (by first | decide | omega) (by first | decide | omega)
  | exact c_mul_l (by first | decide | omega) (by first | decide | omega)
  | exact c_div (by first | decide | omega) (by first | decide | omega)
  | exact c_pow (by first | decide | omega) (by first | decide | omega) (by first | decide | omega)
  | omega)
local macro_rules | `(tactic| walk_at "ne") => `(tactic| first
  | assumption
  | (refine Ne.symm ?_; assumption)
  | (refine' Flow.ne ?nh ?nn; (case nn => assumption); (case nh => walk_at "fl"))
  | (refine Ne.symm ?_; refine' Flow.ne ?nh ?nn; (case nn => assumption); (case nh => walk_at "fl"))
  | (refine' ne_of_none ?nh ?nn; (case nn => assumption); (case nh => walk_at "at"))
  | (refine Ne.symm ?_; refine' ne_of_none ?nh ?nn; (case nn => assumption); (case nh => walk_at "at")))
local macro_rules | `(tactic| walk_at "at") => `(tactic| first
  | assumption
  | (refine Same.up (by assumption) ?_; walk_at "at")
  | (refine Keep.up (by assumption) (by walk_at "ne") ?_; walk_at "at"))
local macro_rules | `(tactic| walk_at "fl") => `(tactic| first
  | assumption
  | (refine Flow.same (by assumption) ?_; walk_at "fl")
  | (refine Flow.keep (by assumption) (by walk_at "ne") ?_; walk_at "fl"))
local macro_rules | `(tactic| walk_at "fr") => `(tactic| first
  | assumption
  | (refine same_free (by assumption) ?_; walk_at "fr")
  | (refine Keep.free (by assumption) (by walk_at "ne") ?_; walk_at "fr"))
local macro_rules | `(tactic| walk_at "kp") => `(tactic| first
  | assumption
  | exact Keep.refl _ _
  | (refine Keep.trans ?_ (by assumption); walk_at "kp")
  | (refine Keep.trans ?_ (Keep.same (by assumption)); walk_at "kp"))
local macro_rules | `(tactic| walk_at "sm") => `(tactic| first
  | assumption
  | exact L2.Same.refl _
  | (refine L2.Same.trans ?_ (by assumption); walk_at "sm"))
local macro_rules | `(tactic| walk_at "sz") => `(tactic| first | exact Nat.le_of_ble_eq_true rfl | omega)
local macro_rules | `(tactic| walk_at "new") => `(tactic| (intro p np; generalize hE : upd _ p _ = H2; have s2 := new_same np hE; have h2 := new_at hE; clear hE))
local macro_rules | `(tactic| walk_at "newx") => `(tactic| (intro e d na nd hda; generalize hE : upd (upd _ d _) e _ = H2; have s2 := newx_same na nd hE; have h2 := newx_at hE; have h3 := newx_d hda hE; clear hE))
local macro_rules | `(tactic| walk_at "s1") => `(tactic| first
  | with_reducible refine s_seq ?_
  | with_reducible refine s_asg ?_
  | with_reducible refine s_name ?_
  | with_reducible refine s_ret ?_
  | with_reducible refine s_c ?_
  | ((with_reducible refine' s_var ?hv ?_); (case hv => rfl))
  | with_reducible refine s_op ?_
  | with_reducible refine s_un ?_
  | with_reducible refine s_ifS ?_
  | with_reducible refine s_cb ?_
  | with_reducible refine s_cons ?_
  | with_reducible refine s_nil ?_
  | with_reducible refine s_call ?_
  | with_reducible refine s_test ?_
  | with_reducible refine s_tB ?_
  | with_reducible refine s_bl ?_
  | with_reducible refine s_and ?_
  | with_reducible refine s_or ?_
  | with_reducible refine s_not ?_
  | with_reducible refine s_andV ?_
  | with_reducible refine s_orV ?_
  | with_reducible refine s_notV ?_
  | with_reducible refine s_blV ?_
  | with_reducible refine s_if ?_
  | with_reducible refine s_tup ?_
  | with_reducible refine s_lst ?_
  | with_reducible refine s_drop ?_
  | with_reducible refine s_next ?_
  | with_reducible refine s_sub ?_
  | with_reducible refine s_bm ?_
  | with_reducible refine s_callK ?_
  | with_reducible refine s_brk ?_
  | with_reducible refine s_cont ?_
  | with_reducible refine r_I0 ?_
  | with_reducible refine r_U ?_
  | with_reducible refine r_eqI ?_
  | with_reducible refine r_neI ?_
  | with_reducible refine r_isB ?_
  | with_reducible refine r_notB ?_
  | with_reducible refine i_t ?_
  | with_reducible refine i_f ?_
  | with_reducible refine i_nt ?_
  | with_reducible refine i_nf ?_
  | ((with_reducible refine' r_I ?hc ?_); (case hc => walk_at "cond"))
  | (with_reducible refine .inl ⟨_, rfl, ?_⟩)
  | (with_reducible refine ⟨_, rfl, ?_⟩)
  | ((with_reducible refine' r_ixL ?hx ?ha ?_); (case hx => walk_at "at"); (case ha => rfl))
  | ((with_reducible refine' r_ixT ?hx ?ha ?_); (case hx => walk_at "at"); (case ha => rfl))
  | ((with_reducible refine' r_setL ?hx ?ha ?_); (case hx => walk_at "at"); (case ha => rfl); intro H2 k2 h2; (try dsimp only [List.set, Int.toNat] at h2))
  | ((with_reducible refine' r_app ?hx ?hl ?_); (case hx => walk_at "at"); (case hl => first | exact Nat.lt_of_ble_eq_true rfl | omega); intro H2 k2 h2)
  | ((with_reducible refine' ty_list ?hx ?_); (case hx => walk_at "at"))
  | (refine And.intro (by (with_reducible show _ ≤ sizeLine); walk_at "sz") ?_; walk_at "new")
  | with_reducible refine s_exv ?_
  | walk_at "newx")
local macro_rules | `(tactic| walk_at "sx") => `(tactic| repeat (walk_at "s1"))
local macro_rules | `(tactic| walk_at "s2") => `(tactic| first
  | ((with_reducible refine' r_ixG ?hx ?hn ?_); (case hx => walk_at "at"); (case hn => omega))
  | ((with_reducible refine' r_ixGT ?hx ?hn ?_); (case hx => walk_at "at"); (case hn => omega))
  | (with_reducible refine ig_cons (fun hix => ?_) (fun hix => ?_))
  | ((with_reducible refine ig_nil ?_); omega)
  | ((with_reducible refine' i_T ?hc ?_); (case hc => omega))
  | ((with_reducible refine' i_F ?hc ?_); (case hc => omega))
  | (with_reducible refine i_2 (fun hc => ?_) (fun hc => ?_))
  | (with_reducible refine i_n2 (fun hc => ?_) (fun hc => ?_)))
local macro_rules | `(tactic| walk_at "go") => `(tactic| repeat' (first | walk_at "s1" | walk_at "s2"))

local macro_rules | `(tactic| walk_at "s1") => `(tactic| first
  | with_reducible refine s_chain ?_
  | with_reducible refine s_fldS ?_
  | with_reducible refine s_fld ?_
  | with_reducible refine s_dIn ?_
  | with_reducible refine s_dNotIn ?_
  | with_reducible refine s_sl ?_
  | with_reducible refine s_noPart ?_
  | with_reducible refine s_part ?_
  | with_reducible refine s_meth ?_
  | with_reducible refine s_make ?_)

section
variable {P : Program} {w : World} {K : PySem.W.Frag} {mg : Str → Option Value} {base : Heap} {A : Ad}
/-- bits -/
def Bits (n : Nat) (r : List Int) : Prop := r.length = n ∧ ∀ x ∈ r, x = 0 ∨ x = 1
abbrev rf (p : Addr × List Int) : V := .ref p.1
/-- rows of n bits that stand each at its place -/
def RowsAt (H : Hp) (n : Nat) (ks : List (Addr × List Int)) : Prop := ∀ p ∈ ks, H p.1 = some (.tup (p.2.map V.int)) ∧ Bits n p.2
theorem RowsAt.same {H H' : Hp} {n : Nat} {ks : List (Addr × List Int)} (e : Same H H') (h : RowsAt H n ks) : RowsAt H' n ks := fun p hp => ⟨e _ _ (h p hp).1, (h p hp).2⟩
theorem bit_all {n : Nat} {r : List Int} (h : Bits n r) : ((r.map V.int).all isBit) = true := by
  rw [List.all_eq_true]
  intro x hx
  obtain ⟨i, hi, rfl⟩ := List.mem_map.mp hx
  rcases h.2 i hi with rfl | rfl <;> rfl
theorem ints_ni {H : Hp} {r : List Int} : ∀ x ∈ r.map V.int, NI K H x := fun x hx => by
  obtain ⟨i, hi, rfl⟩ := List.mem_map.mp hx
  exact ni_int i
theorem c_row {H : Hp} {Q : VK} {E : XK} {p : Addr} {r : List Int} {n m : Nat} (hp : H p = some (.tup (r.map V.int))) (b : Bits m r) (sm : m < 1000) (q : ∀ H', Same H H' → Q (.bl (decide ((m : Int) = n))) H') : spRow K ([.ref p, .int n] ++ []) H Q E :=
  ⟨_, _, rfl, .inr ⟨p, _, rfl, hp, ints_ni, by rw [List.length_map, b.1]; exact sm, fun H' s => by
    rw [bit_all b, Bool.and_true, List.length_map, b.1]
    exact q H' s⟩⟩
theorem kit_any_l : PySem.W.kitAny K (.type "list") [.type "list", .type "tuple"] = some true := kitAny_cons (b := true) (kit_ty (by decide +kernel)) (fun z => nomatch z) (fun _ => rfl)
/-- are_rows of what are rows -/
def spAre : Sp := fun vs H Q _ => ∃ (l : Addr) (n : Nat) (ks : List (Addr × List Int)), vs = [.ref l, .int n] ∧ H l = some (.lst (ks.map rf)) ∧ ks ≠ [] ∧ ks.length < 1000 ∧ n < 1000 ∧ RowsAt H n ks ∧ ∀ H', Same H H' → Q (.bl true) H'
theorem ok_are (T : Txt P K mg A) : FnOk P w K mg base CX0 4 A.a_are_rows A.d_are_rows ["rows", "size"] spAre := by
  refine T.F_are_rows.ok sc_are_rows (fun vs H Q E h => ?_) (fun cdv A' outer s H vs Q E hr h => ?_)
  · obtain ⟨l, n, ks, rfl, _⟩ := h
    rfl
  · obtain ⟨l, n, ks, rfl, hl, ne, sz, sn, rows, k⟩ := h
    have G_is_row := ok_row (w := w) (base := base) T
    refine ⟨_, (pss_cons (ps_if (PW.pt (pw_or (pt_not (pt_val (pe_callB (id := "isinstance") (r := rIsiT K) call_isiT (by rfl) T.n_isinstance (by decide +kernel) (pa_cons (pv 0) (pa_cons (pe_tup (pa_cons (pe_bltn (v := .ty "list") (u := .type "list") (by rfl) T.n_list (by decide +kernel) rfl) (pa_cons (pe_bltn (v := .ty "tuple") (u := .type "tuple") (by rfl) T.n_tuple (by decide +kernel) rfl) pa_nil))) pa_nil))))) (pw_or1 (pt_cmpR op_eq (pe_callB call_len (by rfl) T.n_len (by decide +kernel) (pa_cons (pv 0) pa_nil)) pe_int (nomark _))))) (pss_one (ps_ret pe_bl)) pss_nil)
  (pss_one (ps_ret (pe_callB (cr_all rfl) (by rfl) T.n_all (by decide +kernel) (pa_cons (pe_lc (own := [("row", 2)]) (g := (gName 2)) (by rfl) sc_are_rows.nd (pi_list (pv 0)) (blkOk_by (own := [("row", 2)]) (N := ["rows", "size", "row"]) (sc := defScope s_are_rows) (by decide +kernel)) (fun _ _ _ _ _ => (pg_name (i := 2) sc_are_rows.nd rfl (Or.inl rfl))) (fun _ _ _ _ _ => pts_nil) (fun _ _ _ _ _ => (pe_call G_is_row (hr.mono (by decide)) rfl T.g_is_row T.F_is_row.kp (B_is_row T) .nil pass0 (pa_cons (pv 2) (pa_cons (pv 1) pa_nil))))) pa_nil))))), ?_⟩
    walk_at "sx"
    rename_i pt nt H1 s1 ht
    refine ⟨.ref l, pt, _, _, [.type "list", .type "tuple"], true, rfl, ht, .cons (.ty _) (.cons (.ty _) .nil), .base (.lst (s1 _ _ hl)), kit_any_l, ?_⟩
    walk_at "sx"
    refine ⟨_, _, rfl, .inl ⟨_, SqL.of (s1 _ _ hl), rfl⟩, ?_⟩
    walk_at "sx"
    have hn : ¬ (((ks.map rf).length : Int) = 0) := by
      rw [List.length_map]
      cases ks with
      | nil => exact absurd rfl ne
      | cons a b => simp; omega
    refine i_F hn ?_
    walk_at "sx"
    refine ⟨_, rfl, l, rfl, ⟨_, SqL.of (s1 _ _ hl)⟩, fun D hD => lc_list (K := K) (a := l) (xs := ks.map rf) (fun i H' => Same H1 H' ∧ H' D = some (.lst ((ks.take i).map fun _ => V.bl true))) ⟨Same.new hD, upd_same⟩ (fun i H' _ ⟨s, _⟩ => SqL.of (s _ _ (s1 _ _ hl))) ?_ ?_⟩
    · rintro i x H' hx ⟨s', hD'⟩
      obtain ⟨p, hp, rfl⟩ : ∃ p, ks[i]? = some p ∧ rf p = x := by
        rw [List.getElem?_map] at hx
        exact Option.map_eq_some_iff.mp hx
      obtain ⟨at', b⟩ := rows.same s1 p (List.mem_of_getElem? hp)
      refine s_name ⟨rfl, ?_⟩
      refine s_yes (i_t ?_)
      walk_at "sx"
      refine c_row (s' _ _ at') b sn fun H3 s3 => ?_
      rw [decide_eq_true rfl]
      refine ⟨_, s3 _ _ hD', ?_, Sx.Same.put (s'.trans s3) hD, ?_⟩
      · rw [List.length_map, List.length_take]
        exact Nat.lt_of_le_of_lt (Nat.min_le_right _ _) (by show ks.length < 16777216; omega)
      · rw [upd_same, List.take_succ, hp]
        simp
    · rintro H' ⟨s', hD'⟩
      rw [List.length_map, List.take_length] at hD'
      have e : (ks.map fun _ => V.bl true) = (ks.map fun _ => true).map V.bl := by
        rw [List.map_map]
        rfl
      rw [e] at hD'
      walk_at "sx"
      refine r_all hD' ?_
      have z : ((ks.map fun _ => true).all id) = true := by
        rw [List.all_eq_true]
        intro x hx
        obtain ⟨_, _, rfl⟩ := List.mem_map.mp hx
        rfl
      rw [z]
      exact k _ (s1.trans s')
theorem kit_any_t : PySem.W.kitAny K (.type "tuple") [.type "list", .type "tuple"] = some true := kitAny_cons (b := false) (kit_ty (by decide +kernel)) (fun _ => kitAny_cons (b := true) (kit_ty (by decide +kernel)) (fun z => nomatch z) (fun _ => rfl)) (fun z => nomatch z)
/-- are_rows of what are rows -/
def spAreT : Sp := fun vs H Q _ => ∃ (l : Addr) (n : Nat) (ks : List (Addr × List Int)), vs = [.ref l, .int n] ∧ H l = some (.tup (ks.map rf)) ∧ ks ≠ [] ∧ ks.length < 1000 ∧ n < 1000 ∧ RowsAt H n ks ∧ ∀ H', Same H H' → Q (.bl true) H'
theorem ok_areT (T : Txt P K mg A) : FnOk P w K mg base CX0 4 A.a_are_rows A.d_are_rows ["rows", "size"] spAreT := by
  refine T.F_are_rows.ok sc_are_rows (fun vs H Q E h => ?_) (fun cdv A' outer s H vs Q E hr h => ?_)
  · obtain ⟨l, n, ks, rfl, _⟩ := h
    rfl
  · obtain ⟨l, n, ks, rfl, hl, ne, sz, sn, rows, k⟩ := h
    have G_is_row := ok_row (w := w) (base := base) T
    refine ⟨_, (pss_cons (ps_if (PW.pt (pw_or (pt_not (pt_val (pe_callB (id := "isinstance") (r := rIsiT K) call_isiT (by rfl) T.n_isinstance (by decide +kernel) (pa_cons (pv 0) (pa_cons (pe_tup (pa_cons (pe_bltn (v := .ty "list") (u := .type "list") (by rfl) T.n_list (by decide +kernel) rfl) (pa_cons (pe_bltn (v := .ty "tuple") (u := .type "tuple") (by rfl) T.n_tuple (by decide +kernel) rfl) pa_nil))) pa_nil))))) (pw_or1 (pt_cmpR op_eq (pe_callB call_len (by rfl) T.n_len (by decide +kernel) (pa_cons (pv 0) pa_nil)) pe_int (nomark _))))) (pss_one (ps_ret pe_bl)) pss_nil)
  (pss_one (ps_ret (pe_callB (cr_all rfl) (by rfl) T.n_all (by decide +kernel) (pa_cons (pe_lc (own := [("row", 2)]) (g := (gName 2)) (by rfl) sc_are_rows.nd (pi_tup (pv 0)) (blkOk_by (own := [("row", 2)]) (N := ["rows", "size", "row"]) (sc := defScope s_are_rows) (by decide +kernel)) (fun _ _ _ _ _ => (pg_name (i := 2) sc_are_rows.nd rfl (Or.inl rfl))) (fun _ _ _ _ _ => pts_nil) (fun _ _ _ _ _ => (pe_call G_is_row (hr.mono (by decide)) rfl T.g_is_row T.F_is_row.kp (B_is_row T) .nil pass0 (pa_cons (pv 2) (pa_cons (pv 1) pa_nil))))) pa_nil))))), ?_⟩
    walk_at "sx"
    rename_i pt nt H1 s1 ht
    refine ⟨.ref l, pt, _, _, [.type "list", .type "tuple"], true, rfl, ht, .cons (.ty _) (.cons (.ty _) .nil), .base (.tup (s1 _ _ hl)), kit_any_t, ?_⟩
    walk_at "sx"
    refine ⟨_, _, rfl, .inr ⟨_, SqT.of (s1 _ _ hl), rfl⟩, ?_⟩
    walk_at "sx"
    have hn : ¬ (((ks.map rf).length : Int) = 0) := by
      rw [List.length_map]
      cases ks with
      | nil => exact absurd rfl ne
      | cons a b => simp; omega
    refine i_F hn ?_
    walk_at "sx"
    refine ⟨_, rfl, l, rfl, ⟨_, SqT.of (s1 _ _ hl)⟩, fun D hD => lc_tup (K := K) (a := l) (xs := ks.map rf) (fun i H' => Same H1 H' ∧ H' D = some (.lst ((ks.take i).map fun _ => V.bl true))) ⟨Same.new hD, upd_same⟩ (fun i H' _ ⟨s, _⟩ => SqT.of (s _ _ (s1 _ _ hl))) ?_ ?_⟩
    · rintro i x H' hx ⟨s', hD'⟩
      obtain ⟨p, hp, rfl⟩ : ∃ p, ks[i]? = some p ∧ rf p = x := by
        rw [List.getElem?_map] at hx
        exact Option.map_eq_some_iff.mp hx
      obtain ⟨at', b⟩ := rows.same s1 p (List.mem_of_getElem? hp)
      refine s_name ⟨rfl, ?_⟩
      refine s_yes (i_t ?_)
      walk_at "sx"
      refine c_row (s' _ _ at') b sn fun H3 s3 => ?_
      rw [decide_eq_true rfl]
      refine ⟨_, s3 _ _ hD', ?_, Sx.Same.put (s'.trans s3) hD, ?_⟩
      · rw [List.length_map, List.length_take]
        exact Nat.lt_of_le_of_lt (Nat.min_le_right _ _) (by show ks.length < 16777216; omega)
      · rw [upd_same, List.take_succ, hp]
        simp
    · rintro H' ⟨s', hD'⟩
      rw [List.length_map, List.take_length] at hD'
      have e : (ks.map fun _ => V.bl true) = (ks.map fun _ => true).map V.bl := by
        rw [List.map_map]
        rfl
      rw [e] at hD'
      walk_at "sx"
      refine r_all hD' ?_
      have z : ((ks.map fun _ => true).all id) = true := by
        rw [List.all_eq_true]
        intro x hx
        obtain ⟨_, _, rfl⟩ := List.mem_map.mp hx
        rfl
      rw [z]
      exact k _ (s1.trans s')
end
end K09

set_option Elab.async false
set_option linter.all false
set_option maxRecDepth 100000
set_option maxHeartbeats 4000000
namespace K09
open PySem L2 Sx
local macro_rules | `(tactic| walk_at "cond") => `(tactic| first
  | assumption
  | decide
  | exact c_mul_r (by first | decide | omega) (by first | decide | omega)
  | exact c_mul_l (by first | decide | omega) (by first | decide | omega)
  | exact c_div (by first | decide | omega) (by first | decide | omega)
  | exact c_pow (by first | decide | omega) (by first | decide | omega) (by first | decide | omega)
  | omega)
local macro_rules | `(tactic| walk_at "ne") => `(tactic| first
  | assumption
  | (refine Ne.symm ?_; assumption)
  | (refine' Flow.ne ?nh ?nn; (case nn => assumption); (case nh => walk_at "fl"))
  | (refine Ne.symm ?_; refine' Flow.ne ?nh ?nn; (case nn => assumption); (case nh => walk_at "fl"))
  | (refine' ne_of_none ?nh ?nn; (case nn => assumption); (case nh => walk_at "at"))
  | (refine Ne.symm ?_; refine' ne_of_none ?nh ?nn; (case nn => assumption); (case nh => walk_at "at")))
local macro_rules | `(tactic| walk_at "at") => `(tactic| first
  | assumption
  | (refine Same.up (by assumption) ?_; walk_at "at")
  | (refine Keep.up (by assumption) (by walk_at "ne") ?_; walk_at "at"))
local macro_rules | `(tactic| walk_at "fl") => `(tactic| first
  | assumption
  | (refine Flow.same (by assumption) ?_; walk_at "fl")
  | (refine Flow.keep (by assumption) (by walk_at "ne") ?_; walk_at "fl"))
local macro_rules | `(tactic| walk_at "fr") => `(tactic| first
  | assumption
  | (refine same_free (by assumption) ?_; walk_at "fr")
  | (refine Keep.free (by assumption) (by walk_at "ne") ?_; walk_at "fr"))
local macro_rules | `(tactic| walk_at "kp") => `(tactic| first
  | assumption
  | exact Keep.refl _ _
  | (refine Keep.trans ?_ (by assumption); walk_at "kp")
  | (refine Keep.trans ?_ (Keep.same (by assumption)); walk_at "kp"))
local macro_rules | `(tactic| walk_at "sm") => `(tactic| first
  | assumption
  | exact L2.Same.refl _
  | (refine L2.Same.trans ?_ (by assumption); walk_at "sm"))
local macro_rules | `(tactic| walk_at "sz") => `(tactic| first | exact Nat.le_of_ble_eq_true rfl | omega)
local macro_rules | `(tactic| walk_at "new") => `(tactic| (intro p np; generalize hE : upd _ p _ = H2; have s2 := new_same np hE; have h2 := new_at hE; clear hE))
local macro_rules | `(tactic| walk_at "newx") => `(tactic| (intro e d na nd hda; generalize hE : upd (upd _ d _) e _ = H2; have s2 := newx_same na nd hE; have h2 := newx_at hE; have h3 := newx_d hda hE; clear hE))
local macro_rules | `(tactic| walk_at "s1") => `(tactic| first
  | with_reducible refine s_seq ?_
  | with_reducible refine s_asg ?_
  | with_reducible refine s_name ?_
  | with_reducible refine s_ret ?_
  | with_reducible refine s_c ?_
  | ((with_reducible refine' s_var ?hv ?_); (case hv => rfl))
  | with_reducible refine s_op ?_
  | with_reducible refine s_un ?_
  | with_reducible refine s_ifS ?_
  | with_reducible refine s_cb ?_
  | with_reducible refine s_cons ?_
  | with_reducible refine s_nil ?_
  | with_reducible refine s_call ?_
  | with_reducible refine s_test ?_
  | with_reducible refine s_tB ?_
  | with_reducible refine s_bl ?_
  | with_reducible refine s_and ?_
  | with_reducible refine s_or ?_
  | with_reducible refine s_not ?_
  | with_reducible refine s_andV ?_
  | with_reducible refine s_orV ?_
  | with_reducible refine s_notV ?_
  | with_reducible refine s_blV ?_
  | with_reducible refine s_if ?_
  | with_reducible refine s_tup ?_
  | with_reducible refine s_lst ?_
  | with_reducible refine s_drop ?_
  | with_reducible refine s_next ?_
  | with_reducible refine s_sub ?_
  | with_reducible refine s_bm ?_
  | with_reducible refine s_callK ?_
  | with_reducible refine s_brk ?_
  | with_reducible refine s_cont ?_
  | with_reducible refine r_I0 ?_
  | with_reducible refine r_U ?_
  | with_reducible refine r_eqI ?_
  | with_reducible refine r_neI ?_
  | with_reducible refine r_isB ?_
  | with_reducible refine r_notB ?_
  | with_reducible refine i_t ?_
  | with_reducible refine i_f ?_
  | with_reducible refine i_nt ?_
  | with_reducible refine i_nf ?_
  | ((with_reducible refine' r_I ?hc ?_); (case hc => walk_at "cond"))
  | (with_reducible refine .inl ⟨_, rfl, ?_⟩)
  | (with_reducible refine ⟨_, rfl, ?_⟩)
  | ((with_reducible refine' r_ixL ?hx ?ha ?_); (case hx => walk_at "at"); (case ha => rfl))
  | ((with_reducible refine' r_ixT ?hx ?ha ?_); (case hx => walk_at "at"); (case ha => rfl))
  | ((with_reducible refine' r_setL ?hx ?ha ?_); (case hx => walk_at "at"); (case ha => rfl); intro H2 k2 h2; (try dsimp only [List.set, Int.toNat] at h2))
  | ((with_reducible refine' r_app ?hx ?hl ?_); (case hx => walk_at "at"); (case hl => first | exact Nat.lt_of_ble_eq_true rfl | omega); intro H2 k2 h2)
  | ((with_reducible refine' ty_list ?hx ?_); (case hx => walk_at "at"))
  | (refine And.intro (by (with_reducible show _ ≤ sizeLine); walk_at "sz") ?_; walk_at "new")
  | with_reducible refine s_exv ?_
  | walk_at "newx")
local macro_rules | `(tactic| walk_at "sx") => `(tactic| repeat (walk_at "s1"))
local macro_rules | `(tactic| walk_at "s2") => `(tactic| first
  | ((with_reducible refine' r_ixG ?hx ?hn ?_); (case hx => walk_at "at"); (case hn => omega))
  | ((with_reducible refine' r_ixGT ?hx ?hn ?_); (case hx => walk_at "at"); (case hn => omega))
  | (with_reducible refine ig_cons (fun hix => ?_) (fun hix => ?_))
  | ((with_reducible refine ig_nil ?_); omega)
  | ((with_reducible refine' i_T ?hc ?_); (case hc => omega))
  | ((with_reducible refine' i_F ?hc ?_); (case hc => omega))
  | (with_reducible refine i_2 (fun hc => ?_) (fun hc => ?_))
  | (with_reducible refine i_n2 (fun hc => ?_) (fun hc => ?_)))
local macro_rules | `(tactic| walk_at "go") => `(tactic| repeat' (first | walk_at "s1" | walk_at "s2"))

local macro_rules | `(tactic| walk_at "s1") => `(tactic| first
  | with_reducible refine s_chain ?_
  | with_reducible refine s_fldS ?_
  | with_reducible refine s_fld ?_
  | with_reducible refine s_dIn ?_
  | with_reducible refine s_dNotIn ?_
  | with_reducible refine s_sl ?_
  | with_reducible refine s_noPart ?_
  | with_reducible refine s_part ?_
  | with_reducible refine s_meth ?_
  | with_reducible refine s_make ?_)

section
variable {P : Program} {w : World} {K : PySem.W.Frag} {mg : Str → Option Value} {base : Heap} {A : Ad}
abbrev rkey (p : Addr × List Int) : List L2.Key × V := (p.2.map Sum.inl, .bl true)
/-- the rows ascending, each once -/
def Asc (ks : List (Addr × List Int)) : Prop := (ks.map (·.2)).Nodup ∧ ks.Pairwise (fun q r => TS.code 2 q.2 ≤ TS.code 2 r.2)
/-- a list of rules stands at x: its rows ks, each at its place -/
def RuAt (C : Addr) (H : Hp) (x : Addr) (n : Nat) (ks : List (Addr × List Int)) : Prop := ∃ dx t kn, H x = some (.ins C dx [("size", .int n), ("rows", .ref t), ("_known", .ref kn)]) ∧ H t = some (.tup (ks.map rf)) ∧ H kn = some (.dT (ks.map rkey)) ∧
  RowsAt H n ks ∧ Asc ks ∧ ks ≠ [] ∧ ks.length < 64
theorem RuAt.same {C : Addr} {H H' : Hp} {x : Addr} {n : Nat} {ks : List (Addr × List Int)} (e : Same H H') (h : RuAt C H x n ks) : RuAt C H' x n ks := by
  obtain ⟨dx, t, kn, h1, h2, h3, h4, h5⟩ := h
  exact ⟨dx, t, kn, e _ _ h1, e _ _ h2, e _ _ h3, h4.same e, h5⟩
theorem bits_bd {n : Nat} {r : List Int} (h : Bits n r) : TS.Bd 2 r := fun m hm => by
  rcases h.2 m hm with rfl | rfl <;> decide
theorem rf_sq {H : Hp} {n : Nat} {ks : List (Addr × List Int)} (h : RowsAt H n ks) : ∀ p ∈ ks, SqT K H p.1 (p.2.map V.int) := fun p hp => SqT.of (h p hp).1
/-- what is made of the rows of a sequence: the same rows, ascending, each once -/
def Of (ks ks' : List (Addr × List Int)) : Prop := (∀ p ∈ ks', p ∈ ks) ∧ (∀ p ∈ ks, p.2 ∈ ks'.map (·.2)) ∧ Asc ks' ∧ ks' ≠ [] ∧ ks'.length < 64
theorem one_pw {α : Type} {R : α → α → Prop} : ∀ {L : List α}, L.length ≤ 1 → L.Pairwise R
  | [], _ => .nil
  | [_], _ => List.pairwise_singleton _ _
theorem of_ne {ks L : List (Addr × List Int)} (ne : ks ≠ []) (all : ∀ p ∈ ks, p.2 ∈ L.map (·.2)) : L ≠ [] := fun e => by
  subst e
  cases ks with
  | nil => exact ne rfl
  | cons q r => exact nomatch all q List.mem_cons_self
theorem inl_inj : ∀ {r r' : List Int}, (r.map Sum.inl : List L2.Key) = r'.map Sum.inl → r = r'
  | [], [], _ => rfl
  | a :: r, b :: r', e => by
    rw [List.map_cons, List.map_cons] at e
    obtain ⟨h1, h2⟩ := List.cons.inj e
    rw [Sum.inl.inj h1, inl_inj h2]
theorem valV_none {κ : Type} [DecidableEq κ] {k : κ} : ∀ {kvs : List (κ × V)}, (∀ p ∈ kvs, p.1 ≠ k) → valV kvs k = none
  | [], _ => rfl
  | p :: r, h => by
    rw [valV_neg (h p List.mem_cons_self)]
    exact valV_none fun q hq => h q (List.mem_cons_of_mem _ hq)
theorem rkeys_next {L : List (Addr × List Int)} (nd : (L.map (·.2)).Nodup) {i : Nat} {q : Addr × List Int} (hq : L[i]? = some q) : putK ((L.take i).map rkey) (q.2.map Sum.inl) (.bl true) = (L.take (i + 1)).map rkey := by
  rw [List.take_succ, hq, putK_new]
  · simp
  · refine valV_none fun p hp e => ?_
    obtain ⟨z, hz, rfl⟩ := List.mem_map.mp hp
    have e2 : z.2 = q.2 := inl_inj e
    obtain ⟨j, hj, hjz⟩ := List.getElem_of_mem hz
    rw [List.length_take] at hj
    have hji : j < i := by omega
    have hjl : j < L.length := by omega
    rw [List.getElem_take] at hjz
    have hil : i < L.length := (List.getElem?_eq_some_iff.mp hq).1
    have hqi : L[i] = q := (List.getElem?_eq_some_iff.mp hq).2
    have z1 := List.pairwise_iff_getElem.mp nd j i (by rw [List.length_map]; exact hjl) (by rw [List.length_map]; exact hil) hji
    apply z1
    rw [List.getElem_map, List.getElem_map, hjz, hqi]
    exact e2
def spMake (C : Addr) : Sp := fun vs H Q _ => ∃ (x dx l : Addr) (n : Nat) (ks : List (Addr × List Int)), vs = [.ref x, .int n, .ref l] ∧ H x = some (.ins C dx []) ∧ H l = some (.lst (ks.map rf)) ∧ ks ≠ [] ∧ ks.length < 64 ∧ n < 1000 ∧ RowsAt H n ks ∧
  (∀ p ∈ ks, p.1 ≠ x) ∧ ∀ H' ks', Keep x H H' → Of ks ks' → RuAt C H' x n ks' → Q .non H'
theorem ok_make (T : Txt P K mg A) : FnOk P w K mg base CX0 5 A.a_Rules____init__ A.d_Rules____init__ ["self", "size", "rows"] (spMake A.c_Rules) := by
  refine T.F_Rules____init__.ok sc_Rules____init__ (fun vs H Q E h => ?_) (fun cdv A' outer s H vs Q E hr h => ?_)
  · obtain ⟨x, dx, l, n, ks, rfl, _⟩ := h
    rfl
  · obtain ⟨x, dx, l, n, ks, rfl, hx, hl, ne, sz, sn, rows, nx, k⟩ := h
    have G_is_number := ok_isn (w := w) (base := base) T
    have G_are_rows := ok_are (w := w) (base := base) T
    have en : isN (.int (n : Int)) = true := decide_eq_true (Int.natCast_nonneg n)
    have lx : l ≠ x := ne_of hl hx fun z => nomatch z
    rcases Nat.eq_zero_or_pos n with n0 | n0
    · refine ⟨_, (pss_cons (ps_if (PW.pt (pw_or (pt_not (pt_val (pe_call G_is_number (hr.mono (by decide)) rfl T.g_is_number T.F_is_number.kp (B_is_number T) .nil pass0 (pa_cons (pv 1) pa_nil)))) (pw_or1 (pt_not (pt_val (pe_call G_are_rows (hr.mono (by decide)) rfl T.g_are_rows T.F_are_rows.kp (B_are_rows T) .nil pass0 (pa_cons (pv 2) (pa_cons (pv 1) pa_nil)))))))) (pss_one ps_never) pss_nil)
  (pss_cons (ps_fld (pv 0) (pv 1) (by rfl))
  (pss_cons (ps_fld (pv 0) (pe_callTy call_tuple_of (by rfl) T.n_tuple (by decide +kernel) (pa_cons (pe_callB (cr_sortedOne rfl) (by rfl) T.n_sorted (by decide +kernel) (pa_cons (pe_callTy (cr_setOfT rfl hr.units) (by rfl) T.n_set (by decide +kernel) (pa_cons (pv 2) pa_nil)) pa_nil)) pa_nil)) (by rfl))
  (pss_one (ps_fld (pv 0) (pe_dcP (u0 := .dT []) (own := [("row", 3)]) (g := (gName 3)) (.inr rfl) hr.units0 rfl sc_Rules____init__.nd (pi_tup (pe_fld (pv 0) rfl)) (blkOk_by (own := [("row", 3)]) (N := ["self", "size", "rows", "row"]) (sc := defScope s_Rules____init__) (by decide +kernel)) ⟨fun _ _ _ _ _ => (pg_name (i := 3) sc_Rules____init__.nd rfl (Or.inl rfl)), fun _ _ _ _ _ => pts_nil, fun _ _ _ _ _ => (pv 3), fun _ _ _ _ _ => pe_bl⟩) (by rfl)))))), ?_⟩
      walk_at "sx"
      refine c_t1 (ni_int _) ?_
      rw [en]
      walk_at "sx"
      refine ⟨l, n, ks, rfl, hl, ne, by omega, sn, rows, fun H1 s1 => ?_⟩
      walk_at "sx"
      refine r_put rfl (s1 _ _ hx) T.cl_Rules T.no_Rules_size (by decide) (fun H2 k2 h2 => ?_)
      walk_at "sx"
      refine ⟨l, ks, rfl, SqL.of (k2 _ _ lx (s1 _ _ hl)), fun p hp => SqT.of (k2 _ _ (nx p hp) (s1 _ _ (rows p hp).1)), sz, fun a L na sub all => ?_⟩
      generalize hE3 : upd H2 a _ = H3
      have s3 := new_same na hE3
      have h3 := new_at hE3
      walk_at "sx"
      refine ⟨a, L, rfl, h3, fun p hp => SqT.of (s3 _ _ (k2 _ _ (nx p (sub p hp)) (s1 _ _ (rows p (sub p hp)).1))), fun p hp => ?_, fun nd one p np => ?_⟩
      · have := (rows p (sub p hp)).2.1
        exact List.eq_nil_of_length_eq_zero (by omega)
      have of' : Of ks L := ⟨sub, all, ⟨nd, one_pw one⟩, of_ne ne all, by omega⟩
      generalize hE4 : upd H3 p _ = H4
      have s4 := new_same np hE4
      have h4 := new_at hE4
      walk_at "sx"
      refine ⟨p, _, rfl, .inl ⟨SqL.of h4, fun t nt => ?_⟩⟩
      generalize hE5 : upd H4 t _ = H5
      have s5 := new_same nt hE5
      have h5 := new_at hE5
      have hx4 := s4 _ _ (s3 _ _ h2)
      have tx : t ≠ x := fun e => by rw [e, hx4] at nt; cases nt
      walk_at "sx"
      refine r_put rfl (s5 _ _ hx4) T.cl_Rules T.no_Rules_rows (Nat.le_of_ble_eq_true rfl) (fun H6 k6 h6 => ?_)
      have rows6 : RowsAt H6 n L := fun q hq => ⟨k6 _ _ (nx q (of'.1 q hq)) (s5 _ _ (s4 _ _ (s3 _ _ (k2 _ _ (nx q (of'.1 q hq)) (s1 _ _ (rows q (of'.1 q hq)).1))))), (rows q (of'.1 q hq)).2⟩
      walk_at "sx"
      refine ⟨_, rfl, _, _, _, _, _, rfl, h6, T.cl_Rules, T.no_Rules_rows, rfl, t, rfl, ⟨_, SqT.of (k6 _ _ tx h5)⟩, fun D hD => dcp_tup (K := K) (a := t) (xs := L.map rf) (fun i H' => Same H6 H' ∧ H' D = some (.dT ((L.take i).map rkey))) ⟨Same.new hD, upd_same⟩ (fun i H' _ ⟨s, _⟩ => SqT.of (s _ _ (k6 _ _ tx h5))) ?_ ?_⟩
      · rintro i y H' hy ⟨s', hD'⟩
        obtain ⟨q, hq, rfl⟩ : ∃ q, L[i]? = some q ∧ rf q = y := by
          rw [List.getElem?_map] at hy
          exact Option.map_eq_some_iff.mp hy
        have hm := List.mem_of_getElem? hq
        refine s_name ⟨rfl, ?_⟩
        refine s_yes (i_t ?_)
        walk_at "sx"
        refine ⟨_, DPut.t (k := q.2.map Sum.inl) hD' ?_ ?_, Sx.Same.put s' hD, ?_⟩
        · rw [List.map_map]
          exact s' _ _ (rows6 q hm).1
        · rw [List.length_map, List.length_take]
          exact Nat.lt_of_le_of_lt (Nat.min_le_right _ _) (by show L.length < 16777216; have := of'.2.2.2.2; omega)
        · rw [upd_same, rkeys_next of'.2.2.1.1 hq]
      · rintro H' ⟨s', hD'⟩
        rw [List.length_map, List.take_length] at hD'
        have dx' : D ≠ x := fun e => by rw [e, h6] at hD; cases hD
        walk_at "sx"
        refine r_put rfl (s' _ _ h6) T.cl_Rules T.no_Rules__known (Nat.le_of_ble_eq_true rfl) (fun H7 k7 h7 => ?_)
        walk_at "sx"
        refine k H7 L ?_ of' ⟨dx, t, D, h7, k7 _ _ tx (s' _ _ (k6 _ _ tx h5)), k7 _ _ dx' hD', fun q hq => ⟨k7 _ _ (nx q (of'.1 q hq)) (s' _ _ (rows6 q hq).1), (rows6 q hq).2⟩, of'.2.2.1, of'.2.2.2.1, of'.2.2.2.2⟩
        exact (Keep.same s1).trans (k2.trans ((Keep.same s3).trans ((Keep.same s4).trans ((Keep.same s5).trans (k6.trans ((Keep.same s').trans k7))))))
    · refine ⟨_, (pss_cons (ps_if (PW.pt (pw_or (pt_not (pt_val (pe_call G_is_number (hr.mono (by decide)) rfl T.g_is_number T.F_is_number.kp (B_is_number T) .nil pass0 (pa_cons (pv 1) pa_nil)))) (pw_or1 (pt_not (pt_val (pe_call G_are_rows (hr.mono (by decide)) rfl T.g_are_rows T.F_are_rows.kp (B_are_rows T) .nil pass0 (pa_cons (pv 2) (pa_cons (pv 1) pa_nil)))))))) (pss_one ps_never) pss_nil)
  (pss_cons (ps_fld (pv 0) (pv 1) (by rfl))
  (pss_cons (ps_fld (pv 0) (pe_callTy call_tuple_of (by rfl) T.n_tuple (by decide +kernel) (pa_cons (pe_callB (cr_sortedT rfl) (by rfl) T.n_sorted (by decide +kernel) (pa_cons (pe_callTy (cr_setOfT rfl hr.units) (by rfl) T.n_set (by decide +kernel) (pa_cons (pv 2) pa_nil)) pa_nil)) pa_nil)) (by rfl))
  (pss_one (ps_fld (pv 0) (pe_dcP (u0 := .dT []) (own := [("row", 3)]) (g := (gName 3)) (.inr rfl) hr.units0 rfl sc_Rules____init__.nd (pi_tup (pe_fld (pv 0) rfl)) (blkOk_by (own := [("row", 3)]) (N := ["self", "size", "rows", "row"]) (sc := defScope s_Rules____init__) (by decide +kernel)) ⟨fun _ _ _ _ _ => (pg_name (i := 3) sc_Rules____init__.nd rfl (Or.inl rfl)), fun _ _ _ _ _ => pts_nil, fun _ _ _ _ _ => (pv 3), fun _ _ _ _ _ => pe_bl⟩) (by rfl)))))), ?_⟩
      walk_at "sx"
      refine c_t1 (ni_int _) ?_
      rw [en]
      walk_at "sx"
      refine ⟨l, n, ks, rfl, hl, ne, by omega, sn, rows, fun H1 s1 => ?_⟩
      walk_at "sx"
      refine r_put rfl (s1 _ _ hx) T.cl_Rules T.no_Rules_size (by decide) (fun H2 k2 h2 => ?_)
      walk_at "sx"
      refine ⟨l, ks, rfl, SqL.of (k2 _ _ lx (s1 _ _ hl)), fun p hp => SqT.of (k2 _ _ (nx p hp) (s1 _ _ (rows p hp).1)), sz, fun a L na sub all => ?_⟩
      generalize hE3 : upd H2 a _ = H3
      have s3 := new_same na hE3
      have h3 := new_at hE3
      walk_at "sx"
      refine ⟨a, L, n, 2, rfl, h3, fun p hp => SqT.of (s3 _ _ (k2 _ _ (nx p (sub p hp)) (s1 _ _ (rows p (sub p hp)).1))), n0, fun p hp => ⟨(rows p (sub p hp)).2.1, bits_bd (rows p (sub p hp)).2⟩, fun L' p pm nd len pw np => ?_⟩
      have of' : Of ks L' := ⟨fun q hq => sub q (pm.mem_iff.mp hq), fun q hq => (pm.map (·.2)).mem_iff.mpr (all q hq), ⟨nd, pw⟩, fun e => of_ne ne all (by rw [e] at pm; exact pm.symm.eq_nil), len⟩
      generalize hE4 : upd H3 p _ = H4
      have s4 := new_same np hE4
      have h4 := new_at hE4
      walk_at "sx"
      refine ⟨p, _, rfl, .inl ⟨SqL.of h4, fun t nt => ?_⟩⟩
      generalize hE5 : upd H4 t _ = H5
      have s5 := new_same nt hE5
      have h5 := new_at hE5
      have hx4 := s4 _ _ (s3 _ _ h2)
      have tx : t ≠ x := fun e => by rw [e, hx4] at nt; cases nt
      walk_at "sx"
      refine r_put rfl (s5 _ _ hx4) T.cl_Rules T.no_Rules_rows (Nat.le_of_ble_eq_true rfl) (fun H6 k6 h6 => ?_)
      have rows6 : RowsAt H6 n L' := fun q hq => ⟨k6 _ _ (nx q (of'.1 q hq)) (s5 _ _ (s4 _ _ (s3 _ _ (k2 _ _ (nx q (of'.1 q hq)) (s1 _ _ (rows q (of'.1 q hq)).1))))), (rows q (of'.1 q hq)).2⟩
      walk_at "sx"
      refine ⟨_, rfl, _, _, _, _, _, rfl, h6, T.cl_Rules, T.no_Rules_rows, rfl, t, rfl, ⟨_, SqT.of (k6 _ _ tx h5)⟩, fun D hD => dcp_tup (K := K) (a := t) (xs := L'.map rf) (fun i H' => Same H6 H' ∧ H' D = some (.dT ((L'.take i).map rkey))) ⟨Same.new hD, upd_same⟩ (fun i H' _ ⟨s, _⟩ => SqT.of (s _ _ (k6 _ _ tx h5))) ?_ ?_⟩
      · rintro i y H' hy ⟨s', hD'⟩
        obtain ⟨q, hq, rfl⟩ : ∃ q, L'[i]? = some q ∧ rf q = y := by
          rw [List.getElem?_map] at hy
          exact Option.map_eq_some_iff.mp hy
        have hm := List.mem_of_getElem? hq
        refine s_name ⟨rfl, ?_⟩
        refine s_yes (i_t ?_)
        walk_at "sx"
        refine ⟨_, DPut.t (k := q.2.map Sum.inl) hD' ?_ ?_, Sx.Same.put s' hD, ?_⟩
        · rw [List.map_map]
          exact s' _ _ (rows6 q hm).1
        · rw [List.length_map, List.length_take]
          exact Nat.lt_of_le_of_lt (Nat.min_le_right _ _) (by show L'.length < 16777216; have := of'.2.2.2.2; omega)
        · rw [upd_same, rkeys_next of'.2.2.1.1 hq]
      · rintro H' ⟨s', hD'⟩
        rw [List.length_map, List.take_length] at hD'
        have dx' : D ≠ x := fun e => by rw [e, h6] at hD; cases hD
        walk_at "sx"
        refine r_put rfl (s' _ _ h6) T.cl_Rules T.no_Rules__known (Nat.le_of_ble_eq_true rfl) (fun H7 k7 h7 => ?_)
        walk_at "sx"
        refine k H7 L' ?_ of' ⟨dx, t, D, h7, k7 _ _ tx (s' _ _ (k6 _ _ tx h5)), k7 _ _ dx' hD', fun q hq => ⟨k7 _ _ (nx q (of'.1 q hq)) (s' _ _ (rows6 q hq).1), (rows6 q hq).2⟩, of'.2.2.1, of'.2.2.2.1, of'.2.2.2.2⟩
        exact (Keep.same s1).trans (k2.trans ((Keep.same s3).trans ((Keep.same s4).trans ((Keep.same s5).trans (k6.trans ((Keep.same s').trans k7))))))
end
end K09

set_option Elab.async false
set_option linter.all false
set_option maxRecDepth 100000
set_option maxHeartbeats 4000000
namespace K09
open PySem L2 Sx
local macro_rules | `(tactic| walk_at "cond") => `(tactic| first
  | assumption
  | decide
  | exact c_mul_r (by first | decide | omega) (by first | decide | omega)
  | exact c_mul_l (by first | decide | omega) (by first | decide | omega)
  | exact c_div (by first | decide | omega) (by first | decide | omega)
  | exact c_pow (by first | decide | omega) (by first | decide | omega) (by first | decide | omega)
  | omega)
local macro_rules | `(tactic| walk_at "ne") => `(tactic| first
  | assumption
  | (refine Ne.symm ?_; assumption)
  | (refine' Flow.ne ?nh ?nn; (case nn => assumption); (case nh => walk_at "fl"))
  | (refine Ne.symm ?_; refine' Flow.ne ?nh ?nn; (case nn => assumption); (case nh => walk_at "fl"))
  | (refine' ne_of_none ?nh ?nn; (case nn => assumption); (case nh => walk_at "at"))
  | (refine Ne.symm ?_; refine' ne_of_none ?nh ?nn; (case nn => assumption); (case nh => walk_at "at")))
local macro_rules | `(tactic| walk_at "at") => `(tactic| first
  | assumption
  | (refine Same.up (by assumption) ?_; walk_at "at")
  | (refine Keep.up (by assumption) (by walk_at "ne") ?_; walk_at "at"))
local macro_rules | `(tactic| walk_at "fl") => `(tactic| first
  | assumption
  | (refine Flow.same (by assumption) ?_; walk_at "fl")
  | (refine Flow.keep (by assumption) (by walk_at "ne") ?_; walk_at "fl"))
local macro_rules | `(tactic| walk_at "fr") => `(tactic| first
  | assumption
  | (refine same_free (by assumption) ?_; walk_at "fr")
  | (refine Keep.free (by assumption) (by walk_at "ne") ?_; walk_at "fr"))
local macro_rules | `(tactic| walk_at "kp") => `(tactic| first
  | assumption
  | exact Keep.refl _ _
  | (refine Keep.trans ?_ (by assumption); walk_at "kp")
  | (refine Keep.trans ?_ (Keep.same (by assumption)); walk_at "kp"))
local macro_rules | `(tactic| walk_at "sm") => `(tactic| first
  | assumption
  | exact L2.Same.refl _
  | (refine L2.Same.trans ?_ (by assumption); walk_at "sm"))
local macro_rules | `(tactic| walk_at "sz") => `(tactic| first | exact Nat.le_of_ble_eq_true rfl | omega)
local macro_rules | `(tactic| walk_at "new") => `(tactic| (intro p np; generalize hE : upd _ p _ = H2; have s2 := new_same np hE; have h2 := new_at hE; clear hE))
local macro_rules | `(tactic| walk_at "newx") => `(tactic| (intro e d na nd hda; generalize hE : upd (upd _ d _) e _ = H2; have s2 := newx_same na nd hE; have h2 := newx_at hE; have h3 := newx_d hda hE; clear hE))
local macro_rules | `(tactic| walk_at "s1") => `(tactic| first
  | with_reducible refine s_seq ?_
  | with_reducible refine s_asg ?_
  | with_reducible refine s_name ?_
  | with_reducible refine s_ret ?_
  | with_reducible refine s_c ?_
  | ((with_reducible refine' s_var ?hv ?_); (case hv => rfl))
  | with_reducible refine s_op ?_
  | with_reducible refine s_un ?_
  | with_reducible refine s_ifS ?_
  | with_reducible refine s_cb ?_
  | with_reducible refine s_cons ?_
  | with_reducible refine s_nil ?_
  | with_reducible refine s_call ?_
  | with_reducible refine s_test ?_
  | with_reducible refine s_tB ?_
  | with_reducible refine s_bl ?_
  | with_reducible refine s_and ?_
  | with_reducible refine s_or ?_
  | with_reducible refine s_not ?_
  | with_reducible refine s_andV ?_
  | with_reducible refine s_orV ?_
  | with_reducible refine s_notV ?_
  | with_reducible refine s_blV ?_
  | with_reducible refine s_if ?_
  | with_reducible refine s_tup ?_
  | with_reducible refine s_lst ?_
  | with_reducible refine s_drop ?_
  | with_reducible refine s_next ?_
  | with_reducible refine s_sub ?_
  | with_reducible refine s_bm ?_
  | with_reducible refine s_callK ?_
  | with_reducible refine s_brk ?_
  | with_reducible refine s_cont ?_
  | with_reducible refine r_I0 ?_
  | with_reducible refine r_U ?_
  | with_reducible refine r_eqI ?_
  | with_reducible refine r_neI ?_
  | with_reducible refine r_isB ?_
  | with_reducible refine r_notB ?_
  | with_reducible refine i_t ?_
  | with_reducible refine i_f ?_
  | with_reducible refine i_nt ?_
  | with_reducible refine i_nf ?_
  | ((with_reducible refine' r_I ?hc ?_); (case hc => walk_at "cond"))
  | (with_reducible refine .inl ⟨_, rfl, ?_⟩)
  | (with_reducible refine ⟨_, rfl, ?_⟩)
  | ((with_reducible refine' r_ixL ?hx ?ha ?_); (case hx => walk_at "at"); (case ha => rfl))
  | ((with_reducible refine' r_ixT ?hx ?ha ?_); (case hx => walk_at "at"); (case ha => rfl))
  | ((with_reducible refine' r_setL ?hx ?ha ?_); (case hx => walk_at "at"); (case ha => rfl); intro H2 k2 h2; (try dsimp only [List.set, Int.toNat] at h2))
  | ((with_reducible refine' r_app ?hx ?hl ?_); (case hx => walk_at "at"); (case hl => first | exact Nat.lt_of_ble_eq_true rfl | omega); intro H2 k2 h2)
  | ((with_reducible refine' ty_list ?hx ?_); (case hx => walk_at "at"))
  | (refine And.intro (by (with_reducible show _ ≤ sizeLine); walk_at "sz") ?_; walk_at "new")
  | with_reducible refine s_exv ?_
  | walk_at "newx")
local macro_rules | `(tactic| walk_at "sx") => `(tactic| repeat (walk_at "s1"))
local macro_rules | `(tactic| walk_at "s2") => `(tactic| first
  | ((with_reducible refine' r_ixG ?hx ?hn ?_); (case hx => walk_at "at"); (case hn => omega))
  | ((with_reducible refine' r_ixGT ?hx ?hn ?_); (case hx => walk_at "at"); (case hn => omega))
  | (with_reducible refine ig_cons (fun hix => ?_) (fun hix => ?_))
  | ((with_reducible refine ig_nil ?_); omega)
  | ((with_reducible refine' i_T ?hc ?_); (case hc => omega))
  | ((with_reducible refine' i_F ?hc ?_); (case hc => omega))
  | (with_reducible refine i_2 (fun hc => ?_) (fun hc => ?_))
  | (with_reducible refine i_n2 (fun hc => ?_) (fun hc => ?_)))
local macro_rules | `(tactic| walk_at "go") => `(tactic| repeat' (first | walk_at "s1" | walk_at "s2"))

local macro_rules | `(tactic| walk_at "s1") => `(tactic| first
  | with_reducible refine s_chain ?_
  | with_reducible refine s_fldS ?_
  | with_reducible refine s_fld ?_
  | with_reducible refine s_dIn ?_
  | with_reducible refine s_dNotIn ?_
  | with_reducible refine s_sl ?_
  | with_reducible refine s_noPart ?_
  | with_reducible refine s_part ?_
  | with_reducible refine s_meth ?_
  | with_reducible refine s_make ?_)

section
variable {P : Program} {w : World} {K : PySem.W.Frag} {mg : Str → Option Value} {base : Heap} {A : Ad}
/-! numbers and their rows -/
/-- the n lowest bits of m, the highest first -/
def bitsOf : Nat → Nat → List Int
  | 0, _ => []
  | n + 1, m => bitsOf n (m / 2) ++ [((m % 2 : Nat) : Int)]
theorem bitsOf_bits : ∀ n m, Bits n (bitsOf n m)
  | 0, _ => ⟨rfl, fun x h => nomatch h⟩
  | n + 1, m => by
    obtain ⟨h1, h2⟩ := bitsOf_bits n (m / 2)
    refine ⟨by simp [bitsOf, h1], fun x hx => ?_⟩
    rcases List.mem_append.mp hx with z | z
    · exact h2 x z
    · rw [List.mem_singleton.mp z]
      omega
/-- what is left of the row behind i turns -/
theorem bitsOf_add : ∀ i n m, bitsOf (n + i) m = bitsOf n (m / 2 ^ i) ++ bitsOf i m
  | 0, n, m => by simp [bitsOf]
  | i + 1, n, m => by
    show bitsOf (n + i) (m / 2) ++ [((m % 2 : Nat) : Int)] = _
    rw [bitsOf_add i n (m / 2), List.append_assoc, Nat.div_div_eq_div_mul, ← Nat.pow_succ', bitsOf]
theorem bitsOf_next (i m : Nat) : bitsOf (i + 1) m = [((m / 2 ^ i % 2 : Nat) : Int)] ++ bitsOf i m := by
  rw [Nat.add_comm i 1, bitsOf_add i 1 m]
  rfl
theorem code_snoc (x : Int) : ∀ r : List Int, TS.code 2 (r ++ [x]) = TS.code 2 r * 2 + x
  | [] => by
    show x * 2 ^ 0 + 0 = 0 * 2 + x
    rw [Int.pow_zero]
    omega
  | d :: r => by
    show d * 2 ^ (r ++ [x]).length + TS.code 2 (r ++ [x]) = (d * 2 ^ r.length + TS.code 2 r) * 2 + x
    rw [code_snoc x r, List.length_append, List.length_singleton, Int.pow_succ, Int.add_mul, ← Int.mul_assoc]
    omega
theorem code_bits : ∀ n m, m < 2 ^ n → TS.code 2 (bitsOf n m) = (m : Int)
  | 0, m, h => by
    have : m = 0 := by simpa using h
    subst this
    rfl
  | n + 1, m, h => by
    rw [bitsOf, code_snoc, code_bits n (m / 2) (by rw [Nat.pow_succ] at h; omega)]
    omega
theorem bits_inj {n a b : Nat} (ha : a < 2 ^ n) (hb : b < 2 ^ n) (e : bitsOf n a = bitsOf n b) : a = b := by
  have z := congrArg (TS.code 2) e
  rw [code_bits n a ha, code_bits n b hb] at z
  omega
/-- numbers of rules: ascending, below 2 ^ n -/
structure Nums (n : Nat) (ns : List Nat) : Prop where
  asc : ns.Pairwise (· < ·)
  lt : ∀ m ∈ ns, m < 2 ^ n
  ne : ns ≠ []
  few : ns.length < 64
abbrev nv (m : Nat) : V := .int m
/-- one row more in the list at D -/
theorem rows_step {H1 H' H2 : Hp} {D p : Addr} {n : Nat} {ls : List (Addr × List Int)} {r : List Int} {rs : List (List Int)} (hD : H1 D = none) (hD' : H' D = some (.lst (ls.map rf))) (s' : Same H1 H') (s2 : Same H' H2) (rl : RowsAt H' n ls) (hp : H2 p = some (.tup (r.map V.int))) (b : Bits n r)
    (sz : ls.length < 1000) (e : ls.map (·.2) ++ [r] = rs) :
    ∃ acc, H2 D = some (.lst acc) ∧ acc.length < sizeLine ∧ Same H1 (upd H2 D (.lst (acc ++ [V.ref p]))) ∧ ∃ ls' : List (Addr × List Int), (upd H2 D (.lst (acc ++ [V.ref p]))) D = some (.lst (ls'.map rf)) ∧ RowsAt (upd H2 D (.lst (acc ++ [V.ref p]))) n ls' ∧ ls'.map (·.2) = rs := by
  have hD2 := s2 _ _ hD'
  refine ⟨_, hD2, ?_, Sx.Same.put (s'.trans s2) hD, ls ++ [(p, r)], ?_, fun z hz => ?_, ?_⟩
  · rw [List.length_map]
    show ls.length < 16777216
    omega
  · rw [upd_same, List.map_append]
    rfl
  · have tu : H2 z.1 = some (.tup (z.2.map V.int)) ∧ Bits n z.2 := by
      rcases List.mem_append.mp hz with m | m
      · exact ⟨s2 _ _ (rl z m).1, (rl z m).2⟩
      · rw [List.mem_singleton.mp m]
        exact ⟨hp, b⟩
    refine ⟨?_, tu.2⟩
    rw [upd_ne (ne_of tu.1 hD2 fun e => nomatch e)]
    exact tu.1
  · rw [List.map_append]
    exact e
theorem rows_nil {H : Hp} {n : Nat} : RowsAt H n [] := fun _ h => nomatch h
/-- a list made of the rows of numbers has just these, in order -/
theorem of_nums {n : Nat} {ns : List Nat} {ls ks : List (Addr × List Int)} (N : Nums n ns) (e : ∀ r, r ∈ ls.map (·.2) ↔ r ∈ ns.map (bitsOf n)) (o : Of ls ks) : ks.map (·.2) = ns.map (bitsOf n) := by
  have ndr : (ns.map (bitsOf n)).Nodup := List.pairwise_map.mpr (List.Pairwise.imp_of_mem (fun {a b} ha hb hlt h => Nat.ne_of_lt hlt (bits_inj (N.lt a ha) (N.lt b hb) h)) N.asc)
  have mem : ∀ r, r ∈ ks.map (·.2) ↔ r ∈ ns.map (bitsOf n) := fun r => by
    rw [← e r]
    exact ⟨fun h => (List.mem_map.mp h).elim fun p hp => List.mem_map.mpr ⟨p, o.1 p hp.1, hp.2⟩, fun h => (List.mem_map.mp h).elim fun p hp => hp.2 ▸ o.2.1 p hp.1⟩
  have perm := (List.perm_ext_iff_of_nodup o.2.2.1.1 ndr).mpr mem
  refine List.Perm.eq_of_pairwise (le := fun a b => TS.code 2 a ≤ TS.code 2 b) (fun a b ha hb h1 h2 => ?_) (List.pairwise_map.mpr o.2.2.1.2) (List.pairwise_map.mpr (List.Pairwise.imp_of_mem (fun {a b} ha hb h => ?_) N.asc)) perm
  · obtain ⟨c, hc, rfl⟩ := List.mem_map.mp ((mem a).mp ha)
    obtain ⟨d, hd, rfl⟩ := List.mem_map.mp hb
    rw [code_bits n c (N.lt c hc), code_bits n d (N.lt d hd)] at h1 h2
    have : c = d := by omega
    rw [this]
  · show TS.code 2 (bitsOf n a) ≤ TS.code 2 (bitsOf n b)
    rw [code_bits n a (N.lt a ha), code_bits n b (N.lt b hb)]
    omega
end
end K09

set_option Elab.async false
set_option linter.all false
set_option maxRecDepth 100000
set_option maxHeartbeats 4000000
namespace K09
open PySem L2 Sx TL
local macro_rules | `(tactic| walk_at "cond") => `(tactic| first
  | assumption
  | decide
  | exact c_mul_r (by first | decide | omega) (by first | decide | omega)
  | exact c_mul_l (by first | decide | omega) (by first | decide | omega)
  | exact c_div (by first | decide | omega) (by first | decide | omega)
  | exact c_pow (by first | decide | omega) (by first | decide | omega) (by first | decide | omega)
  | omega)
local macro_rules | `(tactic| walk_at "ne") => `(tactic| first
  | assumption
  | (refine Ne.symm ?_; assumption)
  | (refine' Flow.ne ?nh ?nn; (case nn => assumption); (case nh => walk_at "fl"))
  | (refine Ne.symm ?_; refine' Flow.ne ?nh ?nn; (case nn => assumption); (case nh => walk_at "fl"))
  | (refine' ne_of_none ?nh ?nn; (case nn => assumption); (case nh => walk_at "at"))
  | (refine Ne.symm ?_; refine' ne_of_none ?nh ?nn; (case nn => assumption); (case nh => walk_at "at")))
local macro_rules | `(tactic| walk_at "at") => `(tactic| first
  | assumption
  | (refine Same.up (by assumption) ?_; walk_at "at")
  | (refine Keep.up (by assumption) (by walk_at "ne") ?_; walk_at "at"))
local macro_rules | `(tactic| walk_at "fl") => `(tactic| first
  | assumption
  | (refine Flow.same (by assumption) ?_; walk_at "fl")
  | (refine Flow.keep (by assumption) (by walk_at "ne") ?_; walk_at "fl"))
local macro_rules | `(tactic| walk_at "fr") => `(tactic| first
  | assumption
  | (refine same_free (by assumption) ?_; walk_at "fr")
  | (refine Keep.free (by assumption) (by walk_at "ne") ?_; walk_at "fr"))
local macro_rules | `(tactic| walk_at "kp") => `(tactic| first
  | assumption
  | exact Keep.refl _ _
  | (refine Keep.trans ?_ (by assumption); walk_at "kp")
  | (refine Keep.trans ?_ (Keep.same (by assumption)); walk_at "kp"))
local macro_rules | `(tactic| walk_at "sm") => `(tactic| first
  | assumption
  | exact L2.Same.refl _
  | (refine L2.Same.trans ?_ (by assumption); walk_at "sm"))
local macro_rules | `(tactic| walk_at "sz") => `(tactic| first | exact Nat.le_of_ble_eq_true rfl | omega)
local macro_rules | `(tactic| walk_at "new") => `(tactic| (intro p np; generalize hE : upd _ p _ = H2; have s2 := new_same np hE; have h2 := new_at hE; clear hE))
local macro_rules | `(tactic| walk_at "newx") => `(tactic| (intro e d na nd hda; generalize hE : upd (upd _ d _) e _ = H2; have s2 := newx_same na nd hE; have h2 := newx_at hE; have h3 := newx_d hda hE; clear hE))
local macro_rules | `(tactic| walk_at "s1") => `(tactic| first
  | with_reducible refine s_seq ?_
  | with_reducible refine s_asg ?_
  | with_reducible refine s_name ?_
  | with_reducible refine s_ret ?_
  | with_reducible refine s_c ?_
  | ((with_reducible refine' s_var ?hv ?_); (case hv => rfl))
  | with_reducible refine s_op ?_
  | with_reducible refine s_un ?_
  | with_reducible refine s_ifS ?_
  | with_reducible refine s_cb ?_
  | with_reducible refine s_cons ?_
  | with_reducible refine s_nil ?_
  | with_reducible refine s_call ?_
  | with_reducible refine s_test ?_
  | with_reducible refine s_tB ?_
  | with_reducible refine s_bl ?_
  | with_reducible refine s_and ?_
  | with_reducible refine s_or ?_
  | with_reducible refine s_not ?_
  | with_reducible refine s_andV ?_
  | with_reducible refine s_orV ?_
  | with_reducible refine s_notV ?_
  | with_reducible refine s_blV ?_
  | with_reducible refine s_if ?_
  | with_reducible refine s_tup ?_
  | with_reducible refine s_lst ?_
  | with_reducible refine s_drop ?_
  | with_reducible refine s_next ?_
  | with_reducible refine s_sub ?_
  | with_reducible refine s_bm ?_
  | with_reducible refine s_callK ?_
  | with_reducible refine s_brk ?_
  | with_reducible refine s_cont ?_
  | with_reducible refine r_I0 ?_
  | with_reducible refine r_U ?_
  | with_reducible refine r_eqI ?_
  | with_reducible refine r_neI ?_
  | with_reducible refine r_isB ?_
  | with_reducible refine r_notB ?_
  | with_reducible refine i_t ?_
  | with_reducible refine i_f ?_
  | with_reducible refine i_nt ?_
  | with_reducible refine i_nf ?_
  | ((with_reducible refine' r_I ?hc ?_); (case hc => walk_at "cond"))
  | (with_reducible refine .inl ⟨_, rfl, ?_⟩)
  | (with_reducible refine ⟨_, rfl, ?_⟩)
  | ((with_reducible refine' r_ixL ?hx ?ha ?_); (case hx => walk_at "at"); (case ha => rfl))
  | ((with_reducible refine' r_ixT ?hx ?ha ?_); (case hx => walk_at "at"); (case ha => rfl))
  | ((with_reducible refine' r_setL ?hx ?ha ?_); (case hx => walk_at "at"); (case ha => rfl); intro H2 k2 h2; (try dsimp only [List.set, Int.toNat] at h2))
  | ((with_reducible refine' r_app ?hx ?hl ?_); (case hx => walk_at "at"); (case hl => first | exact Nat.lt_of_ble_eq_true rfl | omega); intro H2 k2 h2)
  | ((with_reducible refine' ty_list ?hx ?_); (case hx => walk_at "at"))
  | (refine And.intro (by (with_reducible show _ ≤ sizeLine); walk_at "sz") ?_; walk_at "new")
  | with_reducible refine s_exv ?_
  | walk_at "newx")
local macro_rules | `(tactic| walk_at "sx") => `(tactic| repeat (walk_at "s1"))
local macro_rules | `(tactic| walk_at "s2") => `(tactic| first
  | ((with_reducible refine' r_ixG ?hx ?hn ?_); (case hx => walk_at "at"); (case hn => omega))
  | ((with_reducible refine' r_ixGT ?hx ?hn ?_); (case hx => walk_at "at"); (case hn => omega))
  | (with_reducible refine ig_cons (fun hix => ?_) (fun hix => ?_))
  | ((with_reducible refine ig_nil ?_); omega)
  | ((with_reducible refine' i_T ?hc ?_); (case hc => omega))
  | ((with_reducible refine' i_F ?hc ?_); (case hc => omega))
  | (with_reducible refine i_2 (fun hc => ?_) (fun hc => ?_))
  | (with_reducible refine i_n2 (fun hc => ?_) (fun hc => ?_)))
local macro_rules | `(tactic| walk_at "go") => `(tactic| repeat' (first | walk_at "s1" | walk_at "s2"))

local macro_rules | `(tactic| walk_at "s1") => `(tactic| first
  | with_reducible refine s_chain ?_
  | with_reducible refine s_fldS ?_
  | with_reducible refine s_fld ?_
  | with_reducible refine s_dIn ?_
  | with_reducible refine s_dNotIn ?_
  | with_reducible refine s_sl ?_
  | with_reducible refine s_noPart ?_
  | with_reducible refine s_part ?_
  | with_reducible refine s_meth ?_
  | with_reducible refine s_make ?_)

/-! texts -/
theorem s_m1 {σ : L2.St} {H : Hp} {Q : VK} {r : V → List V → Hp → VK → Prop} {to te : TE} (h : to σ H fun x H1 => (∃ a, x = .str a) ∧ te σ H1 fun y H2 => r x [y] H2 Q) : tM1 r to te σ H Q := h
theorem s_strE {a : Str} {P : Prop} (h : P) : (∃ b, V.str a = .str b) ∧ P := ⟨⟨a, rfl⟩, h⟩
theorem s_js {σ : L2.St} {H : Hp} {t : TE} {ts : List TE} {acc : Str} {Q : Str → Hp → Prop} (h : t σ H fun x H1 => ∃ y : Str, x = .str y ∧ (acc ++ y).length ≤ sizeLine ∧ tJs ts (acc ++ y) σ H1 Q) : tJs (t :: ts) acc σ H Q := h
theorem s_js0 {σ : L2.St} {H : Hp} {acc : Str} {Q : Str → Hp → Prop} (h : Q acc H) : tJs [] acc σ H Q := h
theorem s_fmt {σ : L2.St} {H : Hp} {Q : VK} {te : TE} (h : te σ H fun x H1 => (∃ y : Str, x = .str y ∧ y.length ≤ sizeLine ∧ Q (.str y) H1) ∨ ∃ i : Int, x = .int i ∧ i.natAbs.log2 < 1920 ∧ Q (.str (Str.ofString (toString i))) H1) : tFmt te σ H Q := h
theorem r_addS {H : Hp} {a b : Str} {Q : VK} (l : a.length + b.length ≤ sizeLine) (q : Q (.str (a ++ b)) H) : ∃ i j, V.str a = .str i ∧ V.str b = .str j ∧ i.length + j.length ≤ sizeLine ∧ Q (.str (i ++ j)) H := ⟨a, b, rfl, rfl, l, q⟩
local macro_rules | `(tactic| walk_at "s1") => `(tactic| first
  | with_reducible refine s_m1 ?_
  | with_reducible refine s_strE ?_
  | with_reducible refine s_js ?_
  | with_reducible refine s_js0 ?_
  | with_reducible refine s_fmt ?_)
def dig (d : Int) : Str := ⟨#[48 + d.toNat]⟩
def digs (r : List Int) : Str := ⟨(r.map fun d => 48 + d.toNat).toArray⟩
def pl (n : Nat) : Str := Str.ofString "points " ++ ⟨#[48 + n]⟩
def line (r : List Int) : Str := if r = [] then Str.ofString "rule -" else Str.ofString "rule " ++ digs r
abbrev nl : Str := Str.ofString "\n"
def lines (n : Nat) (rs : List (List Int)) : List Str := pl n :: rs.map line
def txt (n : Nat) (rs : List (List Int)) : Str := Txt.join nl (lines n rs)
theorem str_ext {a b : Str} (h : a.cps.toList = b.cps.toList) : a = b := by
  cases a
  cases b
  simpa using h
theorem app_len (a b : Str) : (a ++ b).length = a.length + b.length := by
  show (a.cps ++ b.cps).size = _
  rw [Array.size_append]
  rfl
theorem dig_str {i : Int} (h : i = 0 ∨ i = 1) : Str.ofString (toString i) = dig i := by
  rcases h with rfl | rfl <;> decide +kernel
theorem pl_str {n : Nat} (h : n ≤ 8) : Str.empty ++ Str.ofString "points " ++ Str.ofString (toString (n : Int)) = pl n := by
  have hn : n = 0 ∨ n = 1 ∨ n = 2 ∨ n = 3 ∨ n = 4 ∨ n = 5 ∨ n = 6 ∨ n = 7 ∨ n = 8 := by omega
  rcases hn with rfl | rfl | rfl | rfl | rfl | rfl | rfl | rfl | rfl <;> decide +kernel
theorem joinL_nil : ∀ ps : List (List Nat), joinL [] ps = ps.flatten
  | [] => rfl
  | [p] => by simp [joinL]
  | p :: q :: r => by
    show p ++ ([] ++ joinL [] (q :: r)) = _
    rw [joinL_nil (q :: r)]
    rfl
theorem flat_dig (r : List Int) : ((r.map dig).map tl).flatten = r.map fun d => 48 + d.toNat := by
  induction r with
  | nil => rfl
  | cons d r ih =>
    rw [List.map_cons, List.map_cons, List.flatten_cons, ih]
    rfl
theorem join_digs (r : List Int) : Txt.join (Str.ofString "") (r.map dig) = digs r := by
  refine str_ext ?_
  rw [join_eq]
  show tl (Str.join _ _) = _
  rw [tl_join, show tl (Str.ofString "") = [] by decide +kernel, joinL_nil, flat_dig]
  rfl
theorem sum_le {α : Type} (f : α → Nat) (c : Nat) : ∀ l : List α, (∀ x ∈ l, f x ≤ c) → (l.map f).sum ≤ c * l.length
  | [], _ => Nat.le_refl _
  | x :: l, h => by
    have ih := sum_le f c l fun y hy => h y (List.mem_cons_of_mem _ hy)
    have hx := h x List.mem_cons_self
    rw [List.map_cons, List.sum_cons, List.length_cons, Nat.mul_succ]
    omega
theorem len_line {n : Nat} {r : List Int} (h : Bits n r) (sn : n ≤ 8) : (line r).length ≤ 13 := by
  unfold line
  split
  · decide +kernel
  · rw [app_len, show (Str.ofString "rule ").length = 5 by decide +kernel]
    have : (digs r).length = r.length := by
      show (List.toArray _).size = _
      simp
    rw [this, h.1]
    omega
theorem len_pl (n : Nat) : (pl n).length = 8 := by
  unfold pl
  rw [app_len, show (Str.ofString "points ").length = 7 by decide +kernel]
  rfl
theorem pl_inj {a b : Nat} (h : pl a = pl b) : a = b := by
  have e := congrArg tl h
  unfold pl at e
  rw [tl_append, tl_append] at e
  have z := List.append_cancel_left e
  have z' : [48 + a] = [48 + b] := z
  simp at z'
  exact z'
theorem starts (x y : Str) : Txt.startswith (x ++ y) x = true := by
  unfold Txt.startswith
  rw [Bool.and_eq_true]
  refine ⟨decide_eq_true (by rw [app_len]; omega), ?_⟩
  show ((x.cps ++ y.cps).extract 0 (0 + x.cps.size) == x.cps) = true
  rw [Nat.zero_add, beq_iff_eq]
  refine Array.ext' ?_
  simp
def word (r : List Int) : Str := if r = [] then Str.ofString "-" else digs r
theorem line_word (r : List Int) : line r = Str.ofString "rule " ++ word r := by
  unfold line word
  split
  · decide +kernel
  · rfl
theorem cut_app (x y : Str) : cutS (x ++ y) (some (x.length : Int)) none = y := by
  unfold cutS
  refine str_ext ?_
  rw [HT.sIx_nat, HT.sIx_none, app_len, Nat.min_eq_left (Nat.le_add_right _ _)]
  show List.take _ (List.drop x.length (tl (x ++ y))) = tl y
  rw [tl_append]
  have e : x.length = (tl x).length := by simp [Str.length]
  rw [e, List.drop_left, List.take_of_length_le]
  have e2 : y.length = (tl y).length := by simp [Str.length]
  omega
section
variable {P : Program} {w : World} {K : PySem.W.Frag} {mg : Str → Option Value} {base : Heap} {A : Ad}
def spPl : Sp := fun vs H Q _ => ∃ n : Nat, vs = [.int n] ∧ n ≤ 8 ∧ Q (.str (pl n)) H
theorem ok_pl (T : Txt P K mg A) : FnOk P w K mg base CX0 1 A.a_points_line A.d_points_line ["size"] spPl := by
  refine T.F_points_line.ok sc_points_line (fun vs H Q E h => ?_) (fun cdv A' outer s H vs Q E hr h => ?_)
  · obtain ⟨n, rfl, _⟩ := h
    rfl
  · obtain ⟨n, rfl, sn, k⟩ := h
    refine ⟨_, (pss_one (ps_ret (pe_joined (.cons pe_str (.cons (pe_fmt (pv 0)) .nil))))), ?_⟩
    walk_at "sx"
    refine ⟨by decide +kernel, ?_⟩
    walk_at "sx"
    refine .inr ⟨n, rfl, ?_, ?_⟩
    · rw [Int.natAbs_natCast]
      exact Nat.lt_of_le_of_lt (Nat.log2_le_self _) (by omega)
    · refine ⟨_, rfl, ?_, ?_⟩
      · rw [pl_str sn, len_pl]
        decide
      · walk_at "sx"
        rw [pl_str sn]
        exact k
end
end K09

set_option Elab.async false
set_option linter.all false
set_option maxRecDepth 100000
set_option maxHeartbeats 4000000
namespace K09
open PySem L2 Sx TL
local macro_rules | `(tactic| walk_at "cond") => `(tactic| first
  | assumption
  | decide
  | exact c_mul_r (by first | decide | omega) (by first | decide | omega)
  | exact c_mul_l (by first | decide | omega) (by first | decide | omega)
  | exact c_div (by first | decide | omega) (by first | decide | omega)
  | exact c_pow (by first | decide | omega) (by first | decide | omega) (by first | decide | omega)
  | omega)
local macro_rules | `(tactic| walk_at "ne") => `(tactic| first
  | assumption
  | (refine Ne.symm ?_; assumption)
  | (refine' Flow.ne ?nh ?nn; (case nn => assumption); (case nh => walk_at "fl"))
  | (refine Ne.symm ?_; refine' Flow.ne ?nh ?nn; (case nn => assumption); (case nh => walk_at "fl"))
  | (refine' ne_of_none ?nh ?nn; (case nn => assumption); (case nh => walk_at "at"))
  | (refine Ne.symm ?_; refine' ne_of_none ?nh ?nn; (case nn => assumption); (case nh => walk_at "at")))
local macro_rules | `(tactic| walk_at "at") => `(tactic| first
  | assumption
  | (refine Same.up (by assumption) ?_; walk_at "at")
  | (refine Keep.up (by assumption) (by walk_at "ne") ?_; walk_at "at"))
local macro_rules | `(tactic| walk_at "fl") => `(tactic| first
  | assumption
  | (refine Flow.same (by assumption) ?_; walk_at "fl")
  | (refine Flow.keep (by assumption) (by walk_at "ne") ?_; walk_at "fl"))
local macro_rules | `(tactic| walk_at "fr") => `(tactic| first
  | assumption
  | (refine same_free (by assumption) ?_; walk_at "fr")
  | (refine Keep.free (by assumption) (by walk_at "ne") ?_; walk_at "fr"))
local macro_rules | `(tactic| walk_at "kp") => `(tactic| first
  | assumption
  | exact Keep.refl _ _
  | (refine Keep.trans ?_ (by assumption); walk_at "kp")
  | (refine Keep.trans ?_ (Keep.same (by assumption)); walk_at "kp"))
local macro_rules | `(tactic| walk_at "sm") => `(tactic| first
  | assumption
  | exact L2.Same.refl _
  | (refine L2.Same.trans ?_ (by assumption); walk_at "sm"))
local macro_rules | `(tactic| walk_at "sz") => `(tactic| first | exact Nat.le_of_ble_eq_true rfl | omega)
local macro_rules | `(tactic| walk_at "new") => `(tactic| (intro p np; generalize hE : upd _ p _ = H2; have s2 := new_same np hE; have h2 := new_at hE; clear hE))
local macro_rules | `(tactic| walk_at "newx") => `(tactic| (intro e d na nd hda; generalize hE : upd (upd _ d _) e _ = H2; have s2 := newx_same na nd hE; have h2 := newx_at hE; have h3 := newx_d hda hE; clear hE))
local macro_rules | `(tactic| walk_at "s1") => `(tactic| first
  | with_reducible refine s_seq ?_
  | with_reducible refine s_asg ?_
  | with_reducible refine s_name ?_
  | with_reducible refine s_ret ?_
  | with_reducible refine s_c ?_
  | ((with_reducible refine' s_var ?hv ?_); (case hv => rfl))
  | with_reducible refine s_op ?_
  | with_reducible refine s_un ?_
  | with_reducible refine s_ifS ?_
  | with_reducible refine s_cb ?_
  | with_reducible refine s_cons ?_
  | with_reducible refine s_nil ?_
  | with_reducible refine s_call ?_
  | with_reducible refine s_test ?_
  | with_reducible refine s_tB ?_
  | with_reducible refine s_bl ?_
  | with_reducible refine s_and ?_
  | with_reducible refine s_or ?_
  | with_reducible refine s_not ?_
  | with_reducible refine s_andV ?_
  | with_reducible refine s_orV ?_
  | with_reducible refine s_notV ?_
  | with_reducible refine s_blV ?_
  | with_reducible refine s_if ?_
  | with_reducible refine s_tup ?_
  | with_reducible refine s_lst ?_
  | with_reducible refine s_drop ?_
  | with_reducible refine s_next ?_
  | with_reducible refine s_sub ?_
  | with_reducible refine s_bm ?_
  | with_reducible refine s_callK ?_
  | with_reducible refine s_brk ?_
  | with_reducible refine s_cont ?_
  | with_reducible refine r_I0 ?_
  | with_reducible refine r_U ?_
  | with_reducible refine r_eqI ?_
  | with_reducible refine r_neI ?_
  | with_reducible refine r_isB ?_
  | with_reducible refine r_notB ?_
  | with_reducible refine i_t ?_
  | with_reducible refine i_f ?_
  | with_reducible refine i_nt ?_
  | with_reducible refine i_nf ?_
  | ((with_reducible refine' r_I ?hc ?_); (case hc => walk_at "cond"))
  | (with_reducible refine .inl ⟨_, rfl, ?_⟩)
  | (with_reducible refine ⟨_, rfl, ?_⟩)
  | ((with_reducible refine' r_ixL ?hx ?ha ?_); (case hx => walk_at "at"); (case ha => rfl))
  | ((with_reducible refine' r_ixT ?hx ?ha ?_); (case hx => walk_at "at"); (case ha => rfl))
  | ((with_reducible refine' r_setL ?hx ?ha ?_); (case hx => walk_at "at"); (case ha => rfl); intro H2 k2 h2; (try dsimp only [List.set, Int.toNat] at h2))
  | ((with_reducible refine' r_app ?hx ?hl ?_); (case hx => walk_at "at"); (case hl => first | exact Nat.lt_of_ble_eq_true rfl | omega); intro H2 k2 h2)
  | ((with_reducible refine' ty_list ?hx ?_); (case hx => walk_at "at"))
  | (refine And.intro (by (with_reducible show _ ≤ sizeLine); walk_at "sz") ?_; walk_at "new")
  | with_reducible refine s_exv ?_
  | walk_at "newx")
local macro_rules | `(tactic| walk_at "sx") => `(tactic| repeat (walk_at "s1"))
local macro_rules | `(tactic| walk_at "s2") => `(tactic| first
  | ((with_reducible refine' r_ixG ?hx ?hn ?_); (case hx => walk_at "at"); (case hn => omega))
  | ((with_reducible refine' r_ixGT ?hx ?hn ?_); (case hx => walk_at "at"); (case hn => omega))
  | (with_reducible refine ig_cons (fun hix => ?_) (fun hix => ?_))
  | ((with_reducible refine ig_nil ?_); omega)
  | ((with_reducible refine' i_T ?hc ?_); (case hc => omega))
  | ((with_reducible refine' i_F ?hc ?_); (case hc => omega))
  | (with_reducible refine i_2 (fun hc => ?_) (fun hc => ?_))
  | (with_reducible refine i_n2 (fun hc => ?_) (fun hc => ?_)))
local macro_rules | `(tactic| walk_at "go") => `(tactic| repeat' (first | walk_at "s1" | walk_at "s2"))

local macro_rules | `(tactic| walk_at "s1") => `(tactic| first
  | with_reducible refine s_chain ?_
  | with_reducible refine s_fldS ?_
  | with_reducible refine s_fld ?_
  | with_reducible refine s_dIn ?_
  | with_reducible refine s_dNotIn ?_
  | with_reducible refine s_sl ?_
  | with_reducible refine s_noPart ?_
  | with_reducible refine s_part ?_
  | with_reducible refine s_meth ?_
  | with_reducible refine s_make ?_)

local macro_rules | `(tactic| walk_at "s1") => `(tactic| first
  | with_reducible refine s_m1 ?_
  | with_reducible refine s_strE ?_
  | with_reducible refine s_js ?_
  | with_reducible refine s_js0 ?_
  | with_reducible refine s_fmt ?_)
section
variable {P : Program} {w : World} {K : PySem.W.Frag} {mg : Str → Option Value} {base : Heap} {A : Ad}
def spSize : Sp := fun vs H Q _ => ∃ s : Str, vs = [.str s] ∧ ((∃ n : Nat, s = pl n ∧ n ≤ 8 ∧ Q (.int n) H) ∨ ((∀ n, n ≤ 8 → s ≠ pl n) ∧ Q .non H))
theorem ok_size (T : Txt P K mg A) : FnOk P w K mg base CX0 2 A.a_size_told A.d_size_told ["line"] spSize := by
  refine T.F_size_told.ok sc_size_told (fun vs H Q E h => ?_) (fun cdv A' outer s H vs Q E hr h => ?_)
  · obtain ⟨n, rfl, _⟩ := h
    rfl
  · obtain ⟨t, rfl, k⟩ := h
    have G_points_line := ok_pl (w := w) (base := base) T
    refine ⟨_, (pss_cons (ps_for PassesOwn.never rfl (pi_range1 rfl T.n_range (pa_cons (pe_op op_add (pe_glob (v := .int 8) rfl T.k_MOST_POINTS ⟨_, rfl⟩) pe_int) pa_nil)) (pg_name (i := 1) sc_size_told.nd rfl (Or.inl rfl))
  (pss_one (ps_if (pt_cmpR op_eq (pv 0) (pe_call G_points_line (hr.mono (by decide)) rfl T.g_points_line T.F_points_line.kp (B_points_line T) .nil pass0 (pa_cons (pv 1) pa_nil)) (nomark _)) (pss_one (ps_ret (pv 1))) pss_nil)))
  (pss_one (ps_ret pe_non))), ?_⟩
    walk_at "sx"
    refine ⟨8, 1, rfl, rfl, 9, rfl, by decide, by decide, for_range (lo := 0) (n := 9) (fun i σ H' => H' = H ∧ (∀ n, n < i → t ≠ pl n) ∧ ∃ v, σ = [some (.str t), v]) ⟨rfl, fun n h => absurd h (Nat.not_lt_zero _), none, rfl⟩ ?_ ?_⟩
    · rintro i σ H' hi ⟨rfl, le, v, rfl⟩
      walk_at "sx"
      refine ⟨i, by rw [Int.zero_add]; rfl, by omega, ?_⟩
      walk_at "sx"
      refine r_eq rfl ?_
      refine ⟨_, rfl, ?_⟩
      refine i_2 (fun c => ?_) (fun c => ?_)
      · walk_at "sx"
        have e : t = pl i := by injection c
        rcases k with ⟨n, en, _, q⟩ | ⟨no, _⟩
        · have z : n = i := pl_inj (en.symm.trans e)
          rw [Int.zero_add, ← z]
          exact q
        · exact absurd e (no i (by omega))
      · walk_at "sx"
        refine ⟨rfl, fun n h => ?_, _, rfl⟩
        rcases Nat.lt_or_eq_of_le (Nat.le_of_lt_succ h) with l | rfl
        · exact le n l
        · exact fun z => c (by rw [z])
    · rintro σ H' ⟨rfl, le, v, rfl⟩
      rcases k with ⟨n, en, sn, _⟩ | ⟨_, q⟩
      · exact absurd en (le n (by omega))
      · walk_at "sx"
        exact q
end
end K09

set_option Elab.async false
set_option linter.all false
set_option maxRecDepth 100000
set_option maxHeartbeats 4000000
namespace K09
open PySem L2 Sx TL
local macro_rules | `(tactic| walk_at "cond") => `(tactic| first
  | assumption
  | decide
  | exact c_mul_r (by first | decide | omega) (by first | decide | omega)
  | exact c_mul_l (by first | decide | omega) (by first | decide | omega)
  | exact c_div (by first | decide | omega) (by first | decide | omega)
  | exact c_pow (by first | decide | omega) (by first | decide | omega) (by first | decide | omega)
  | omega)
local macro_rules | `(tactic| walk_at "ne") => `(tactic| first
  | assumption
  | (refine Ne.symm ?_; assumption)
  | (refine' Flow.ne ?nh ?nn; (case nn => assumption); (case nh => walk_at "fl"))
  | (refine Ne.symm ?_; refine' Flow.ne ?nh ?nn; (case nn => assumption); (case nh => walk_at "fl"))
  | (refine' ne_of_none ?nh ?nn; (case nn => assumption); (case nh => walk_at "at"))
  | (refine Ne.symm ?_; refine' ne_of_none ?nh ?nn; (case nn => assumption); (case nh => walk_at "at")))
local macro_rules | `(tactic| walk_at "at") => `(tactic| first
  | assumption
  | (refine Same.up (by assumption) ?_; walk_at "at")
  | (refine Keep.up (by assumption) (by walk_at "ne") ?_; walk_at "at"))
local macro_rules | `(tactic| walk_at "fl") => `(tactic| first
  | assumption
  | (refine Flow.same (by assumption) ?_; walk_at "fl")
  | (refine Flow.keep (by assumption) (by walk_at "ne") ?_; walk_at "fl"))
local macro_rules | `(tactic| walk_at "fr") => `(tactic| first
  | assumption
  | (refine same_free (by assumption) ?_; walk_at "fr")
  | (refine Keep.free (by assumption) (by walk_at "ne") ?_; walk_at "fr"))
local macro_rules | `(tactic| walk_at "kp") => `(tactic| first
  | assumption
  | exact Keep.refl _ _
  | (refine Keep.trans ?_ (by assumption); walk_at "kp")
  | (refine Keep.trans ?_ (Keep.same (by assumption)); walk_at "kp"))
local macro_rules | `(tactic| walk_at "sm") => `(tactic| first
  | assumption
  | exact L2.Same.refl _
  | (refine L2.Same.trans ?_ (by assumption); walk_at "sm"))
local macro_rules | `(tactic| walk_at "sz") => `(tactic| first | exact Nat.le_of_ble_eq_true rfl | omega)
local macro_rules | `(tactic| walk_at "new") => `(tactic| (intro p np; generalize hE : upd _ p _ = H2; have s2 := new_same np hE; have h2 := new_at hE; clear hE))
local macro_rules | `(tactic| walk_at "newx") => `(tactic| (intro e d na nd hda; generalize hE : upd (upd _ d _) e _ = H2; have s2 := newx_same na nd hE; have h2 := newx_at hE; have h3 := newx_d hda hE; clear hE))
local macro_rules | `(tactic| walk_at "s1") => `(tactic| first
  | with_reducible refine s_seq ?_
  | with_reducible refine s_asg ?_
  | with_reducible refine s_name ?_
  | with_reducible refine s_ret ?_
  | with_reducible refine s_c ?_
  | ((with_reducible refine' s_var ?hv ?_); (case hv => rfl))
  | with_reducible refine s_op ?_
  | with_reducible refine s_un ?_
  | with_reducible refine s_ifS ?_
  | with_reducible refine s_cb ?_
  | with_reducible refine s_cons ?_
  | with_reducible refine s_nil ?_
  | with_reducible refine s_call ?_
  | with_reducible refine s_test ?_
  | with_reducible refine s_tB ?_
  | with_reducible refine s_bl ?_
  | with_reducible refine s_and ?_
  | with_reducible refine s_or ?_
  | with_reducible refine s_not ?_
  | with_reducible refine s_andV ?_
  | with_reducible refine s_orV ?_
  | with_reducible refine s_notV ?_
  | with_reducible refine s_blV ?_
  | with_reducible refine s_if ?_
  | with_reducible refine s_tup ?_
  | with_reducible refine s_lst ?_
  | with_reducible refine s_drop ?_
  | with_reducible refine s_next ?_
  | with_reducible refine s_sub ?_
  | with_reducible refine s_bm ?_
  | with_reducible refine s_callK ?_
  | with_reducible refine s_brk ?_
  | with_reducible refine s_cont ?_
  | with_reducible refine r_I0 ?_
  | with_reducible refine r_U ?_
  | with_reducible refine r_eqI ?_
  | with_reducible refine r_neI ?_
  | with_reducible refine r_isB ?_
  | with_reducible refine r_notB ?_
  | with_reducible refine i_t ?_
  | with_reducible refine i_f ?_
  | with_reducible refine i_nt ?_
  | with_reducible refine i_nf ?_
  | ((with_reducible refine' r_I ?hc ?_); (case hc => walk_at "cond"))
  | (with_reducible refine .inl ⟨_, rfl, ?_⟩)
  | (with_reducible refine ⟨_, rfl, ?_⟩)
  | ((with_reducible refine' r_ixL ?hx ?ha ?_); (case hx => walk_at "at"); (case ha => rfl))
  | ((with_reducible refine' r_ixT ?hx ?ha ?_); (case hx => walk_at "at"); (case ha => rfl))
  | ((with_reducible refine' r_setL ?hx ?ha ?_); (case hx => walk_at "at"); (case ha => rfl); intro H2 k2 h2; (try dsimp only [List.set, Int.toNat] at h2))
  | ((with_reducible refine' r_app ?hx ?hl ?_); (case hx => walk_at "at"); (case hl => first | exact Nat.lt_of_ble_eq_true rfl | omega); intro H2 k2 h2)
  | ((with_reducible refine' ty_list ?hx ?_); (case hx => walk_at "at"))
  | (refine And.intro (by (with_reducible show _ ≤ sizeLine); walk_at "sz") ?_; walk_at "new")
  | with_reducible refine s_exv ?_
  | walk_at "newx")
local macro_rules | `(tactic| walk_at "sx") => `(tactic| repeat (walk_at "s1"))
local macro_rules | `(tactic| walk_at "s2") => `(tactic| first
  | ((with_reducible refine' r_ixG ?hx ?hn ?_); (case hx => walk_at "at"); (case hn => omega))
  | ((with_reducible refine' r_ixGT ?hx ?hn ?_); (case hx => walk_at "at"); (case hn => omega))
  | (with_reducible refine ig_cons (fun hix => ?_) (fun hix => ?_))
  | ((with_reducible refine ig_nil ?_); omega)
  | ((with_reducible refine' i_T ?hc ?_); (case hc => omega))
  | ((with_reducible refine' i_F ?hc ?_); (case hc => omega))
  | (with_reducible refine i_2 (fun hc => ?_) (fun hc => ?_))
  | (with_reducible refine i_n2 (fun hc => ?_) (fun hc => ?_)))
local macro_rules | `(tactic| walk_at "go") => `(tactic| repeat' (first | walk_at "s1" | walk_at "s2"))

local macro_rules | `(tactic| walk_at "s1") => `(tactic| first
  | with_reducible refine s_chain ?_
  | with_reducible refine s_fldS ?_
  | with_reducible refine s_fld ?_
  | with_reducible refine s_dIn ?_
  | with_reducible refine s_dNotIn ?_
  | with_reducible refine s_sl ?_
  | with_reducible refine s_noPart ?_
  | with_reducible refine s_part ?_
  | with_reducible refine s_meth ?_
  | with_reducible refine s_make ?_)

local macro_rules | `(tactic| walk_at "s1") => `(tactic| first
  | with_reducible refine s_m1 ?_
  | with_reducible refine s_strE ?_
  | with_reducible refine s_js ?_
  | with_reducible refine s_js0 ?_
  | with_reducible refine s_fmt ?_)
theorem split_starts {s x : Str} (h : Txt.startswith s x = true) : ∃ y, s = x ++ y := by
  unfold Txt.startswith at h
  rw [Bool.and_eq_true] at h
  obtain ⟨h1, h2⟩ := h
  have h2' : (s.cps.extract 0 (0 + x.cps.size) == x.cps) = true := h2
  rw [Nat.zero_add, beq_iff_eq] at h2'
  refine ⟨⟨(s.cps.toList.drop x.cps.size).toArray⟩, str_ext ?_⟩
  show tl s = tl (x ++ _)
  rw [tl_append]
  have e : tl x = (tl s).take x.cps.size := by
    show x.cps.toList = s.cps.toList.take x.cps.size
    have z := congrArg Array.toList h2'
    rw [Array.toList_extract] at z
    rw [← z]
    simp [List.extract]
  rw [e]
  show tl s = List.take _ (tl s) ++ List.drop _ (tl s)
  rw [List.take_append_drop]
def isDig (c : Nat) : Bool := decide (c ∈ [48, 49])
theorem digs_of {y : Str} (h : y.cps.toList.all isDig = true) : ∃ r, y = digs r ∧ Bits y.length r := by
  refine ⟨y.cps.toList.map fun c => ((c - 48 : Nat) : Int), str_ext ?_, by simp [Str.length], fun x hx => ?_⟩
  · show _ = List.map _ (List.map _ _)
    rw [List.map_map]
    conv => lhs; rw [← List.map_id y.cps.toList]
    refine List.map_congr_left fun c hc => ?_
    have := List.all_eq_true.mp h c hc
    have z : c = 48 ∨ c = 49 := by simpa [isDig] using this
    rcases z with rfl | rfl <;> rfl
  · obtain ⟨c, hc, rfl⟩ := List.mem_map.mp hx
    have := List.all_eq_true.mp h c hc
    have z : c = 48 ∨ c = 49 := by simpa [isDig] using this
    rcases z with rfl | rfl
    · exact .inl rfl
    · exact .inr rfl
section
variable {P : Program} {w : World} {K : PySem.W.Frag} {mg : Str → Option Value} {base : Heap} {A : Ad}
def spRowT : Sp := fun vs H Q _ => ∃ (n : Nat) (r : List Int), vs = [.str (line r), .int n] ∧ Bits n r ∧ n ≤ 8 ∧ ∀ p H', Same H H' → H' p = some (.tup (r.map V.int)) → Q (.ref p) H'
theorem ok_rowT (T : Txt P K mg A) : FnOk P w K mg base CX0 1 A.a_row_told A.d_row_told ["line", "size"] spRowT := by
  refine T.F_row_told.ok sc_row_told (fun vs H Q E h => ?_) (fun cdv A' outer s H vs Q E hr h => ?_)
  · obtain ⟨n, r, rfl, _⟩ := h
    rfl
  · obtain ⟨n, r, rfl, bt, sn, k⟩ := h
    refine ⟨_, (pss_cons (ps_if (pt_not (pt_val (pe_m1 PySem.F.slot_str_startswith PySem.F.type_str_startswith mt_startswith (pv 0) (pe_glob (v := .str (Str.ofString "rule ")) rfl T.k_RULE ⟨_, rfl⟩)))) (pss_one (ps_ret pe_non)) pss_nil)
  (pss_cons (ps_set (i := 2) sc_row_told.nd rfl (Or.inl rfl) (pe_slice sl_str (pv 0) (po_some (pe_callB call_len (by rfl) T.n_len (by decide +kernel) (pa_cons (pe_glob (v := .str (Str.ofString "rule ")) rfl T.k_RULE ⟨_, rfl⟩) pa_nil))) po_none))
  (pss_cons (ps_if (pt_cmpR op_eq (pv 1) pe_int (nomark _)) (pss_one (ps_ret (pe_ifExp (pt_cmpR op_eq (pv 2) (pe_glob (v := .str (Str.ofString "-")) rfl T.k_NO_VALUES ⟨_, rfl⟩) (nomark _)) (pe_tup pa_nil) pe_non))) pss_nil)
  (pss_cons (ps_if (PW.pt (pw_or (pt_cmpR op_ne (pe_callB call_len (by rfl) T.n_len (by decide +kernel) (pa_cons (pv 2) pa_nil)) (pv 1) (nomark _)) (pw_or1 (pt_not (pt_val (pe_callB (cr_all rfl) (by rfl) T.n_all (by decide +kernel) (pa_cons (pe_lc (own := [("sign", 3)]) (g := (gName 3)) (by rfl) sc_row_told.nd (pi_str (pv 2)) (blkOk_by (own := [("sign", 3)]) (N := ["line", "size", "word", "sign"]) (sc := defScope s_row_told) (by decide +kernel)) (fun _ _ _ _ _ => (pg_name (i := 3) sc_row_told.nd rfl (Or.inl rfl))) (fun _ _ _ _ _ => pts_nil) (fun _ _ _ _ _ => (pe_cmpR op_in_sign (pv 3) pe_str rfl))) pa_nil))))))) (pss_one (ps_ret pe_non)) pss_nil)
  (pss_one (ps_ret (pe_callTy call_tuple_of (by rfl) T.n_tuple (by decide +kernel) (pa_cons (pe_lc (own := [("sign", 3)]) (g := (gName 3)) (by rfl) sc_row_told.nd (pi_str (pv 2)) (blkOk_by (own := [("sign", 3)]) (N := ["line", "size", "word", "sign"]) (sc := defScope s_row_told) (by decide +kernel)) (fun _ _ _ _ _ => (pg_name (i := 3) sc_row_told.nd rfl (Or.inl rfl))) (fun _ _ _ _ _ => pts_nil) (fun _ _ _ _ _ => (pe_callTy call_int_str (by rfl) T.n_int (by decide +kernel) (pa_cons (pv 3) pa_nil)))) pa_nil)))))))), ?_⟩
    have lw := len_line bt sn
    rw [line_word] at lw ⊢
    walk_at "sx"
    refine ⟨_, _, rfl, rfl, ?_⟩
    rw [starts]
    walk_at "sx"
    refine ⟨_, 5, rfl, ⟨by decide +kernel, by decide +kernel⟩, ?_⟩
    walk_at "sx"
    refine ⟨_, rfl, Nat.le_trans lw (by decide), ?_⟩
    rw [show (((5 : Nat) : Int)) = ((Str.ofString "rule ").length : Int) by decide +kernel, cut_app]
    walk_at "sx"
    refine i_2 (fun c => ?_) (fun c => ?_)
    · have e : r = [] := List.eq_nil_of_length_eq_zero (by rw [bt.1]; omega)
      subst e
      walk_at "sx"
      refine r_eq rfl ?_
      refine ⟨_, rfl, ?_⟩
      refine i_T rfl ?_
      walk_at "sx"
      rename_i p np H1 s1 h1
      exact k p H1 s1 h1
    · have e : r ≠ [] := fun z => c (by rw [← bt.1, z]; rfl)
      have ew : word r = digs r := if_neg e
      have el : (digs r).length = r.length := by
        show (List.toArray _).size = _
        simp
      have eg : ∀ (i : Nat) (z : Nat), (digs r).cps[i]? = some z → ∃ d, r[i]? = some d ∧ z = 48 + d.toNat := by
        intro i z h
        have h' : (r.map fun d => 48 + d.toNat)[i]? = some z := by simpa [digs] using h
        rw [List.getElem?_map] at h'
        obtain ⟨d, hd, rfl⟩ := Option.map_eq_some_iff.mp h'
        exact ⟨d, hd, rfl⟩
      have sr : r.length ≤ 8 := by rw [bt.1]; exact sn
      rw [ew]
      walk_at "sx"
      refine ⟨_, r.length, rfl, ⟨by rw [el]; exact Nat.le_trans sr (by decide), el.symm⟩, ?_⟩
      walk_at "sx"
      refine i_n2 (fun z => absurd (by rw [bt.1]) z) (fun _ => ?_)
      walk_at "sx"
      refine ⟨_, rfl, _, rfl, fun D hD => lc_it walk_str (fun i H' => Same H H' ∧ H' D = some (.lst ((List.replicate i true).map V.bl))) ⟨Same.new hD, upd_same⟩ (fun _ _ _ _ => trivial) ?_ ?_⟩
      · rintro i x H' H'' hi ⟨s', hD'⟩ ⟨rfl, z, hz, rfl⟩
        obtain ⟨d, hd, rfl⟩ := eg i z hz
        have b := bt.2 d (List.mem_of_getElem? hd)
        refine s_name ⟨rfl, ?_⟩
        refine s_yes (i_t ?_)
        walk_at "sx"
        refine ⟨_, _, rfl, rfl, ?_⟩
        refine ⟨_, hD', ?_, Sx.Same.put s' hD, ?_⟩
        · rw [List.length_map, List.length_replicate]
          have l := el
          have hi' : i < (digs r).length := hi
          show i < 16777216
          omega
        · rw [upd_same, List.replicate_succ', List.map_append]
          rcases b with rfl | rfl <;> rfl
      · rintro H' ⟨s', hD'⟩
        walk_at "sx"
        refine r_all hD' ?_
        rw [show (List.replicate (digs r).cps.size true).all id = true by simp]
        walk_at "sx"
        refine ⟨_, rfl, _, rfl, fun D2 hD2 => lc_it walk_str (fun i H2 => Same H' H2 ∧ H2 D2 = some (.lst ((r.take i).map V.int))) ⟨Same.new hD2, upd_same⟩ (fun _ _ _ _ => trivial) ?_ ?_⟩
        · rintro i x H2 H'' hi ⟨s2, hD2'⟩ ⟨rfl, z, hz, rfl⟩
          obtain ⟨d, hd, rfl⟩ := eg i z hz
          have b := bt.2 d (List.mem_of_getElem? hd)
          refine s_name ⟨rfl, ?_⟩
          refine s_yes (i_t ?_)
          walk_at "sx"
          refine ⟨_, d, rfl, by rcases b with rfl | rfl <;> decide +kernel, by show 1 ≤ 640; decide, ?_⟩
          refine ⟨_, hD2', ?_, Sx.Same.put s2 hD2, ?_⟩
          · rw [List.length_map, List.length_take]
            exact Nat.lt_of_le_of_lt (Nat.min_le_right _ _) (by show r.length < 16777216; omega)
          · rw [upd_same, List.take_succ, hd]
            simp
        · rintro H2 ⟨s2, hD2'⟩
          have e3 : r.take (digs r).cps.size = r := List.take_of_length_le (by rw [← el]; exact Nat.le_refl _)
          rw [e3] at hD2'
          walk_at "sx"
          refine ⟨D2, _, rfl, .inl ⟨SqL.of hD2', fun t nt => ?_⟩⟩
          exact k t _ (s'.trans (s2.trans (Same.new nt))) upd_same

def spRowN : Sp := fun vs H Q _ => ∃ (n : Nat) (s : Str), vs = [.str s, .int n] ∧ n ≤ 8 ∧ s.length < 1000 ∧ (∀ r, Bits n r → s ≠ line r) ∧ ∀ H', Same H H' → Q .non H'
theorem ok_rowN (T : Txt P K mg A) : FnOk P w K mg base CX0 1 A.a_row_told A.d_row_told ["line", "size"] spRowN := by
  refine T.F_row_told.ok sc_row_told (fun vs H Q E h => ?_) (fun cdv A' outer s H vs Q E hr h => ?_)
  · obtain ⟨n, r, rfl, _⟩ := h
    rfl
  · obtain ⟨n, t, rfl, sn, ln, no, k⟩ := h
    refine ⟨_, (pss_cons (ps_if (pt_not (pt_val (pe_m1 PySem.F.slot_str_startswith PySem.F.type_str_startswith mt_startswith (pv 0) (pe_glob (v := .str (Str.ofString "rule ")) rfl T.k_RULE ⟨_, rfl⟩)))) (pss_one (ps_ret pe_non)) pss_nil)
  (pss_cons (ps_set (i := 2) sc_row_told.nd rfl (Or.inl rfl) (pe_slice sl_str (pv 0) (po_some (pe_callB call_len (by rfl) T.n_len (by decide +kernel) (pa_cons (pe_glob (v := .str (Str.ofString "rule ")) rfl T.k_RULE ⟨_, rfl⟩) pa_nil))) po_none))
  (pss_cons (ps_if (pt_cmpR op_eq (pv 1) pe_int (nomark _)) (pss_one (ps_ret (pe_ifExp (pt_cmpR op_eq (pv 2) (pe_glob (v := .str (Str.ofString "-")) rfl T.k_NO_VALUES ⟨_, rfl⟩) (nomark _)) (pe_tup pa_nil) pe_non))) pss_nil)
  (pss_cons (ps_if (PW.pt (pw_or (pt_cmpR op_ne (pe_callB call_len (by rfl) T.n_len (by decide +kernel) (pa_cons (pv 2) pa_nil)) (pv 1) (nomark _)) (pw_or1 (pt_not (pt_val (pe_callB (cr_all rfl) (by rfl) T.n_all (by decide +kernel) (pa_cons (pe_lc (own := [("sign", 3)]) (g := (gName 3)) (by rfl) sc_row_told.nd (pi_str (pv 2)) (blkOk_by (own := [("sign", 3)]) (N := ["line", "size", "word", "sign"]) (sc := defScope s_row_told) (by decide +kernel)) (fun _ _ _ _ _ => (pg_name (i := 3) sc_row_told.nd rfl (Or.inl rfl))) (fun _ _ _ _ _ => pts_nil) (fun _ _ _ _ _ => (pe_cmpR op_in_sign (pv 3) pe_str rfl))) pa_nil))))))) (pss_one (ps_ret pe_non)) pss_nil)
  (pss_one (ps_ret (pe_callTy call_tuple_of (by rfl) T.n_tuple (by decide +kernel) (pa_cons (pe_lc (own := [("sign", 3)]) (g := (gName 3)) (by rfl) sc_row_told.nd (pi_str (pv 2)) (blkOk_by (own := [("sign", 3)]) (N := ["line", "size", "word", "sign"]) (sc := defScope s_row_told) (by decide +kernel)) (fun _ _ _ _ _ => (pg_name (i := 3) sc_row_told.nd rfl (Or.inl rfl))) (fun _ _ _ _ _ => pts_nil) (fun _ _ _ _ _ => (pe_callTy call_int_str (by rfl) T.n_int (by decide +kernel) (pa_cons (pv 3) pa_nil)))) pa_nil)))))))), ?_⟩
    walk_at "sx"
    refine ⟨_, _, rfl, rfl, ?_⟩
    cases hs : Txt.startswith t (Str.ofString "rule ") with
    | false =>
      walk_at "sx"
      exact k H (L2.Same.refl _)
    | true =>
      obtain ⟨y, rfl⟩ := split_starts hs
      rw [app_len, show (Str.ofString "rule ").length = 5 by decide +kernel] at ln
      walk_at "sx"
      refine ⟨_, 5, rfl, ⟨by decide +kernel, by decide +kernel⟩, ?_⟩
      walk_at "sx"
      refine ⟨_, rfl, ?_, ?_⟩
      · rw [app_len, show (Str.ofString "rule ").length = 5 by decide +kernel, sizeLine_eq]
        omega
      rw [show (((5 : Nat) : Int)) = ((Str.ofString "rule ").length : Int) by decide +kernel, cut_app]
      walk_at "sx"
      refine i_2 (fun c => ?_) (fun c => ?_)
      · have c' : n = 0 := by omega
        subst c'
        walk_at "sx"
        refine r_eq rfl ?_
        refine ⟨_, rfl, ?_⟩
        refine i_F (fun e => ?_) ?_
        · have e' : y = Str.ofString "-" := by injection e
          exact no [] ⟨rfl, fun _ h => nomatch h⟩ (by rw [e', line_word]; rfl)
        walk_at "sx"
        exact k H (L2.Same.refl _)
      · walk_at "sx"
        refine ⟨_, y.length, rfl, ⟨by rw [sizeLine_eq]; omega, rfl⟩, ?_⟩
        walk_at "sx"
        refine i_n2 (fun z => ?_) (fun z => ?_)
        · walk_at "sx"
          exact k H (L2.Same.refl _)
        have z' : y.length = n := by omega
        walk_at "sx"
        refine ⟨_, rfl, _, rfl, fun D hD => lc_it walk_str (fun i H' => Same H H' ∧ H' D = some (.lst ((((y.cps.toList.take i).map isDig).map V.bl)))) ⟨Same.new hD, upd_same⟩ (fun _ _ _ _ => trivial) ?_ ?_⟩
        · rintro i x H' H'' hi ⟨s', hD'⟩ ⟨rfl, z, hz, rfl⟩
          refine s_name ⟨rfl, ?_⟩
          refine s_yes (i_t ?_)
          walk_at "sx"
          refine ⟨_, _, rfl, rfl, ?_⟩
          refine ⟨_, hD', ?_, Sx.Same.put s' hD, ?_⟩
          · rw [List.length_map, List.length_map, List.length_take]
            have hi' : i < y.length := hi
            exact Nat.lt_of_le_of_lt (Nat.min_le_left _ _) (by show i < 16777216; omega)
          · rw [upd_same, List.take_succ, List.map_append, List.map_append]
            have hz' : y.cps.toList[i]? = some z := by simpa using hz
            rw [hz']
            rfl
        · rintro H' ⟨s', hD'⟩
          walk_at "sx"
          refine r_all hD' ?_
          have e3 : y.cps.toList.take y.cps.size = y.cps.toList := List.take_of_length_le (by simp)
          rw [e3]
          cases hb : (y.cps.toList.map isDig).all id with
          | true =>
            obtain ⟨r, er, br⟩ := digs_of (y := y) (by rw [List.all_map] at hb; exact hb)
            rw [z'] at br
            have ne : r ≠ [] := fun e => c (by
              have := br.1
              rw [e] at this
              have q : n = 0 := this.symm
              rw [q]
              rfl)
            exact absurd (by rw [line_word, word, if_neg ne, er]) (no r br)
          | false =>
            walk_at "sx"
            exact k H' s'
end
end K09

set_option Elab.async false
set_option linter.all false
set_option maxRecDepth 100000
set_option maxHeartbeats 4000000
namespace K09
open PySem L2 Sx TL
local macro_rules | `(tactic| walk_at "cond") => `(tactic| first
  | assumption
  | decide
  | exact c_mul_r (by first | decide | omega) (by first | decide | omega)
  | exact c_mul_l (by first | decide | omega) (by first | decide | omega)
  | exact c_div (by first | decide | omega) (by first | decide | omega)
  | exact c_pow (by first | decide | omega) (by first | decide | omega) (by first | decide | omega)
  | omega)
local macro_rules | `(tactic| walk_at "ne") => `(tactic| first
  | assumption
  | (refine Ne.symm ?_; assumption)
  | (refine' Flow.ne ?nh ?nn; (case nn => assumption); (case nh => walk_at "fl"))
  | (refine Ne.symm ?_; refine' Flow.ne ?nh ?nn; (case nn => assumption); (case nh => walk_at "fl"))
  | (refine' ne_of_none ?nh ?nn; (case nn => assumption); (case nh => walk_at "at"))
  | (refine Ne.symm ?_; refine' ne_of_none ?nh ?nn; (case nn => assumption); (case nh => walk_at "at")))
local macro_rules | `(tactic| walk_at "at") => `(tactic| first
  | assumption
  | (refine Same.up (by assumption) ?_; walk_at "at")
  | (refine Keep.up (by assumption) (by walk_at "ne") ?_; walk_at "at"))
local macro_rules | `(tactic| walk_at "fl") => `(tactic| first
  | assumption
  | (refine Flow.same (by assumption) ?_; walk_at "fl")
  | (refine Flow.keep (by assumption) (by walk_at "ne") ?_; walk_at "fl"))
local macro_rules | `(tactic| walk_at "fr") => `(tactic| first
  | assumption
  | (refine same_free (by assumption) ?_; walk_at "fr")
  | (refine Keep.free (by assumption) (by walk_at "ne") ?_; walk_at "fr"))
local macro_rules | `(tactic| walk_at "kp") => `(tactic| first
  | assumption
  | exact Keep.refl _ _
  | (refine Keep.trans ?_ (by assumption); walk_at "kp")
  | (refine Keep.trans ?_ (Keep.same (by assumption)); walk_at "kp"))
local macro_rules | `(tactic| walk_at "sm") => `(tactic| first
  | assumption
  | exact L2.Same.refl _
  | (refine L2.Same.trans ?_ (by assumption); walk_at "sm"))
local macro_rules | `(tactic| walk_at "sz") => `(tactic| first | exact Nat.le_of_ble_eq_true rfl | omega)
local macro_rules | `(tactic| walk_at "new") => `(tactic| (intro p np; generalize hE : upd _ p _ = H2; have s2 := new_same np hE; have h2 := new_at hE; clear hE))
local macro_rules | `(tactic| walk_at "newx") => `(tactic| (intro e d na nd hda; generalize hE : upd (upd _ d _) e _ = H2; have s2 := newx_same na nd hE; have h2 := newx_at hE; have h3 := newx_d hda hE; clear hE))
local macro_rules | `(tactic| walk_at "s1") => `(tactic| first
  | with_reducible refine s_seq ?_
  | with_reducible refine s_asg ?_
  | with_reducible refine s_name ?_
  | with_reducible refine s_ret ?_
  | with_reducible refine s_c ?_
  | ((with_reducible refine' s_var ?hv ?_); (case hv => rfl))
  | with_reducible refine s_op ?_
  | with_reducible refine s_un ?_
  | with_reducible refine s_ifS ?_
  | with_reducible refine s_cb ?_
  | with_reducible refine s_cons ?_
  | with_reducible refine s_nil ?_
  | with_reducible refine s_call ?_
  | with_reducible refine s_test ?_
  | with_reducible refine s_tB ?_
  | with_reducible refine s_bl ?_
  | with_reducible refine s_and ?_
  | with_reducible refine s_or ?_
  | with_reducible refine s_not ?_
  | with_reducible refine s_andV ?_
  | with_reducible refine s_orV ?_
  | with_reducible refine s_notV ?_
  | with_reducible refine s_blV ?_
  | with_reducible refine s_if ?_
  | with_reducible refine s_tup ?_
  | with_reducible refine s_lst ?_
  | with_reducible refine s_drop ?_
  | with_reducible refine s_next ?_
  | with_reducible refine s_sub ?_
  | with_reducible refine s_bm ?_
  | with_reducible refine s_callK ?_
  | with_reducible refine s_brk ?_
  | with_reducible refine s_cont ?_
  | with_reducible refine r_I0 ?_
  | with_reducible refine r_U ?_
  | with_reducible refine r_eqI ?_
  | with_reducible refine r_neI ?_
  | with_reducible refine r_isB ?_
  | with_reducible refine r_notB ?_
  | with_reducible refine i_t ?_
  | with_reducible refine i_f ?_
  | with_reducible refine i_nt ?_
  | with_reducible refine i_nf ?_
  | ((with_reducible refine' r_I ?hc ?_); (case hc => walk_at "cond"))
  | (with_reducible refine .inl ⟨_, rfl, ?_⟩)
  | (with_reducible refine ⟨_, rfl, ?_⟩)
  | ((with_reducible refine' r_ixL ?hx ?ha ?_); (case hx => walk_at "at"); (case ha => rfl))
  | ((with_reducible refine' r_ixT ?hx ?ha ?_); (case hx => walk_at "at"); (case ha => rfl))
  | ((with_reducible refine' r_setL ?hx ?ha ?_); (case hx => walk_at "at"); (case ha => rfl); intro H2 k2 h2; (try dsimp only [List.set, Int.toNat] at h2))
  | ((with_reducible refine' r_app ?hx ?hl ?_); (case hx => walk_at "at"); (case hl => first | exact Nat.lt_of_ble_eq_true rfl | omega); intro H2 k2 h2)
  | ((with_reducible refine' ty_list ?hx ?_); (case hx => walk_at "at"))
  | (refine And.intro (by (with_reducible show _ ≤ sizeLine); walk_at "sz") ?_; walk_at "new")
  | with_reducible refine s_exv ?_
  | walk_at "newx")
local macro_rules | `(tactic| walk_at "sx") => `(tactic| repeat (walk_at "s1"))
local macro_rules | `(tactic| walk_at "s2") => `(tactic| first
  | ((with_reducible refine' r_ixG ?hx ?hn ?_); (case hx => walk_at "at"); (case hn => omega))
  | ((with_reducible refine' r_ixGT ?hx ?hn ?_); (case hx => walk_at "at"); (case hn => omega))
  | (with_reducible refine ig_cons (fun hix => ?_) (fun hix => ?_))
  | ((with_reducible refine ig_nil ?_); omega)
  | ((with_reducible refine' i_T ?hc ?_); (case hc => omega))
  | ((with_reducible refine' i_F ?hc ?_); (case hc => omega))
  | (with_reducible refine i_2 (fun hc => ?_) (fun hc => ?_))
  | (with_reducible refine i_n2 (fun hc => ?_) (fun hc => ?_)))
local macro_rules | `(tactic| walk_at "go") => `(tactic| repeat' (first | walk_at "s1" | walk_at "s2"))

local macro_rules | `(tactic| walk_at "s1") => `(tactic| first
  | with_reducible refine s_chain ?_
  | with_reducible refine s_fldS ?_
  | with_reducible refine s_fld ?_
  | with_reducible refine s_dIn ?_
  | with_reducible refine s_dNotIn ?_
  | with_reducible refine s_sl ?_
  | with_reducible refine s_noPart ?_
  | with_reducible refine s_part ?_
  | with_reducible refine s_meth ?_
  | with_reducible refine s_make ?_)

local macro_rules | `(tactic| walk_at "s1") => `(tactic| first
  | with_reducible refine s_m1 ?_
  | with_reducible refine s_strE ?_
  | with_reducible refine s_js ?_
  | with_reducible refine s_js0 ?_
  | with_reducible refine s_fmt ?_)
theorem uL {k : Nat} {A : Around} (r : Room k A) : A.units < cLine := by
  have := r.units
  omega
theorem uE {k : Nat} {A : Around} (r : Room k A) : A.units + 64 < cLine := by
  have := r.units
  omega
/-! order of rows -/
theorem code_cons (d : Int) (r : List Int) : TS.code 2 (d :: r) = d * 2 ^ r.length + TS.code 2 r := rfl
theorem code_bd : ∀ {n : Nat} {r : List Int}, Bits n r → 0 ≤ TS.code 2 r ∧ TS.code 2 r < 2 ^ n
  | 0, [], _ => ⟨Int.le_refl _, by decide⟩
  | 0, _ :: _, h => absurd h.1 (by simp)
  | n + 1, [], h => absurd h.1 (by simp)
  | n + 1, d :: r, h => by
    have hl : r.length = n := by
      have := h.1
      simpa using this
    obtain ⟨h1, h2⟩ := code_bd (n := n) (r := r) ⟨hl, fun x hx => h.2 x (List.mem_cons_of_mem _ hx)⟩
    rw [code_cons, hl, Int.pow_succ]
    rcases h.2 d List.mem_cons_self with rfl | rfl
    · omega
    · omega
theorem lex_code {n : Nat} {a b : List Int} (ha : Bits n a) (hb : Bits n b) : ∀ k i, i + k = n → Ob.lexAt (fun j => decide (a.getD j 0 = b.getD j 0)) (fun j => decide (a.getD j 0 ≤ b.getD j 0)) (decide (a.length ≤ b.length)) i k = decide (TS.code 2 (a.drop i) ≤ TS.code 2 (b.drop i))
  | 0, i, h => by
    rw [Ob.lexAt_zero, ha.1, hb.1, List.drop_eq_nil_of_le (by rw [ha.1]; omega), List.drop_eq_nil_of_le (by rw [hb.1]; omega)]
    simp
  | k + 1, i, h => by
    have la : i < a.length := by rw [ha.1]; omega
    have lb : i < b.length := by rw [hb.1]; omega
    rw [Ob.lexAt_succ, lex_code ha hb k (i + 1) (by omega)]
    have ea : a.drop i = a[i] :: a.drop (i + 1) := List.drop_eq_getElem_cons la
    have eb : b.drop i = b[i] :: b.drop (i + 1) := List.drop_eq_getElem_cons lb
    have ga : a.getD i 0 = a[i] := by simp [la]
    have gb : b.getD i 0 = b[i] := by simp [lb]
    have b1 : Bits k (a.drop (i + 1)) := ⟨by rw [List.length_drop, ha.1]; omega, fun x hx => ha.2 x (List.mem_of_mem_drop hx)⟩
    have b2 : Bits k (b.drop (i + 1)) := ⟨by rw [List.length_drop, hb.1]; omega, fun x hx => hb.2 x (List.mem_of_mem_drop hx)⟩
    obtain ⟨c1, c2⟩ := code_bd b1
    obtain ⟨c3, c4⟩ := code_bd b2
    rw [ea, eb, code_cons, code_cons, b1.1, b2.1, ga, gb]
    have ma := ha.2 a[i] (List.getElem_mem la)
    have mb := hb.2 b[i] (List.getElem_mem lb)
    generalize a[i] = x at *
    generalize b[i] = y at *
    generalize TS.code 2 (a.drop (i + 1)) = s at *
    generalize TS.code 2 (b.drop (i + 1)) = t at *
    generalize (2 : Int) ^ k = z at *
    rcases ma with rfl | rfl <;> rcases mb with rfl | rfl <;> simp <;> omega
/-- where the line i of the lines begins -/
def offs (ps : List Str) (i : Nat) : Nat := ((ps.take i).map fun s => s.length + 1).sum
theorem offs_succ {ps : List Str} {i : Nat} (h : i < ps.length) : offs ps (i + 1) = offs ps i + (ps[i].length + 1) := by
  unfold offs
  rw [List.take_succ, List.getElem?_eq_getElem h, List.map_append, List.sum_append]
  show _ + (List.map _ [ps[i]]).sum = _
  rw [List.map_cons, List.map_nil, List.sum_cons, List.sum_nil, Nat.add_zero]
theorem offs_le (ps : List Str) (i : Nat) : offs ps i ≤ offs ps (i + 1) := by
  rcases Nat.lt_or_ge i ps.length with h | h
  · rw [offs_succ h]
    omega
  · unfold offs
    rw [List.take_of_length_le h, List.take_of_length_le (Nat.le_succ_of_le h)]
    exact Nat.le_refl _
theorem offs_mono (ps : List Str) {i : Nat} : ∀ {j : Nat}, i ≤ j → offs ps i ≤ offs ps j
  | 0, h => by
    rw [Nat.le_zero.mp h]
    exact Nat.le_refl _
  | j + 1, h => by
    rcases Nat.lt_or_eq_of_le h with l | rfl
    · exact Nat.le_trans (offs_mono ps (Nat.le_of_lt_succ l)) (offs_le ps j)
    · exact Nat.le_refl _
theorem join_size : ∀ ps : List Str, ps ≠ [] → (Str.join nl ps).length + 1 = offs ps ps.length
  | [], h => absurd rfl h
  | [x], _ => by
    show x.length + 1 = _
    simp [offs]
  | x :: z :: r, _ => by
    have ih := join_size (z :: r) (by simp)
    show (x ++ nl ++ Str.join nl (z :: r)).length + 1 = _
    have e : offs (x :: z :: r) (x :: z :: r).length = (x.length + 1) + offs (z :: r) (z :: r).length := by
      unfold offs
      rw [List.take_length, List.take_length, List.map_cons, List.sum_cons]
    rw [app_len, app_len, e, ← ih, show nl.length = 1 by decide +kernel]
    omega
theorem spl_ne (S : List Nat) : ∀ (l : List Nat) (k : Nat) (acc : List Nat), spl S k acc l ≠ []
  | [], k, acc => by
    unfold spl
    simp
  | c :: r, 0, acc => by
    unfold spl
    split
    · simp
    · exact spl_ne S r 0 _
  | _ :: r, k + 1, acc => by
    unfold spl
    exact spl_ne S r k acc
theorem split_ne (t : Str) : Txt.split t nl ≠ [] := fun e => by
  have z := split_spl t nl (by decide +kernel) (kind_ok (by decide +kernel))
  rw [e] at z
  exact spl_ne _ _ _ _ z.symm
theorem split_size (t : Str) : offs (Txt.split t nl) (Txt.split t nl).length = t.length + 1 := by
  rw [← join_size _ (split_ne t), PySem.StrLaws.join_split]
theorem offs_in {t : Str} {i : Nat} (h : i < (Txt.split t nl).length) : offs (Txt.split t nl) i ≤ t.length := by
  have a := offs_mono (Txt.split t nl) (i := i + 1) (j := (Txt.split t nl).length) h
  rw [split_size, offs_succ h] at a
  omega
theorem mem_len {t y : Str} (h : y ∈ Txt.split t nl) : y.length ≤ t.length := by
  obtain ⟨i, hi, rfl⟩ := List.mem_iff_getElem.mp h
  have a := offs_mono (Txt.split t nl) (i := i + 1) (j := (Txt.split t nl).length) hi
  rw [split_size, offs_succ hi] at a
  omega
theorem offs_ge (ps : List Str) : ∀ i, i ≤ ps.length → i ≤ offs ps i
  | 0, _ => Nat.zero_le _
  | i + 1, h => by
    have := offs_ge ps i (by omega)
    rw [offs_succ (by omega)]
    omega
theorem split_few (t : Str) : (Txt.split t nl).length ≤ t.length + 1 := by
  rw [← split_size]
  exact offs_ge _ _ (Nat.le_refl _)
theorem lt_code : ∀ {n : Nat} {a b : List Int}, Bits n a → Bits n b → HT.lexLt a b = decide (TS.code 2 a < TS.code 2 b)
  | 0, [], [], _, _ => rfl
  | 0, _ :: _, _, h, _ => absurd h.1 (by simp)
  | 0, [], _ :: _, _, h => absurd h.1 (by simp)
  | n + 1, [], _, h, _ => absurd h.1 (by simp)
  | n + 1, _ :: _, [], _, h => absurd h.1 (by simp)
  | n + 1, d :: r, e :: s, ha, hb => by
    have lr : r.length = n := by
      have := ha.1
      simpa using this
    have ls : s.length = n := by
      have := hb.1
      simpa using this
    have b1 : Bits n r := ⟨lr, fun x hx => ha.2 x (List.mem_cons_of_mem _ hx)⟩
    have b2 : Bits n s := ⟨ls, fun x hx => hb.2 x (List.mem_cons_of_mem _ hx)⟩
    obtain ⟨c1, c2⟩ := code_bd b1
    obtain ⟨c3, c4⟩ := code_bd b2
    rw [HT.lexLt_cons, lt_code b1 b2, code_cons, code_cons, lr, ls]
    have ma := ha.2 d List.mem_cons_self
    have mb := hb.2 e List.mem_cons_self
    generalize TS.code 2 r = s' at *
    generalize TS.code 2 s = t' at *
    generalize (2 : Int) ^ n = z at *
    rcases ma with rfl | rfl <;> rcases mb with rfl | rfl <;> simp <;> omega
section
variable {P : Program} {w : World} {K : PySem.W.Frag} {mg : Str → Option Value} {base : Heap} {A : Ad}
theorem c_make {C l : Addr} {n : Nat} {ks : List (Addr × List Int)} {H : Hp} {R : Addr → Hp → Prop} {E : XK} (hl : H l = some (.lst (ks.map rf))) (ne : ks ≠ []) (sz : ks.length < 64) (sn : n < 1000) (rows : RowsAt H n ks)
    (q : ∀ x H' ks', Same H H' → Of ks ks' → RuAt C H' x n ks' → R x H') : ∀ x dx, H x = none → H dx = none → dx ≠ x → spMake C (.ref x :: ([.int n, .ref l] ++ [])) (upd (upd H dx (.own x)) x (.ins C dx [])) (fun v H2 => v = .non ∧ R x H2) E := by
  intro x dx nx nd hd
  have s := newx_same (H := H) (a := x) (d := dx) (o := .ins C dx []) (u := .own x) nx nd rfl
  refine ⟨x, dx, l, n, ks, rfl, upd_same, s _ _ hl, ne, sz, sn, rows.same s, fun p hp e => ?_, fun H' ks' k o r => ⟨rfl, q x H' ks' (Keep.toSame s nx k) o r⟩⟩
  have z := (rows p hp).1
  rw [e, nx] at z
  cases z
theorem s_fldaug {σ : L2.St} {H : Hp} {D : Ends} {ta tv : TE} {rd : V → V → Hp → VK → Prop} {f : Str} (h : ta σ H fun x H1 => ∃ a C dx fs v, x = .ref a ∧ H1 a = some (.ins C dx fs) ∧ Cls K C ∧ NoAttr K C f ∧ fs.lookup f = some v ∧
  tv σ H1 fun y H2 => rd v y H2 fun z H3 => ∃ dx' fs', H3 a = some (.ins C dx' fs') ∧ fs'.length < 1000 ∧ D.nx σ (upd H3 a (.ins C dx' (putF f z fs')))) : sFldAug K ta tv rd f D σ H := h
def LnAt (C : Addr) (H : Hp) (x p : Addr) (ps : List Str) (i : Nat) (t : Str) : Prop := ∃ dx, H x = some (.ins C dx [("text", .str t), ("_lines", .ref p), ("_taken", .int i), ("_at", .int (offs ps i : Nat))]) ∧ H p = some (.lst (ps.map V.str))
theorem LnAt.same {C : Addr} {H H' : Hp} {x p : Addr} {ps : List Str} {i : Nat} {t : Str} (s : Same H H') (h : LnAt C H x p ps i t) : LnAt C H' x p ps i t := by
  obtain ⟨dx, h1, h2⟩ := h
  exact ⟨dx, s _ _ h1, s _ _ h2⟩
def spLn (C : Addr) : Sp := fun vs H Q _ => ∃ (x dx : Addr) (t : Str), vs = [.ref x, .str t] ∧ H x = some (.ins C dx []) ∧ t.length < 900 ∧
  ∀ H' p, Keep x H H' → LnAt C H' x p (Txt.split t nl) 0 t → Q .non H'
theorem ok_ln (T : Txt P K mg A) : FnOk P w K mg base CX0 1 A.a_Lines____init__ A.d_Lines____init__ ["self", "text"] (spLn A.c_Lines) := by
  refine T.F_Lines____init__.ok sc_Lines____init__ (fun vs H Q E h => ?_) (fun cdv A' outer s H vs Q E hr h => ?_)
  · obtain ⟨x, dx, t, rfl, _⟩ := h
    rfl
  · obtain ⟨x, dx, t, rfl, hx, lt, k⟩ := h
    refine ⟨_, (pss_cons (ps_fld (pv 0) (pv 1) (by rfl))
  (pss_cons (ps_fld (pv 0) (pe_split (pv 1) pe_str) (by rfl))
  (pss_cons (ps_fld (pv 0) pe_int (by rfl))
  (pss_one (ps_fld (pv 0) pe_int (by rfl)))))), ?_⟩
    walk_at "sx"
    refine r_put rfl hx T.cl_Lines T.no_Lines_text (Nat.le_of_ble_eq_true rfl) (fun H2 k2 h2 => ?_)
    walk_at "sx"
    refine ⟨_, _, rfl, rfl, by decide +kernel, ?_, ?_⟩
    · rw [sizeLine_eq]
      omega
    intro p0 np0
    generalize hE0 : upd H2 p0 _ = H3
    have s3 := new_same np0 hE0
    have h3 : H3 p0 = some (.lst ((Txt.split t nl).map V.str)) := new_at hE0
    clear hE0
    have hx3 := s3 _ _ h2
    have px : p0 ≠ x := fun e => by rw [e, h2] at np0; cases np0
    walk_at "sx"
    refine r_put rfl hx3 T.cl_Lines T.no_Lines__lines (Nat.le_of_ble_eq_true rfl) (fun H4 k4 h4 => ?_)
    walk_at "sx"
    refine r_put rfl h4 T.cl_Lines T.no_Lines__taken (Nat.le_of_ble_eq_true rfl) (fun H5 k5 h5 => ?_)
    walk_at "sx"
    refine r_put rfl h5 T.cl_Lines T.no_Lines__at (Nat.le_of_ble_eq_true rfl) (fun H6 k6 h6 => ?_)
    walk_at "sx"
    exact k H6 p0 (k2.trans ((Keep.same s3).trans (k4.trans (k5.trans k6)))) ⟨dx, h6, k6 _ _ px (k5 _ _ px (k4 _ _ px h3))⟩
def spEnded (C : Addr) : Sp := fun vs H Q _ => ∃ (x p : Addr) (ps : List Str) (i : Nat) (t : Str), vs = [.ref x] ∧ LnAt C H x p ps i t ∧ Q (.bl (decide (i = ps.length))) H
theorem ok_ended (T : Txt P K mg A) : FnOk P w K mg base CX0 1 A.a_Lines__ended A.d_Lines__ended ["self"] (spEnded A.c_Lines) := by
  refine T.F_Lines__ended.ok sc_Lines__ended (fun vs H Q E h => ?_) (fun cdv A' outer s H vs Q E hr h => ?_)
  · obtain ⟨x, p, ps, i, t, rfl, _⟩ := h
    rfl
  · obtain ⟨x, p, ps, i, t, rfl, ⟨dx, h1, h2⟩, q⟩ := h
    refine ⟨_, (pss_one (ps_ret (pe_cmpR op_eq (pe_fld (pv 0) rfl) (pe_callB call_len (by rfl) T.n_len (by decide +kernel) (pa_cons (pe_fld (pv 0) rfl) pa_nil)) (nomark _)))), ?_⟩
    walk_at "sx"
    refine r_get rfl h1 T.cl_Lines T.no_Lines__taken rfl ?_
    walk_at "sx"
    refine r_get rfl h1 T.cl_Lines T.no_Lines__lines rfl ?_
    walk_at "sx"
    refine ⟨_, _, rfl, .inl ⟨_, SqL.of h2, rfl⟩, ?_⟩
    walk_at "sx"
    rw [List.length_map]
    rw [show decide ((i : Int) = (ps.length : Int)) = decide (i = ps.length) from decide_eq_decide.mpr ⟨fun h => by exact_mod_cast h, fun h => by rw [h]⟩]
    exact q
def spAhead (C : Addr) : Sp := fun vs H Q _ => ∃ (x p : Addr) (ps : List Str) (i : Nat) (t : Str), vs = [.ref x] ∧ LnAt C H x p ps i t ∧ ps.length < 1000 ∧ i ≤ ps.length ∧ Q (.str (ps.getD i (Str.ofString ""))) H
theorem ok_ahead (T : Txt P K mg A) : FnOk P w K mg base CX0 2 A.a_Lines__ahead A.d_Lines__ahead ["self"] (spAhead A.c_Lines) := by
  refine T.F_Lines__ahead.ok sc_Lines__ahead (fun vs H Q E h => ?_) (fun cdv A' outer s H vs Q E hr h => ?_)
  · obtain ⟨x, p, ps, i, t, rfl, _⟩ := h
    rfl
  · obtain ⟨x, p, ps, i, t, rfl, h, few, le, q⟩ := h
    have G_Lines__ended := ok_ended (w := w) (base := base) T
    obtain ⟨dx, h1, h2⟩ := id h
    have h2' : True → H p = some (.lst (ps.map V.str)) := fun _ => h2
    clear h2
    refine ⟨_, (pss_one (ps_ret (pe_ifExp (pt_val (pe_meth0 (pv 0) T.cl_Lines T.me_Lines_ended G_Lines__ended (hr.mono (by decide)) (B_Lines__ended T) .nil pass0)) pe_str (pe_ix ix_seq (pe_fld (pv 0) rfl) (pe_fld (pv 0) rfl) (fun _ _ => rfl))))), ?_⟩
    walk_at "sx"
    refine ⟨x, dx, _, rfl, h1, rfl, ?_⟩
    walk_at "sx"
    refine ⟨x, p, ps, i, t, rfl, h, ?_⟩
    walk_at "sx"
    refine i_2 (fun c => ?_) (fun c => ?_)
    · walk_at "sx"
      rw [c] at q
      rw [List.getD_eq_getElem?_getD, List.getElem?_eq_none (Nat.le_refl _)] at q
      exact q
    · walk_at "sx"
      refine r_get rfl h1 T.cl_Lines T.no_Lines__lines rfl ?_
      refine s_fld ?_
      refine s_var rfl ?_
      refine r_get rfl h1 T.cl_Lines T.no_Lines__taken rfl ?_
      have lt : i < ps.length := by omega
      refine r_ixL (h2' trivial) (v := .str ps[i]) (atI_nat (by simp [lt])) ?_
      rw [List.getD_eq_getElem?_getD, List.getElem?_eq_getElem lt] at q
      exact q
def spTk (C : Addr) : Sp := fun vs H Q _ => ∃ (x p : Addr) (ps : List Str) (i : Nat) (t : Str), vs = [.ref x] ∧ LnAt C H x p ps i t ∧ p ≠ x ∧ ps.length < 1000 ∧ i < ps.length ∧ (∀ y ∈ ps, y.length < 1000) ∧ ∀ H', Keep x H H' → LnAt C H' x p ps (i + 1) t → Q .non H'
theorem ok_tk (T : Txt P K mg A) : FnOk P w K mg base CX0 3 A.a_Lines__take A.d_Lines__take ["self"] (spTk A.c_Lines) := by
  refine T.F_Lines__take.ok sc_Lines__take (fun vs H Q E h => ?_) (fun cdv A' outer s H vs Q E hr h => ?_)
  · obtain ⟨x, p, ps, i, t, rfl, _⟩ := h
    rfl
  · obtain ⟨x, p, ps, i, t, rfl, h, px, few, lt, sm, q⟩ := h
    have G_Lines__ahead := ok_ahead (w := w) (base := base) T
    obtain ⟨dx, h1, h2⟩ := id h
    have h2' : True → H p = some (.lst (ps.map V.str)) := fun _ => h2
    clear h2
    refine ⟨_, (pss_cons (ps_fldaug (pv 0) (pe_op op_add (pe_callB call_len (by rfl) T.n_len (by decide +kernel) (pa_cons (pe_meth0 (pv 0) T.cl_Lines T.me_Lines_ahead G_Lines__ahead (hr.mono (by decide)) (B_Lines__ahead T) .nil pass0) pa_nil)) pe_int) in_add)
  (pss_one (ps_fldaug (pv 0) pe_int in_add))), ?_⟩
    walk_at "sx"
    refine s_fldaug ?_
    walk_at "sx"
    refine ⟨x, _, dx, _, _, rfl, h1, T.cl_Lines, T.no_Lines__at, rfl, ?_⟩
    walk_at "sx"
    refine ⟨x, dx, _, rfl, h1, rfl, ?_⟩
    walk_at "sx"
    refine ⟨x, p, ps, i, t, rfl, h, few, by omega, ?_⟩
    walk_at "sx"
    refine ⟨_, _, rfl, ⟨?_, rfl⟩, ?_⟩
    · rw [List.getD_eq_getElem?_getD, List.getElem?_eq_getElem lt]
      have := sm _ (List.getElem_mem lt)
      show (ps[i]).length ≤ _
      rw [sizeLine_eq]
      omega
    walk_at "sx"
    refine ⟨_, _, rfl, rfl, dx, _, h1, Nat.le_of_ble_eq_true rfl, ?_⟩
    generalize hE : upd H x _ = H1
    have k1 : Keep x H H1 := by rw [← hE]; exact put_keep rfl
    have g1 : H1 x = some (.ins A.c_Lines dx [("text", .str t), ("_lines", .ref p), ("_taken", .int i), ("_at", .int ((offs ps i : Nat) + ((ps.getD i (Str.ofString "")).length + 1)))]) := by rw [← hE]; exact upd_same
    clear hE
    walk_at "sx"
    dsimp only
    refine s_fldaug ?_
    walk_at "sx"
    refine ⟨x, _, dx, _, _, rfl, g1, T.cl_Lines, T.no_Lines__taken, rfl, ?_⟩
    walk_at "sx"
    refine ⟨_, _, rfl, rfl, dx, _, g1, Nat.le_of_ble_eq_true rfl, ?_⟩
    generalize hE : upd H1 x _ = H2
    have k2 : Keep x H1 H2 := by rw [← hE]; exact put_keep rfl
    have g2 : H2 x = some (.ins A.c_Lines dx [("text", .str t), ("_lines", .ref p), ("_taken", .int ((i + 1 : Nat) : Int)), ("_at", .int ((offs ps i : Nat) + ((ps.getD i (Str.ofString "")).length + 1)))]) := by rw [← hE]; exact upd_same
    clear hE
    walk_at "sx"
    refine q H2 (k1.trans k2) ⟨dx, ?_, k2 _ _ px (k1 _ _ px (h2' trivial))⟩
    rw [g2, offs_succ lt, List.getD_eq_getElem?_getD, List.getElem?_eq_getElem lt]
    rfl
def spPlace (C : Addr) : Sp := fun vs H Q _ => ∃ (x p : Addr) (ps : List Str) (i : Nat) (t : Str), vs = [.ref x] ∧ LnAt C H x p ps i t ∧ t.length < 900 ∧ Q (.int (min (offs ps i) t.length : Nat)) H
theorem ok_place (T : Txt P K mg A) : FnOk P w K mg base CX0 1 A.a_Lines__place A.d_Lines__place ["self"] (spPlace A.c_Lines) := by
  refine T.F_Lines__place.ok sc_Lines__place (fun vs H Q E h => ?_) (fun cdv A' outer s H vs Q E hr h => ?_)
  · obtain ⟨x, p, ps, i, t, rfl, _⟩ := h
    rfl
  · obtain ⟨x, p, ps, i, t, rfl, ⟨dx, h1, h2⟩, lt, q⟩ := h
    refine ⟨_, (pss_one (ps_ret (pe_callB (call_min2 rfl) (by rfl) T.n_min (by decide +kernel) (pa_cons (pe_fld (pv 0) rfl) (pa_cons (pe_callB call_len (by rfl) T.n_len (by decide +kernel) (pa_cons (pe_fld (pv 0) rfl) pa_nil)) pa_nil))))), ?_⟩
    walk_at "sx"
    refine r_get rfl h1 T.cl_Lines T.no_Lines__at rfl ?_
    walk_at "sx"
    refine r_get rfl h1 T.cl_Lines T.no_Lines_text rfl ?_
    walk_at "sx"
    refine ⟨_, _, rfl, ⟨by rw [sizeLine_eq]; omega, rfl⟩, ?_⟩
    walk_at "sx"
    refine ⟨_, _, rfl, ?_⟩
    have e : (if ((t.length : Nat) : Int) < ((offs ps i : Nat) : Int) then ((t.length : Nat) : Int) else ((offs ps i : Nat) : Int)) = ((min (offs ps i) t.length : Nat) : Int) := by
      split <;> omega
    rw [e]
    exact q
def spOr (a b : Sp) : Sp := fun vs H Q E => a vs H Q E ∨ b vs H Q E
theorem fn_or {k : Nat} {f : Addr} {fd : FuncData} {ps : List Str} {a b : Sp} (F : FnOk P w K mg base CX0 k f fd ps a) (G : FnOk P w K mg base CX0 k f fd ps b) : FnOk P w K mg base CX0 k f fd ps (spOr a b) :=
  ⟨fun vs H Q E h => h.elim (F.len vs H Q E) (G.len vs H Q E), fun A outer s H args us vs Q E hr he hb hv h => h.elim (F.run A outer s H args us vs Q E hr he hb hv) (G.run A outer s H args us vs Q E hr he hb hv)⟩
end
end K09

set_option Elab.async false
set_option linter.all false
set_option maxRecDepth 100000
set_option maxHeartbeats 4000000
namespace K09
open PySem L2 Sx TL
/-! what a text tells -/
theorem code_inj : ∀ {n : Nat} {a b : List Int}, Bits n a → Bits n b → TS.code 2 a = TS.code 2 b → a = b
  | 0, [], [], _, _, _ => rfl
  | 0, _ :: _, _, h, _, _ => absurd h.1 (by simp)
  | 0, [], _ :: _, _, h, _ => absurd h.1 (by simp)
  | n + 1, [], _, h, _, _ => absurd h.1 (by simp)
  | n + 1, _ :: _, [], _, h, _ => absurd h.1 (by simp)
  | n + 1, d :: r, e :: s, ha, hb, q => by
    have lr : r.length = n := by
      have := ha.1
      simpa using this
    have ls : s.length = n := by
      have := hb.1
      simpa using this
    have b1 : Bits n r := ⟨lr, fun x hx => ha.2 x (List.mem_cons_of_mem _ hx)⟩
    have b2 : Bits n s := ⟨ls, fun x hx => hb.2 x (List.mem_cons_of_mem _ hx)⟩
    obtain ⟨c1, c2⟩ := code_bd b1
    obtain ⟨c3, c4⟩ := code_bd b2
    rw [code_cons, code_cons, lr, ls] at q
    have ma := ha.2 d List.mem_cons_self
    have mb := hb.2 e List.mem_cons_self
    have ih := code_inj b1 b2
    generalize TS.code 2 r = s' at *
    generalize TS.code 2 s = t' at *
    generalize (2 : Int) ^ n = z at *
    rcases ma with rfl | rfl <;> rcases mb with rfl | rfl <;> first | (exfalso; omega) | rw [ih (by omega)]
/-- a list made of rows that ascend has just these, in order -/
theorem of_asc {n : Nat} {rs : List (List Int)} {ls ks : List (Addr × List Int)} (bt : ∀ r ∈ rs, Bits n r) (asc : rs.Pairwise fun a b => TS.code 2 a < TS.code 2 b) (e : ls.map (·.2) = rs) (o : Of ls ks) : ks.map (·.2) = rs := by
  have ndr : rs.Nodup := asc.imp fun {a b} h z => by
    rw [z] at h
    omega
  have mem : ∀ r, r ∈ ks.map (·.2) ↔ r ∈ rs := fun r => by
    rw [← e]
    exact ⟨fun h => (List.mem_map.mp h).elim fun p hp => List.mem_map.mpr ⟨p, o.1 p hp.1, hp.2⟩, fun h => (List.mem_map.mp h).elim fun p hp => hp.2 ▸ o.2.1 p hp.1⟩
  have perm := (List.perm_ext_iff_of_nodup o.2.2.1.1 ndr).mpr mem
  refine List.Perm.eq_of_pairwise (le := fun a b => TS.code 2 a ≤ TS.code 2 b) (fun a b ha hb h1 h2 => ?_) (List.pairwise_map.mpr o.2.2.1.2) (asc.imp fun {a b} h => by omega) perm
  exact code_inj (bt a ((mem a).mp ha)) (bt b hb) (by omega)
open Classical in
/-- the row that a line tells, none if it tells none -/
noncomputable def rowOf (n : Nat) (s : Str) : Option (List Int) := if h : ∃ r, Bits n r ∧ s = line r then some h.choose else none
theorem rowOf_some {n : Nat} {s : Str} {r : List Int} (h : rowOf n s = some r) : Bits n r ∧ s = line r := by
  unfold rowOf at h
  split at h
  · rename_i z
    cases h
    exact z.choose_spec
  · cases h
theorem rowOf_none {n : Nat} {s : Str} (h : rowOf n s = none) : ∀ r, Bits n r → s ≠ line r := by
  unfold rowOf at h
  split at h
  · cases h
  · rename_i z
    exact fun r b e => z ⟨r, b, e⟩
theorem rowOf_empty (n : Nat) : rowOf n (Str.ofString "") = none := by
  cases e : rowOf n (Str.ofString "") with
  | none => rfl
  | some r =>
    have z := congrArg Str.length (rowOf_some e).2
    rw [line_word, app_len, show (Str.ofString "").length = 0 by decide +kernel, show (Str.ofString "rule ").length = 5 by decide +kernel] at z
    omega
open Classical in
/-- how many points a line tells, none if it is no points line -/
noncomputable def szOf (s : Str) : Option Nat := if h : ∃ n, n ≤ 8 ∧ s = pl n then some h.choose else none
theorem szOf_some {s : Str} {n : Nat} (h : szOf s = some n) : n ≤ 8 ∧ s = pl n := by
  unfold szOf at h
  split at h
  · rename_i z
    cases h
    exact z.choose_spec
  · cases h
theorem szOf_none {s : Str} (h : szOf s = none) : ∀ n, n ≤ 8 → s ≠ pl n := by
  unfold szOf at h
  split at h
  · cases h
  · rename_i z
    exact fun n b e => z ⟨n, b, e⟩
def okp (last : Option (List Int)) (r : List Int) : Bool := match last with
  | none => true
  | some l => decide (TS.code 2 l < TS.code 2 r)
/-- the rows that the lines tell one after another, as long as each is told and greater than the last -/
noncomputable def tk (n : Nat) : Option (List Int) → List Str → List (List Int)
  | _, [] => []
  | last, s :: l => match rowOf n s with
    | none => []
    | some r => if okp last r = true then r :: tk n (some r) l else []
theorem tk_cons (n : Nat) (last : Option (List Int)) (s : Str) (l : List Str) : tk n last (s :: l) = match rowOf n s with
    | none => []
    | some r => if okp last r = true then r :: tk n (some r) l else [] := by
  cases last <;> rfl
theorem tk_len (n : Nat) : ∀ (l : List Str) (last : Option (List Int)), (tk n last l).length ≤ l.length
  | [], _ => Nat.le_refl _
  | s :: l, last => by
    unfold tk
    split
    · exact Nat.zero_le _
    · split
      · exact Nat.succ_le_succ (tk_len n l _)
      · exact Nat.zero_le _
theorem tk_bits (n : Nat) : ∀ (l : List Str) (last : Option (List Int)), ∀ r ∈ tk n last l, Bits n r
  | [], _, r, h => nomatch h
  | s :: l, last, r, h => by
    unfold tk at h
    split at h
    · cases h
    · rename_i q hq
      split at h
      · rcases List.mem_cons.mp h with rfl | h
        · exact (rowOf_some hq).1
        · exact tk_bits n l _ r h
      · cases h
theorem tk_line (n : Nat) : ∀ (l : List Str) (last : Option (List Int)) (i : Nat) (r : List Int), (tk n last l)[i]? = some r → l[i]? = some (line r)
  | [], _, i, r, h => by
    unfold tk at h
    simp at h
  | s :: l, last, i, r, h => by
    unfold tk at h
    split at h
    · simp at h
    · rename_i q hq
      split at h
      · cases i with
        | zero =>
          have e : q = r := by simpa using h
          rw [← e, ← (rowOf_some hq).2]
          rfl
        | succ i => exact tk_line n l _ i r h
      · simp at h
theorem tk_asc (n : Nat) : ∀ (l : List Str) (last : Option (List Int)), (∀ x, last = some x → ∀ r ∈ tk n last l, TS.code 2 x < TS.code 2 r) ∧ (tk n last l).Pairwise fun a b => TS.code 2 a < TS.code 2 b
  | [], last => ⟨fun _ _ _ h => (nomatch h : False).elim, List.Pairwise.nil⟩
  | s :: l, last => by
    unfold tk
    split
    · exact ⟨fun _ _ _ h => (nomatch h : False).elim, List.Pairwise.nil⟩
    · rename_i q hq
      split
      · rename_i ok
        obtain ⟨i1, i2⟩ := tk_asc n l (some q)
        refine ⟨fun x e r h => ?_, List.pairwise_cons.mpr ⟨fun r h => i1 q rfl r h, i2⟩⟩
        have xq : TS.code 2 x < TS.code 2 q := by
          rw [e] at ok
          exact of_decide_eq_true ok
        rcases List.mem_cons.mp h with rfl | h
        · exact xq
        · exact Int.lt_trans xq (i1 q rfl r h)
      · exact ⟨fun _ _ _ h => (nomatch h : False).elim, List.Pairwise.nil⟩
/-- the row told next -/
theorem tk_next (n : Nat) : ∀ (l : List Str) (last : Option (List Int)) (i : Nat), i ≤ (tk n last l).length →
    (tk n last l)[i]? = match rowOf n (l.getD i (Str.ofString "")) with
      | none => none
      | some r => if okp ((last :: (tk n last l).map some).getD i none) r = true then some r else none
  | [], last, i, h => by
    unfold tk at h ⊢
    have e : i = 0 := Nat.le_zero.mp h
    subst e
    show none = match rowOf n (Str.ofString "") with | none => none | some r => _
    rw [rowOf_empty]
  | s :: l, last, 0, h => by
    unfold tk
    show _ = match rowOf n s with | none => none | some r => if okp last r = true then some r else none
    cases rowOf n s with
    | none => rfl
    | some r =>
      dsimp only
      split <;> rfl
  | s :: l, last, i + 1, h => by
    have key : (∃ q, tk n last (s :: l) = q :: tk n (some q) l) ∨ tk n last (s :: l) = [] := by
      rw [tk_cons]
      split
      · exact .inr rfl
      · rename_i q hq
        split
        · refine .inl ⟨q, ?_⟩
          rfl
        · exact .inr rfl
    have ih := tk_next n l
    generalize tk n last (s :: l) = L at h key ⊢
    rcases key with ⟨q, rfl⟩ | rfl
    · exact ih (some q) i (by simpa using h)
    · exact absurd h (by simp)
/-- how many lines are right, and what they tell -/
noncomputable def told (ps : List Str) : Nat × Option (Nat × List (List Int)) :=
  match szOf (ps.getD 0 (Str.ofString "")) with
  | none => (0, none)
  | some n => ((tk n none ps.tail).length + 1, if tk n none ps.tail = [] then none else some (n, tk n none ps.tail))
end K09

set_option Elab.async false
set_option linter.all false
set_option maxRecDepth 100000
set_option maxHeartbeats 4000000
namespace K09
open PySem L2 Sx TL
local macro_rules | `(tactic| walk_at "cond") => `(tactic| first
  | assumption
  | decide
  | exact c_mul_r (by first | decide | omega) (by first | decide | omega)
  | exact c_mul_l (by first | decide | omega) (by first | decide | omega)
  | exact c_div (by first | decide | omega) (by first | decide | omega)
  | exact c_pow (by first | decide | omega) (by first | decide | omega) (by first | decide | omega)
  | omega)
local macro_rules | `(tactic| walk_at "ne") => `(tactic| first
  | assumption
  | (refine Ne.symm ?_; assumption)
  | (refine' Flow.ne ?nh ?nn; (case nn => assumption); (case nh => walk_at "fl"))
  | (refine Ne.symm ?_; refine' Flow.ne ?nh ?nn; (case nn => assumption); (case nh => walk_at "fl"))
  | (refine' ne_of_none ?nh ?nn; (case nn => assumption); (case nh => walk_at "at"))
  | (refine Ne.symm ?_; refine' ne_of_none ?nh ?nn; (case nn => assumption); (case nh => walk_at "at")))
local macro_rules | `(tactic| walk_at "at") => `(tactic| first
  | assumption
  | (refine Same.up (by assumption) ?_; walk_at "at")
  | (refine Keep.up (by assumption) (by walk_at "ne") ?_; walk_at "at"))
local macro_rules | `(tactic| walk_at "fl") => `(tactic| first
  | assumption
  | (refine Flow.same (by assumption) ?_; walk_at "fl")
  | (refine Flow.keep (by assumption) (by walk_at "ne") ?_; walk_at "fl"))
local macro_rules | `(tactic| walk_at "fr") => `(tactic| first
  | assumption
  | (refine same_free (by assumption) ?_; walk_at "fr")
  | (refine Keep.free (by assumption) (by walk_at "ne") ?_; walk_at "fr"))
local macro_rules | `(tactic| walk_at "kp") => `(tactic| first
  | assumption
  | exact Keep.refl _ _
  | (refine Keep.trans ?_ (by assumption); walk_at "kp")
  | (refine Keep.trans ?_ (Keep.same (by assumption)); walk_at "kp"))
local macro_rules | `(tactic| walk_at "sm") => `(tactic| first
  | assumption
  | exact L2.Same.refl _
  | (refine L2.Same.trans ?_ (by assumption); walk_at "sm"))
local macro_rules | `(tactic| walk_at "sz") => `(tactic| first | exact Nat.le_of_ble_eq_true rfl | omega)
local macro_rules | `(tactic| walk_at "new") => `(tactic| (intro p np; generalize hE : upd _ p _ = H2; have s2 := new_same np hE; have h2 := new_at hE; clear hE))
local macro_rules | `(tactic| walk_at "newx") => `(tactic| (intro e d na nd hda; generalize hE : upd (upd _ d _) e _ = H2; have s2 := newx_same na nd hE; have h2 := newx_at hE; have h3 := newx_d hda hE; clear hE))
local macro_rules | `(tactic| walk_at "s1") => `(tactic| first
  | with_reducible refine s_seq ?_
  | with_reducible refine s_asg ?_
  | with_reducible refine s_name ?_
  | with_reducible refine s_ret ?_
  | with_reducible refine s_c ?_
  | ((with_reducible refine' s_var ?hv ?_); (case hv => rfl))
  | with_reducible refine s_op ?_
  | with_reducible refine s_un ?_
  | with_reducible refine s_ifS ?_
  | with_reducible refine s_cb ?_
  | with_reducible refine s_cons ?_
  | with_reducible refine s_nil ?_
  | with_reducible refine s_call ?_
  | with_reducible refine s_test ?_
  | with_reducible refine s_tB ?_
  | with_reducible refine s_bl ?_
  | with_reducible refine s_and ?_
  | with_reducible refine s_or ?_
  | with_reducible refine s_not ?_
  | with_reducible refine s_andV ?_
  | with_reducible refine s_orV ?_
  | with_reducible refine s_notV ?_
  | with_reducible refine s_blV ?_
  | with_reducible refine s_if ?_
  | with_reducible refine s_tup ?_
  | with_reducible refine s_lst ?_
  | with_reducible refine s_drop ?_
  | with_reducible refine s_next ?_
  | with_reducible refine s_sub ?_
  | with_reducible refine s_bm ?_
  | with_reducible refine s_callK ?_
  | with_reducible refine s_brk ?_
  | with_reducible refine s_cont ?_
  | with_reducible refine r_I0 ?_
  | with_reducible refine r_U ?_
  | with_reducible refine r_eqI ?_
  | with_reducible refine r_neI ?_
  | with_reducible refine r_isB ?_
  | with_reducible refine r_notB ?_
  | with_reducible refine i_t ?_
  | with_reducible refine i_f ?_
  | with_reducible refine i_nt ?_
  | with_reducible refine i_nf ?_
  | ((with_reducible refine' r_I ?hc ?_); (case hc => walk_at "cond"))
  | (with_reducible refine .inl ⟨_, rfl, ?_⟩)
  | (with_reducible refine ⟨_, rfl, ?_⟩)
  | ((with_reducible refine' r_ixL ?hx ?ha ?_); (case hx => walk_at "at"); (case ha => rfl))
  | ((with_reducible refine' r_ixT ?hx ?ha ?_); (case hx => walk_at "at"); (case ha => rfl))
  | ((with_reducible refine' r_setL ?hx ?ha ?_); (case hx => walk_at "at"); (case ha => rfl); intro H2 k2 h2; (try dsimp only [List.set, Int.toNat] at h2))
  | ((with_reducible refine' r_app ?hx ?hl ?_); (case hx => walk_at "at"); (case hl => first | exact Nat.lt_of_ble_eq_true rfl | omega); intro H2 k2 h2)
  | ((with_reducible refine' ty_list ?hx ?_); (case hx => walk_at "at"))
  | (refine And.intro (by (with_reducible show _ ≤ sizeLine); walk_at "sz") ?_; walk_at "new")
  | with_reducible refine s_exv ?_
  | walk_at "newx")
local macro_rules | `(tactic| walk_at "sx") => `(tactic| repeat (walk_at "s1"))
local macro_rules | `(tactic| walk_at "s2") => `(tactic| first
  | ((with_reducible refine' r_ixG ?hx ?hn ?_); (case hx => walk_at "at"); (case hn => omega))
  | ((with_reducible refine' r_ixGT ?hx ?hn ?_); (case hx => walk_at "at"); (case hn => omega))
  | (with_reducible refine ig_cons (fun hix => ?_) (fun hix => ?_))
  | ((with_reducible refine ig_nil ?_); omega)
  | ((with_reducible refine' i_T ?hc ?_); (case hc => omega))
  | ((with_reducible refine' i_F ?hc ?_); (case hc => omega))
  | (with_reducible refine i_2 (fun hc => ?_) (fun hc => ?_))
  | (with_reducible refine i_n2 (fun hc => ?_) (fun hc => ?_)))
local macro_rules | `(tactic| walk_at "go") => `(tactic| repeat' (first | walk_at "s1" | walk_at "s2"))

local macro_rules | `(tactic| walk_at "s1") => `(tactic| first
  | with_reducible refine s_chain ?_
  | with_reducible refine s_fldS ?_
  | with_reducible refine s_fld ?_
  | with_reducible refine s_dIn ?_
  | with_reducible refine s_dNotIn ?_
  | with_reducible refine s_sl ?_
  | with_reducible refine s_noPart ?_
  | with_reducible refine s_part ?_
  | with_reducible refine s_meth ?_
  | with_reducible refine s_make ?_)

local macro_rules | `(tactic| walk_at "s1") => `(tactic| first
  | with_reducible refine s_m1 ?_
  | with_reducible refine s_strE ?_
  | with_reducible refine s_js ?_
  | with_reducible refine s_js0 ?_
  | with_reducible refine s_fmt ?_)
theorem s_while {σ : L2.St} {H : Hp} {D : Ends} {tc : TT} {tb : TS} {W : Nat → L2.St → Hp → Prop} {m : Nat} (h0 : W m σ H) (h : ∀ m σ H, W m σ H → tc σ H fun b H1 => if b = true then ∃ N : L2.St → Hp → Prop, (∀ σ' H', N σ' H' → ∃ m', m' < m ∧ W m' σ' H') ∧ tb { D with nx := N, ct := N, bk := D.nx } σ H1 else D.nx σ H1) : tWhile tc tb D σ H := ⟨W, ⟨m, h0⟩, h⟩
section
variable {P : Program} {w : World} {K : PySem.W.Frag} {mg : Str → Option Value} {base : Heap} {A : Ad}
/-- what rules_ahead gives back -/
def RlV (D : Addr) (H : Hp) (x : Addr) : Option (Nat × List (List Int)) → V → Prop
  | none, v => v = .non
  | some (n, rs), v => ∃ y ks, v = .ref y ∧ y ≠ x ∧ RuAt D H y n ks ∧ ks.map (·.2) = rs
def spRules (C D : Addr) : Sp := fun vs H Q _ => ∃ (x p : Addr) (ps : List Str) (t : Str), vs = [.ref x] ∧ LnAt C H x p ps 0 t ∧ p ≠ x ∧ ps ≠ [] ∧ ps.length < 1000 ∧ (∀ y ∈ ps, y.length < 1000) ∧ (∀ n rs, (told ps).2 = some (n, rs) → rs.length < 64) ∧
  ∀ v H', Keep x H H' → LnAt C H' x p ps (told ps).1 t → RlV D H' x (told ps).2 v → Q v H'
/-- what is ahead: the row of the line, or none -/
def AhAt (H : Hp) (n : Nat) (s : Str) (v : V) : Prop := (∃ q r, rowOf n s = some r ∧ v = .ref q ∧ H q = some (.tup (r.map V.int)) ∧ Bits n r) ∨ (rowOf n s = none ∧ v = .non)
theorem ok_rules (T : Txt P K mg A) : FnOk P w K mg base CX0 7 A.a_rules_ahead A.d_rules_ahead ["lines"] (spRules A.c_Lines A.c_Rules) := by
  refine T.F_rules_ahead.ok sc_rules_ahead (fun vs H Q E h => ?_) (fun cdv A' outer s H vs Q E hr h => ?_)
  · obtain ⟨x, p, ps, t, rfl, _⟩ := h
    rfl
  · obtain ⟨x, p, ps, t, rfl, hln, px, ne0, few, sm, cap, k⟩ := h
    have G_size_told := ok_size (w := w) (base := base) T
    have G_row_told := fn_or (ok_rowT (w := w) (base := base) T) (ok_rowN (w := w) (base := base) T)
    have G_Rules____init__ := ok_make (w := w) (base := base) T
    have G_Lines__ahead := ok_ahead (w := w) (base := base) T
    have G_Lines__take := ok_tk (w := w) (base := base) T
    obtain ⟨s0, l, rfl⟩ : ∃ s0 l, ps = s0 :: l := by
      cases ps with
      | nil => exact absurd rfl ne0
      | cons a l => exact ⟨a, l, rfl⟩
    refine ⟨_, (pss_cons (ps_set (i := 1) sc_rules_ahead.nd rfl (Or.inl rfl) (pe_call G_size_told (hr.mono (by decide)) rfl T.g_size_told T.F_size_told.kp (B_size_told T) .nil pass0 (pa_cons (pe_meth0 (pv 0) T.cl_Lines T.me_Lines_ahead G_Lines__ahead (hr.mono (by decide)) (B_Lines__ahead T) .nil pass0) pa_nil)))
  (pss_cons (ps_if (pt_cmpR op_isN (pv 1) pe_non (nomark _)) (pss_one (ps_ret pe_non)) pss_nil)
  (pss_cons (ps_expr (pe_meth0 (pv 0) T.cl_Lines T.me_Lines_take G_Lines__take (hr.mono (by decide)) (B_Lines__take T) .nil pass0))
  (pss_cons (ps_set (i := 2) sc_rules_ahead.nd rfl (Or.inl rfl) (pe_lst pa_nil))
  (pss_cons (ps_set (i := 3) sc_rules_ahead.nd rfl (Or.inl rfl) (pe_call G_row_told (hr.mono (by decide)) rfl T.g_row_told T.F_row_told.kp (B_row_told T) .nil pass0 (pa_cons (pe_meth0 (pv 0) T.cl_Lines T.me_Lines_ahead G_Lines__ahead (hr.mono (by decide)) (B_Lines__ahead T) .nil pass0) (pa_cons (pv 1) pa_nil))))
  (pss_cons (ps_while PassesOwn.never (PW.pt (pw_and (pt_cmpR op_notN (pv 3) pe_non (nomark _)) (pw_and1 (PW.pt (pw_or (pt_cmpR op_eq (pe_callB call_len (by rfl) T.n_len (by decide +kernel) (pa_cons (pv 2) pa_nil)) pe_int (nomark _)) (pw_or1 (pt_cmpR (op_ltT (uL hr)) (pe_ix ix_seq (pv 2) (pe_un un_neg pe_int) (fun _ _ => rfl)) (pv 3) (nomark _))))))))
  (pss_cons (ps_expr (pe_bm PySem.F.plainAttrs_list PySem.F.slot_list_append PySem.F.type_list_append mt_append (pv 2) (pa_cons (pv 3) pa_nil)))
  (pss_cons (ps_expr (pe_meth0 (pv 0) T.cl_Lines T.me_Lines_take G_Lines__take (hr.mono (by decide)) (B_Lines__take T) .nil pass0))
  (pss_one (ps_set (i := 3) sc_rules_ahead.nd rfl (Or.inl rfl) (pe_call G_row_told (hr.mono (by decide)) rfl T.g_row_told T.F_row_told.kp (B_row_told T) .nil pass0 (pa_cons (pe_meth0 (pv 0) T.cl_Lines T.me_Lines_ahead G_Lines__ahead (hr.mono (by decide)) (B_Lines__ahead T) .nil pass0) (pa_cons (pv 1) pa_nil))))))))
  (pss_one (ps_ret (pe_ifExp (pt_cmpR op_gt (pe_callB call_len (by rfl) T.n_len (by decide +kernel) (pa_cons (pv 2) pa_nil)) pe_int (nomark _)) (pe_make T.mk_Rules G_Rules____init__ (hr.mono (by decide)) rfl T.g_Rules (B_Rules____init__ T) .nil pass0 (pa_cons (pv 1) (pa_cons (pv 2) pa_nil))) pe_non))))))))), ?_⟩
    walk_at "sx"
    obtain ⟨dx, hx, _⟩ := id hln
    refine ⟨x, dx, _, rfl, hx, rfl, ?_⟩
    walk_at "sx"
    refine ⟨x, p, _, 0, t, rfl, hln, few, Nat.zero_le _, ?_⟩
    walk_at "sx"
    refine ⟨s0, rfl, ?_⟩
    cases hsz : szOf s0 with
    | none =>
      have ht : told (s0 :: l) = (0, none) := by
        unfold told
        show (match szOf s0 with | none => (0, none) | some n => _) = _
        rw [hsz]
      refine .inr ⟨szOf_none hsz, ?_⟩
      walk_at "sx"
      refine ⟨rfl, ?_⟩
      walk_at "sx"
      refine i_T rfl ?_
      walk_at "sx"
      exact k _ H (Keep.same (L2.Same.refl _)) (by rw [ht]; exact hln) (by rw [ht]; rfl)
    | some n =>
    obtain ⟨sn, e0⟩ := szOf_some hsz
    obtain ⟨rs, ers⟩ : ∃ rs, rs = tk n none l := ⟨_, rfl⟩
    have ht : told (s0 :: l) = (rs.length + 1, if rs = [] then none else some (n, rs)) := by
      unfold told
      show (match szOf s0 with | none => (0, none) | some n => ((tk n none l).length + 1, if tk n none l = [] then none else some (n, tk n none l))) = _
      rw [hsz, ers]
    have bt : ∀ r ∈ rs, Bits n r := by
      rw [ers]
      exact tk_bits n l none
    have asc : rs.Pairwise fun a b => TS.code 2 a < TS.code 2 b := by
      rw [ers]
      exact (tk_asc n l none).2
    have lrs : rs.length ≤ l.length := by
      rw [ers]
      exact tk_len n l none
    have few1 : l.length + 1 < 1000 := few
    have nxt : ∀ i, i ≤ rs.length → rs[i]? = match rowOf n ((s0 :: l).getD (i + 1) (Str.ofString "")) with
        | none => none
        | some r => if okp ((none :: rs.map some).getD i none) r = true then some r else none := by
      rw [ers]
      exact fun i h => tk_next n l none i h
    refine .inl ⟨n, e0, sn, ?_⟩
    walk_at "sx"
    refine ⟨rfl, ?_⟩
    walk_at "sx"
    refine i_F (fun e => nomatch e) ?_
    walk_at "sx"
    refine ⟨x, dx, _, rfl, hx, rfl, ?_⟩
    walk_at "sx"
    refine ⟨x, p, _, 0, t, rfl, hln, px, few, Nat.succ_pos _, sm, fun H1 K1 hl1 => ?_⟩
    walk_at "sx"
    rename_i pr npr H2 s2 h2
    have npr0 : H pr = none := K1.free (fun e => by
      obtain ⟨dx', hx', _⟩ := hl1
      rw [e, hx'] at npr
      cases npr) npr
    have prx : pr ≠ x := fun e => by
      rw [e, hx] at npr0
      cases npr0
    have hl2 := hl1.same s2
    obtain ⟨dx2, hx2, _⟩ := id hl2
    /- one reading ahead -/
    have rd : ∀ (i : Nat) (H' : Hp) (Q' : VK) (E' : XK), (∀ v H'', Same H' H'' → AhAt H'' n ((s0 :: l).getD (i + 1) (Str.ofString "")) v → Q' v H'') →
        spOr spRowT spRowN [.str ((s0 :: l).getD (i + 1) (Str.ofString "")), .int n] H' Q' E' := by
      intro i H' Q' E' q
      have lz : ((s0 :: l).getD (i + 1) (Str.ofString "")).length < 1000 := by
        rw [List.getD_eq_getElem?_getD]
        cases e : (s0 :: l)[i + 1]? with
        | none => exact (by decide +kernel : (Str.ofString "").length < 1000)
        | some y => exact sm y (List.mem_of_getElem? e)
      generalize (s0 :: l).getD (i + 1) (Str.ofString "") = z at *
      cases e : rowOf n z with
      | some r => exact .inl ⟨n, r, by rw [← (rowOf_some e).2], (rowOf_some e).1, sn, fun q' H'' s'' hq => q _ H'' s'' (.inl ⟨q', r, e, rfl, hq, (rowOf_some e).1⟩)⟩
      | none => exact .inr ⟨n, z, rfl, sn, lz, rowOf_none e, fun H'' s'' => q _ H'' s'' (.inr ⟨e, rfl⟩)⟩
    refine ⟨x, dx2, _, rfl, hx2, rfl, ?_⟩
    walk_at "sx"
    refine ⟨x, p, _, 1, t, rfl, hl2, few, by rw [List.length_cons]; omega, ?_⟩
    walk_at "sx"
    refine rd 0 H2 _ _ (fun v H3 s3 ha => ?_)
    walk_at "sx"
    obtain ⟨W, eW⟩ : ∃ W : Nat → L2.St → Hp → Prop, W = fun m σ H' => ∃ (i : Nat) (ls : List (Addr × List Int)) (v : V), m = rs.length - i ∧ i ≤ rs.length ∧ Keep x H H' ∧ LnAt A.c_Lines H' x p (s0 :: l) (i + 1) t ∧ (True → H' pr = some (.lst (ls.map rf))) ∧ RowsAt H' n ls ∧ ls.map (·.2) = rs.take i ∧ AhAt H' n ((s0 :: l).getD (i + 1) (Str.ofString "")) v ∧ σ = [some (.ref x), some (.int n), some (.ref pr), some v] := ⟨_, rfl⟩
    refine s_while (W := W) (m := rs.length) ?_ ?_
    · rw [eW]
      exact ⟨0, [], v, rfl, Nat.zero_le _, K1.trans ((Keep.same s2).trans (Keep.same s3)), hl2.same s3, fun _ => s3 _ _ h2, rows_nil, rfl, ha, rfl⟩
    · intro m σ H' hw
      rw [eW] at hw
      obtain ⟨i, ls, v, rfl, hi, K', hl', hpr, rl, el, ha, rfl⟩ := hw
      obtain ⟨dx', hx', _⟩ := id hl'
      have lls : ls.length = i := by
        have e := congrArg List.length el
        simp only [List.length_map, List.length_take] at e
        omega
      have nx := nxt i hi
      rcases ha with ⟨q, r, hro, rfl, hq, br⟩ | ⟨hro, rfl⟩
      · rw [hro] at nx
        dsimp only at nx
        walk_at "sx"
        refine ⟨rfl, ?_⟩
        refine ⟨_, rfl, i_n2 (fun _ => ?_) (fun e => nomatch e)⟩
        walk_at "sx"
        refine ⟨_, _, rfl, .inl ⟨_, SqL.of (hpr trivial), rfl⟩, ?_⟩
        walk_at "sx"
        refine i_2 (fun c => ?_) (fun c => ?_)
        · have i0 : i = 0 := by
            rw [List.length_map] at c
            omega
          have hr : rs[i]? = some r := by
            rw [nx, i0]
            rfl
          have il : i + 1 ≤ rs.length := by
            have := (List.getElem?_eq_some_iff.mp hr).1
            omega
          walk_at "sx"
          refine ⟨W (rs.length - (i + 1)), fun σ' H'' h => ⟨_, by omega, h⟩, ?_⟩
          walk_at "sx"
          refine ty_list (hpr trivial) ?_
          walk_at "sx"
          refine r_app (hpr trivial) (by rw [List.length_map, sizeLine_eq]; omega) fun H5 k5 h5 => ?_
          have xpr : x ≠ pr := fun e => prx e.symm
          have ppr : p ≠ pr := fun e => by
            obtain ⟨_, _, hp⟩ := id hln
            rw [e, npr0] at hp
            cases hp
          have hl5 : LnAt A.c_Lines H5 x p (s0 :: l) (i + 1) t := by
            obtain ⟨d, e1, e2⟩ := id hl'
            exact ⟨d, k5 _ _ xpr e1, k5 _ _ ppr e2⟩
          obtain ⟨dx5, hx5, _⟩ := id hl5
          walk_at "sx"
          refine ⟨x, dx5, _, rfl, hx5, rfl, ?_⟩
          walk_at "sx"
          refine ⟨x, p, _, i + 1, t, rfl, hl5, px, few, by rw [List.length_cons]; omega, sm, fun H6 K6 hl6 => ?_⟩
          obtain ⟨dx6, hx6, _⟩ := id hl6
          walk_at "sx"
          refine ⟨x, dx6, _, rfl, hx6, rfl, ?_⟩
          walk_at "sx"
          refine ⟨x, p, _, i + 1 + 1, t, rfl, hl6, few, by rw [List.length_cons]; omega, ?_⟩
          walk_at "sx"
          refine rd (i + 1) H6 _ _ (fun v' H7 s7 ha' => ?_)
          walk_at "sx"
          have g6 : ∀ a o, a ≠ x → a ≠ pr → H' a = some o → H7 a = some o := fun a o n1 n2 h => s7 _ _ (K6 _ _ n1 (k5 _ _ n2 h))
          have rx : ∀ {ms : List Int} {a : Addr}, H' a = some (.tup (ms.map V.int)) → H7 a = some (.tup (ms.map V.int)) := fun {ms a} h => g6 a _ (ne_of h hx' fun z => nomatch z) (ne_of h (hpr trivial) fun z => nomatch z) h
          rw [eW]
          refine ⟨i + 1, ls ++ [(q, r)], v', rfl, il, fun a o n1 h => g6 a o n1 (ne_of_none h npr0) (K' _ _ n1 h), hl6.same s7, fun _ => ?_, fun z hz => ?_, ?_, ha', rfl⟩
          rotate_left
          · rcases List.mem_append.mp hz with m | m
            · exact ⟨rx (rl z m).1, (rl z m).2⟩
            · rw [List.mem_singleton.mp m]
              exact ⟨rx hq, br⟩
          · rw [List.map_append, el, List.take_succ, hr]
            rfl
          · rw [s7 _ _ (K6 _ _ prx h5), List.map_append]
            rfl
        · have ne : ls ≠ [] := fun z => c (by rw [z]; rfl)
          obtain ⟨l0, q0, els⟩ : ∃ l0 q, ls = l0 ++ [q] := ⟨ls.dropLast, ls.getLast ne, (List.dropLast_concat_getLast ne).symm⟩
          have li : i = l0.length + 1 := by
            rw [← lls, els]
            simp
          walk_at "sx"
          refine r_ixL (hpr trivial) (v := .ref q0.1) (by rw [els, List.map_append]; exact atI_last _ _) ?_
          walk_at "sx"
          have hq0 := rl q0 (by rw [els]; simp)
          refine ⟨q0.1, q, q0.2, r, rfl, rfl, SqT.of hq0.1, SqT.of hq, ?_⟩
          have eq1 : rs[l0.length]? = some q0.2 := by
            have e := congrArg (fun l => l[l0.length]?) el
            rw [els] at e
            simp at e
            rw [List.getElem?_take_of_lt (by omega)] at e
            exact e.symm
          have eo : okp ((none :: rs.map some).getD i none) r = decide (TS.code 2 q0.2 < TS.code 2 r) := by
            have e : ((none :: rs.map some).getD i none : Option (List Int)) = some q0.2 := by
              rw [li, List.getD_eq_getElem?_getD, List.getElem?_cons_succ, List.getElem?_map, eq1]
              rfl
            rw [e]
            rfl
          rw [eo] at nx
          by_cases lt : TS.code 2 q0.2 < TS.code 2 r
          · have hr : rs[i]? = some r := by rw [nx, decide_eq_true lt]; rfl
            have il : i + 1 ≤ rs.length := by
              have := (List.getElem?_eq_some_iff.mp hr).1
              omega
            rw [lt_code hq0.2 br, decide_eq_true lt]
            walk_at "sx"
            refine ⟨W (rs.length - (i + 1)), fun σ' H'' h => ⟨_, by omega, h⟩, ?_⟩
            walk_at "sx"
            refine ty_list (hpr trivial) ?_
            walk_at "sx"
            refine r_app (hpr trivial) (by rw [List.length_map, sizeLine_eq]; omega) fun H5 k5 h5 => ?_
            have xpr : x ≠ pr := fun e => prx e.symm
            have ppr : p ≠ pr := fun e => by
              obtain ⟨_, _, hp⟩ := id hln
              rw [e, npr0] at hp
              cases hp
            have hl5 : LnAt A.c_Lines H5 x p (s0 :: l) (i + 1) t := by
              obtain ⟨d, e1, e2⟩ := id hl'
              exact ⟨d, k5 _ _ xpr e1, k5 _ _ ppr e2⟩
            obtain ⟨dx5, hx5, _⟩ := id hl5
            walk_at "sx"
            refine ⟨x, dx5, _, rfl, hx5, rfl, ?_⟩
            walk_at "sx"
            refine ⟨x, p, _, i + 1, t, rfl, hl5, px, few, by rw [List.length_cons]; omega, sm, fun H6 K6 hl6 => ?_⟩
            obtain ⟨dx6, hx6, _⟩ := id hl6
            walk_at "sx"
            refine ⟨x, dx6, _, rfl, hx6, rfl, ?_⟩
            walk_at "sx"
            refine ⟨x, p, _, i + 1 + 1, t, rfl, hl6, few, by rw [List.length_cons]; omega, ?_⟩
            walk_at "sx"
            refine rd (i + 1) H6 _ _ (fun v' H7 s7 ha' => ?_)
            walk_at "sx"
            have g6 : ∀ a o, a ≠ x → a ≠ pr → H' a = some o → H7 a = some o := fun a o n1 n2 h => s7 _ _ (K6 _ _ n1 (k5 _ _ n2 h))
            have rx : ∀ {ms : List Int} {a : Addr}, H' a = some (.tup (ms.map V.int)) → H7 a = some (.tup (ms.map V.int)) := fun {ms a} h => g6 a _ (ne_of h hx' fun z => nomatch z) (ne_of h (hpr trivial) fun z => nomatch z) h
            rw [eW]
            refine ⟨i + 1, ls ++ [(q, r)], v', rfl, il, fun a o n1 h => g6 a o n1 (ne_of_none h npr0) (K' _ _ n1 h), hl6.same s7, fun _ => ?_, fun z hz => ?_, ?_, ha', rfl⟩
            rotate_left
            · rcases List.mem_append.mp hz with m | m
              · exact ⟨rx (rl z m).1, (rl z m).2⟩
              · rw [List.mem_singleton.mp m]
                exact ⟨rx hq, br⟩
            · rw [List.map_append, el, List.take_succ, hr]
              rfl
            · rw [s7 _ _ (K6 _ _ prx h5), List.map_append]
              rfl
          · have iL : i = rs.length := by
              rw [decide_eq_false lt] at nx
              have := List.getElem?_eq_none_iff.mp nx
              omega
            rw [lt_code hq0.2 br, decide_eq_false lt]
            walk_at "sx"
            refine ⟨_, _, rfl, .inl ⟨_, SqL.of (hpr trivial), rfl⟩, ?_⟩
            walk_at "sx"
            refine i_2 (fun c => ?_) (fun c => ?_)
            · have ne : ls ≠ [] := fun z => by
                rw [z] at c
                exact absurd c (by decide)
              have nr : rs ≠ [] := fun z => ne (List.eq_nil_of_length_eq_zero (by rw [lls, iL, z]; rfl))
              have ht2 : told (s0 :: l) = (rs.length + 1, some (n, rs)) := by rw [ht, if_neg nr]
              have few2 : rs.length < 64 := cap n rs (by rw [ht2])
              have e5 : ls.map (·.2) = rs := by rw [el, iL, List.take_length]
              repeat (first | exact c_make (hpr trivial) ne (by omega) (by omega) rl (fun y H6 ks s6 o ra => k _ H6 (K'.trans (Keep.same s6)) (by rw [ht2]; exact (iL ▸ hl').same s6) (by
                  rw [ht2]
                  exact ⟨y, ks, rfl, fun e => by
                    obtain ⟨dy, _, _, hy, _⟩ := ra
                    rw [e, s6 _ _ hx'] at hy
                    simp at hy, ra, of_asc bt asc e5 o⟩)) | walk_at "s1")
            · have ez : ls = [] := List.eq_nil_of_length_eq_zero (by
                rw [List.length_map] at c
                omega)
              have nr : rs = [] := List.eq_nil_of_length_eq_zero (by rw [← iL, ← lls, ez]; rfl)
              have ht2 : told (s0 :: l) = (rs.length + 1, none) := by rw [ht, if_pos nr]
              walk_at "sx"
              exact k _ H' K' (by rw [ht2]; exact iL ▸ hl') (by rw [ht2]; rfl)
      · rw [hro] at nx
        have iL : i = rs.length := by
          have := List.getElem?_eq_none_iff.mp nx
          omega
        walk_at "sx"
        refine ⟨rfl, ?_⟩
        refine ⟨_, rfl, i_n2 (fun e => absurd rfl e) (fun _ => ?_)⟩
        walk_at "sx"
        refine ⟨_, _, rfl, .inl ⟨_, SqL.of (hpr trivial), rfl⟩, ?_⟩
        walk_at "sx"
        refine i_2 (fun c => ?_) (fun c => ?_)
        · have ne : ls ≠ [] := fun z => by
            rw [z] at c
            exact absurd c (by decide)
          have nr : rs ≠ [] := fun z => ne (List.eq_nil_of_length_eq_zero (by rw [lls, iL, z]; rfl))
          have ht2 : told (s0 :: l) = (rs.length + 1, some (n, rs)) := by rw [ht, if_neg nr]
          have few2 : rs.length < 64 := cap n rs (by rw [ht2])
          have e5 : ls.map (·.2) = rs := by rw [el, iL, List.take_length]
          repeat (first | exact c_make (hpr trivial) ne (by omega) (by omega) rl (fun y H6 ks s6 o ra => k _ H6 (K'.trans (Keep.same s6)) (by rw [ht2]; exact (iL ▸ hl').same s6) (by
              rw [ht2]
              exact ⟨y, ks, rfl, fun e => by
                obtain ⟨dy, _, _, hy, _⟩ := ra
                rw [e, s6 _ _ hx'] at hy
                simp at hy, ra, of_asc bt asc e5 o⟩)) | walk_at "s1")
        · have ez : ls = [] := List.eq_nil_of_length_eq_zero (by
            rw [List.length_map] at c
            omega)
          have nr : rs = [] := List.eq_nil_of_length_eq_zero (by rw [← iL, ← lls, ez]; rfl)
          have ht2 : told (s0 :: l) = (rs.length + 1, none) := by rw [ht, if_pos nr]
          walk_at "sx"
          exact k _ H' K' (by rw [ht2]; exact iL ▸ hl') (by rw [ht2]; rfl)
end
end K09

set_option Elab.async false
set_option linter.all false
set_option maxRecDepth 100000
set_option maxHeartbeats 4000000
namespace K09
open PySem L2 Sx TL
local macro_rules | `(tactic| walk_at "cond") => `(tactic| first
  | assumption
  | decide
  | exact c_mul_r (by first | decide | omega) (by first | decide | omega)
  | exact c_mul_l (by first | decide | omega) (by first | decide | omega)
  | exact c_div (by first | decide | omega) (by first | decide | omega)
  | exact c_pow (by first | decide | omega) (by first | decide | omega) (by first | decide | omega)
  | omega)
local macro_rules | `(tactic| walk_at "ne") => `(tactic| first
  | assumption
  | (refine Ne.symm ?_; assumption)
  | (refine' Flow.ne ?nh ?nn; (case nn => assumption); (case nh => walk_at "fl"))
  | (refine Ne.symm ?_; refine' Flow.ne ?nh ?nn; (case nn => assumption); (case nh => walk_at "fl"))
  | (refine' ne_of_none ?nh ?nn; (case nn => assumption); (case nh => walk_at "at"))
  | (refine Ne.symm ?_; refine' ne_of_none ?nh ?nn; (case nn => assumption); (case nh => walk_at "at")))
local macro_rules | `(tactic| walk_at "at") => `(tactic| first
  | assumption
  | (refine Same.up (by assumption) ?_; walk_at "at")
  | (refine Keep.up (by assumption) (by walk_at "ne") ?_; walk_at "at"))
local macro_rules | `(tactic| walk_at "fl") => `(tactic| first
  | assumption
  | (refine Flow.same (by assumption) ?_; walk_at "fl")
  | (refine Flow.keep (by assumption) (by walk_at "ne") ?_; walk_at "fl"))
local macro_rules | `(tactic| walk_at "fr") => `(tactic| first
  | assumption
  | (refine same_free (by assumption) ?_; walk_at "fr")
  | (refine Keep.free (by assumption) (by walk_at "ne") ?_; walk_at "fr"))
local macro_rules | `(tactic| walk_at "kp") => `(tactic| first
  | assumption
  | exact Keep.refl _ _
  | (refine Keep.trans ?_ (by assumption); walk_at "kp")
  | (refine Keep.trans ?_ (Keep.same (by assumption)); walk_at "kp"))
local macro_rules | `(tactic| walk_at "sm") => `(tactic| first
  | assumption
  | exact L2.Same.refl _
  | (refine L2.Same.trans ?_ (by assumption); walk_at "sm"))
local macro_rules | `(tactic| walk_at "sz") => `(tactic| first | exact Nat.le_of_ble_eq_true rfl | omega)
local macro_rules | `(tactic| walk_at "new") => `(tactic| (intro p np; generalize hE : upd _ p _ = H2; have s2 := new_same np hE; have h2 := new_at hE; clear hE))
local macro_rules | `(tactic| walk_at "newx") => `(tactic| (intro e d na nd hda; generalize hE : upd (upd _ d _) e _ = H2; have s2 := newx_same na nd hE; have h2 := newx_at hE; have h3 := newx_d hda hE; clear hE))
local macro_rules | `(tactic| walk_at "s1") => `(tactic| first
  | with_reducible refine s_seq ?_
  | with_reducible refine s_asg ?_
  | with_reducible refine s_name ?_
  | with_reducible refine s_ret ?_
  | with_reducible refine s_c ?_
  | ((with_reducible refine' s_var ?hv ?_); (case hv => rfl))
  | with_reducible refine s_op ?_
  | with_reducible refine s_un ?_
  | with_reducible refine s_ifS ?_
  | with_reducible refine s_cb ?_
  | with_reducible refine s_cons ?_
  | with_reducible refine s_nil ?_
  | with_reducible refine s_call ?_
  | with_reducible refine s_test ?_
  | with_reducible refine s_tB ?_
  | with_reducible refine s_bl ?_
  | with_reducible refine s_and ?_
  | with_reducible refine s_or ?_
  | with_reducible refine s_not ?_
  | with_reducible refine s_andV ?_
  | with_reducible refine s_orV ?_
  | with_reducible refine s_notV ?_
  | with_reducible refine s_blV ?_
  | with_reducible refine s_if ?_
  | with_reducible refine s_tup ?_
  | with_reducible refine s_lst ?_
  | with_reducible refine s_drop ?_
  | with_reducible refine s_next ?_
  | with_reducible refine s_sub ?_
  | with_reducible refine s_bm ?_
  | with_reducible refine s_callK ?_
  | with_reducible refine s_brk ?_
  | with_reducible refine s_cont ?_
  | with_reducible refine r_I0 ?_
  | with_reducible refine r_U ?_
  | with_reducible refine r_eqI ?_
  | with_reducible refine r_neI ?_
  | with_reducible refine r_isB ?_
  | with_reducible refine r_notB ?_
  | with_reducible refine i_t ?_
  | with_reducible refine i_f ?_
  | with_reducible refine i_nt ?_
  | with_reducible refine i_nf ?_
  | ((with_reducible refine' r_I ?hc ?_); (case hc => walk_at "cond"))
  | (with_reducible refine .inl ⟨_, rfl, ?_⟩)
  | (with_reducible refine ⟨_, rfl, ?_⟩)
  | ((with_reducible refine' r_ixL ?hx ?ha ?_); (case hx => walk_at "at"); (case ha => rfl))
  | ((with_reducible refine' r_ixT ?hx ?ha ?_); (case hx => walk_at "at"); (case ha => rfl))
  | ((with_reducible refine' r_setL ?hx ?ha ?_); (case hx => walk_at "at"); (case ha => rfl); intro H2 k2 h2; (try dsimp only [List.set, Int.toNat] at h2))
  | ((with_reducible refine' r_app ?hx ?hl ?_); (case hx => walk_at "at"); (case hl => first | exact Nat.lt_of_ble_eq_true rfl | omega); intro H2 k2 h2)
  | ((with_reducible refine' ty_list ?hx ?_); (case hx => walk_at "at"))
  | (refine And.intro (by (with_reducible show _ ≤ sizeLine); walk_at "sz") ?_; walk_at "new")
  | with_reducible refine s_exv ?_
  | walk_at "newx")
local macro_rules | `(tactic| walk_at "sx") => `(tactic| repeat (walk_at "s1"))
local macro_rules | `(tactic| walk_at "s2") => `(tactic| first
  | ((with_reducible refine' r_ixG ?hx ?hn ?_); (case hx => walk_at "at"); (case hn => omega))
  | ((with_reducible refine' r_ixGT ?hx ?hn ?_); (case hx => walk_at "at"); (case hn => omega))
  | (with_reducible refine ig_cons (fun hix => ?_) (fun hix => ?_))
  | ((with_reducible refine ig_nil ?_); omega)
  | ((with_reducible refine' i_T ?hc ?_); (case hc => omega))
  | ((with_reducible refine' i_F ?hc ?_); (case hc => omega))
  | (with_reducible refine i_2 (fun hc => ?_) (fun hc => ?_))
  | (with_reducible refine i_n2 (fun hc => ?_) (fun hc => ?_)))
local macro_rules | `(tactic| walk_at "go") => `(tactic| repeat' (first | walk_at "s1" | walk_at "s2"))

local macro_rules | `(tactic| walk_at "s1") => `(tactic| first
  | with_reducible refine s_chain ?_
  | with_reducible refine s_fldS ?_
  | with_reducible refine s_fld ?_
  | with_reducible refine s_dIn ?_
  | with_reducible refine s_dNotIn ?_
  | with_reducible refine s_sl ?_
  | with_reducible refine s_noPart ?_
  | with_reducible refine s_part ?_
  | with_reducible refine s_meth ?_
  | with_reducible refine s_make ?_)

local macro_rules | `(tactic| walk_at "s1") => `(tactic| first
  | with_reducible refine s_m1 ?_
  | with_reducible refine s_strE ?_
  | with_reducible refine s_js ?_
  | with_reducible refine s_js0 ?_
  | with_reducible refine s_fmt ?_)
theorem s_mkx2 {C : Addr} {f g : Str} {ta : TA} {σ : L2.St} {H : Hp} {Q : XK} (h : ta σ H fun vs H1 => ∃ v u, vs = [v, u] ∧ ∀ d, H1 d = none → Q (.ref C) (some d) (upd H1 d (.xd [(f, v), (g, u)]))) : tMkX2 C f g ta σ H Q := h
theorem told_le {ps : List Str} (ne : ps ≠ []) : (told ps).1 ≤ ps.length := by
  unfold told
  split
  · exact Nat.zero_le _
  · have := tk_len ‹Nat› ps.tail none
    have e : ps.length = ps.tail.length + 1 := by
      cases ps with
      | nil => exact absurd rfl ne
      | cons a l => rfl
    rw [e]
    exact Nat.succ_le_succ this
theorem told_some {ps : List Str} {n : Nat} {rs : List (List Int)} (h : (told ps).2 = some (n, rs)) : (told ps).1 = rs.length + 1 ∧ rs = tk n none ps.tail ∧ rs ≠ [] ∧ szOf (ps.getD 0 (Str.ofString "")) = some n := by
  unfold told at h ⊢
  split at h
  · cases h
  · rename_i m hm
    dsimp only at h
    split at h
    · cases h
    · rename_i z
      cases h
      rw [hm]
      exact ⟨rfl, rfl, z, rfl⟩
theorem line_ge {n : Nat} {r : List Int} (h : Bits n r) : 6 ≤ (line r).length := by
  rw [line_word, app_len, show (Str.ofString "rule ").length = 5 by decide +kernel]
  unfold word
  split
  · decide +kernel
  · rename_i ne
    have : (digs r).length = r.length := by
      show (List.toArray _).size = _
      simp
    have := List.length_pos_iff.mpr ne
    omega
theorem cap_of {t : Str} (h : t.length < 400) {n : Nat} {rs : List (List Int)} (e : (told (Txt.split t nl)).2 = some (n, rs)) : rs.length < 64 := by
  obtain ⟨e1, e2, -, -⟩ := told_some e
  have le := told_le (split_ne t)
  rw [e1] at le
  have all : ∀ i, i ≤ rs.length → 7 * i ≤ offs (Txt.split t nl) (i + 1) := by
    intro i
    induction i with
    | zero => exact fun _ => Nat.zero_le _
    | succ i ih =>
      intro hi
      have a := ih (by omega)
      have l1 : i + 1 < (Txt.split t nl).length := by omega
      rw [offs_succ l1]
      obtain ⟨r, hr⟩ : ∃ r, rs[i]? = some r := ⟨_, List.getElem?_eq_getElem (by omega)⟩
      rw [e2] at hr
      have tl := tk_line n _ _ _ _ hr
      rw [List.getElem?_tail, List.getElem?_eq_getElem l1] at tl
      have tl' : (Txt.split t nl)[i + 1] = line r := Option.some.inj tl
      have b : Bits n r := tk_bits n _ none r (List.mem_of_getElem? hr)
      rw [tl']
      have := line_ge b
      omega
  have a := all rs.length (Nat.le_refl _)
  have b := offs_mono (Txt.split t nl) le
  rw [split_size] at b
  omega
/-- what a text tells, if all of it is right -/
noncomputable def fine (t : Str) : Option (Nat × List (List Int)) := if (told (Txt.split t nl)).1 = (Txt.split t nl).length then (told (Txt.split t nl)).2 else none
/-- where a text is wrong -/
noncomputable def wrongAt (t : Str) : Nat := min (offs (Txt.split t nl) (told (Txt.split t nl)).1) t.length
section
variable {P : Program} {w : World} {K : PySem.W.Frag} {mg : Str → Option Value} {base : Heap} {A : Ad}
theorem c_ln (T : Txt P K mg A) {t : Str} {H : Hp} {R : Addr → Hp → Prop} {E : XK} (lt : t.length < 900)
    (q : ∀ x H' p, H x = none → Same H H' → LnAt A.c_Lines H' x p (Txt.split t nl) 0 t → R x H') : ∀ x dx, H x = none → H dx = none → dx ≠ x → spLn A.c_Lines (.ref x :: ([.str t] ++ [])) (upd (upd H dx (.own x)) x (.ins A.c_Lines dx [])) (fun v H2 => v = .non ∧ R x H2) E := by
  intro x dx nx nd hd
  have s := newx_same (H := H) (a := x) (d := dx) (o := .ins A.c_Lines dx []) (u := .own x) nx nd rfl
  exact ⟨x, dx, t, rfl, upd_same, lt, fun H' p k h => ⟨rfl, q x H' p nx (Keep.toSame s nx k) h⟩⟩
def spRead (C X : Addr) : Sp := fun vs H Q E => ∃ t : Str, vs = [.str t] ∧ t.length < 400 ∧ (∀ n rs y H' ks, fine t = some (n, rs) → Same H H' → RuAt C H' y n ks → ks.map (·.2) = rs → Q (.ref y) H') ∧
  (fine t = none → ∀ H' e, Same H H' → H' e = none → E (.ref X) (some e) (upd H' e (.xd [("text", .str t), ("at", .int (wrongAt t : Nat))])))
theorem ok_read (T : Txt P K mg A) : FnOk P w K mg base (L2N.CX P w) 8 A.a_read_rules A.d_read_rules ["text"] (spRead A.c_Rules A.c_InvalidText) := by
  refine T.F_read_rules.okN sc_read_rules (fun vs H Q E h => ?_) (fun cdv A' outer s H vs Q E hr h => ?_)
  · obtain ⟨n, rfl, _⟩ := h
    rfl
  · obtain ⟨t, rfl, lt, k, kx⟩ := h
    have G_rules_ahead := ok_rules (w := w) (base := base) T
    have G_Lines____init__ := ok_ln (w := w) (base := base) T
    have G_Lines__ended := ok_ended (w := w) (base := base) T
    have G_Lines__place := ok_place (w := w) (base := base) T
    have few := split_few t
    refine ⟨_, (pss_cons (ps_set (i := 1) sc_read_rules.nd rfl (Or.inl rfl) (pe_make T.mk_Lines G_Lines____init__ (hr.mono (by decide)) rfl T.g_Lines (B_Lines____init__ T) .nil pass0 (pa_cons (pv 0) pa_nil)))
  (pss_cons (ps_set (i := 2) sc_read_rules.nd rfl (Or.inl rfl) (pe_call G_rules_ahead (hr.mono (by decide)) rfl T.g_rules_ahead T.F_rules_ahead.kp (B_rules_ahead T) .nil pass0 (pa_cons (pv 1) pa_nil)))
  (pss_cons (ps_if (PW.pt (pw_or (pt_cmpR op_isN (pv 2) pe_non (nomark _)) (pw_or1 (pt_not (pt_val (pe_meth0 (pv 1) T.cl_Lines T.me_Lines_ended G_Lines__ended (hr.mono (by decide)) (B_Lines__ended T) .nil pass0)))))) (pss_one (Supy_text_at.ps_raiseSupN rfl T.X_InvalidText hr (L2N.takes_of rfl rfl rfl rfl) (pa_cons (pv 0) (pa_cons (pe_meth0 (pv 1) T.cl_Lines T.me_Lines_place G_Lines__place (hr.mono (by decide)) (B_Lines__place T) .nil pass0) pa_nil)))) pss_nil)
  (pss_one (ps_ret (pv 2)))))), ?_⟩
    refine s_seq (s_asg (s_make (s_cons (s_var rfl ?_))))
    refine s_nil (c_ln T (by omega) fun x H1 p nx s1 hl1 => ?_)
    have px : p ≠ x := fun e => by
      obtain ⟨d, h1, h2⟩ := hl1
      rw [e, h1] at h2
      cases h2
    walk_at "sx"
    refine ⟨x, p, _, t, rfl, hl1, px, split_ne t, by omega, fun y hy => by have := mem_len hy; omega, fun n rs e => cap_of lt e, fun v H2 K2 hl2 rl => ?_⟩
    obtain ⟨dx, hx, _⟩ := id hl2
    have S2 : Same H H2 := Keep.toSame s1 nx K2
    walk_at "sx"
    refine ⟨rfl, ?_⟩
    cases hto : (told (Txt.split t nl)).2 with
    | none =>
      rw [hto] at rl
      have ev : v = .non := rl
      subst ev
      have hf : fine t = none := by
        unfold fine
        rw [hto]
        split <;> rfl
      refine ⟨_, rfl, i_T rfl ?_⟩
      walk_at "sx"
      refine s_mkx2 ?_
      walk_at "sx"
      refine ⟨x, dx, _, rfl, hx, rfl, ?_⟩
      walk_at "sx"
      refine ⟨x, p, _, _, t, rfl, hl2, by omega, ?_⟩
      walk_at "sx"
      exact ⟨_, _, rfl, fun e he' => kx hf H2 e S2 he'⟩
    | some nr =>
      obtain ⟨n, rs⟩ := nr
      rw [hto] at rl
      obtain ⟨y, ks, rfl, yx, ru, ek⟩ := rl
      refine ⟨_, rfl, i_F (fun e => nomatch e) ?_⟩
      walk_at "sx"
      refine ⟨x, dx, _, rfl, hx, rfl, ?_⟩
      walk_at "sx"
      refine ⟨x, p, _, _, t, rfl, hl2, ?_⟩
      by_cases he : (told (Txt.split t nl)).1 = (Txt.split t nl).length
      · rw [decide_eq_true he]
        walk_at "sx"
        exact k n rs y H2 ks (by unfold fine; rw [if_pos he, hto]) S2 ru ek
      · rw [decide_eq_false he]
        have hf : fine t = none := by
          unfold fine
          rw [if_neg he]
        walk_at "sx"
        refine s_mkx2 ?_
        walk_at "sx"
        refine ⟨x, dx, _, rfl, hx, rfl, ?_⟩
        walk_at "sx"
        refine ⟨x, p, _, _, t, rfl, hl2, by omega, ?_⟩
        walk_at "sx"
        exact ⟨_, _, rfl, fun e he' => kx hf H2 e S2 he'⟩
end
end K09

set_option Elab.async false
set_option linter.all false
set_option maxRecDepth 100000
set_option maxHeartbeats 4000000
namespace K09
open PySem L2 Sx TL
local macro_rules | `(tactic| walk_at "cond") => `(tactic| first
  | assumption
  | decide
  | exact c_mul_r (by first | decide | omega) (by first | decide | omega)
  | exact c_mul_l (by first | decide | omega) (by first | decide | omega)
  | exact c_div (by first | decide | omega) (by first | decide | omega)
  | exact c_pow (by first | decide | omega) (by first | decide | omega) (by first | decide | omega)
  | omega)
local macro_rules | `(tactic| walk_at "ne") => `(tactic| first
  | assumption
  | (refine Ne.symm ?_; assumption)
  | (refine' Flow.ne ?nh ?nn; (case nn => assumption); (case nh => walk_at "fl"))
  | (refine Ne.symm ?_; refine' Flow.ne ?nh ?nn; (case nn => assumption); (case nh => walk_at "fl"))
  | (refine' ne_of_none ?nh ?nn; (case nn => assumption); (case nh => walk_at "at"))
  | (refine Ne.symm ?_; refine' ne_of_none ?nh ?nn; (case nn => assumption); (case nh => walk_at "at")))
local macro_rules | `(tactic| walk_at "at") => `(tactic| first
  | assumption
  | (refine Same.up (by assumption) ?_; walk_at "at")
  | (refine Keep.up (by assumption) (by walk_at "ne") ?_; walk_at "at"))
local macro_rules | `(tactic| walk_at "fl") => `(tactic| first
  | assumption
  | (refine Flow.same (by assumption) ?_; walk_at "fl")
  | (refine Flow.keep (by assumption) (by walk_at "ne") ?_; walk_at "fl"))
local macro_rules | `(tactic| walk_at "fr") => `(tactic| first
  | assumption
  | (refine same_free (by assumption) ?_; walk_at "fr")
  | (refine Keep.free (by assumption) (by walk_at "ne") ?_; walk_at "fr"))
local macro_rules | `(tactic| walk_at "kp") => `(tactic| first
  | assumption
  | exact Keep.refl _ _
  | (refine Keep.trans ?_ (by assumption); walk_at "kp")
  | (refine Keep.trans ?_ (Keep.same (by assumption)); walk_at "kp"))
local macro_rules | `(tactic| walk_at "sm") => `(tactic| first
  | assumption
  | exact L2.Same.refl _
  | (refine L2.Same.trans ?_ (by assumption); walk_at "sm"))
local macro_rules | `(tactic| walk_at "sz") => `(tactic| first | exact Nat.le_of_ble_eq_true rfl | omega)
local macro_rules | `(tactic| walk_at "new") => `(tactic| (intro p np; generalize hE : upd _ p _ = H2; have s2 := new_same np hE; have h2 := new_at hE; clear hE))
local macro_rules | `(tactic| walk_at "newx") => `(tactic| (intro e d na nd hda; generalize hE : upd (upd _ d _) e _ = H2; have s2 := newx_same na nd hE; have h2 := newx_at hE; have h3 := newx_d hda hE; clear hE))
local macro_rules | `(tactic| walk_at "s1") => `(tactic| first
  | with_reducible refine s_seq ?_
  | with_reducible refine s_asg ?_
  | with_reducible refine s_name ?_
  | with_reducible refine s_ret ?_
  | with_reducible refine s_c ?_
  | ((with_reducible refine' s_var ?hv ?_); (case hv => rfl))
  | with_reducible refine s_op ?_
  | with_reducible refine s_un ?_
  | with_reducible refine s_ifS ?_
  | with_reducible refine s_cb ?_
  | with_reducible refine s_cons ?_
  | with_reducible refine s_nil ?_
  | with_reducible refine s_call ?_
  | with_reducible refine s_test ?_
  | with_reducible refine s_tB ?_
  | with_reducible refine s_bl ?_
  | with_reducible refine s_and ?_
  | with_reducible refine s_or ?_
  | with_reducible refine s_not ?_
  | with_reducible refine s_andV ?_
  | with_reducible refine s_orV ?_
  | with_reducible refine s_notV ?_
  | with_reducible refine s_blV ?_
  | with_reducible refine s_if ?_
  | with_reducible refine s_tup ?_
  | with_reducible refine s_lst ?_
  | with_reducible refine s_drop ?_
  | with_reducible refine s_next ?_
  | with_reducible refine s_sub ?_
  | with_reducible refine s_bm ?_
  | with_reducible refine s_callK ?_
  | with_reducible refine s_brk ?_
  | with_reducible refine s_cont ?_
  | with_reducible refine r_I0 ?_
  | with_reducible refine r_U ?_
  | with_reducible refine r_eqI ?_
  | with_reducible refine r_neI ?_
  | with_reducible refine r_isB ?_
  | with_reducible refine r_notB ?_
  | with_reducible refine i_t ?_
  | with_reducible refine i_f ?_
  | with_reducible refine i_nt ?_
  | with_reducible refine i_nf ?_
  | ((with_reducible refine' r_I ?hc ?_); (case hc => walk_at "cond"))
  | (with_reducible refine .inl ⟨_, rfl, ?_⟩)
  | (with_reducible refine ⟨_, rfl, ?_⟩)
  | ((with_reducible refine' r_ixL ?hx ?ha ?_); (case hx => walk_at "at"); (case ha => rfl))
  | ((with_reducible refine' r_ixT ?hx ?ha ?_); (case hx => walk_at "at"); (case ha => rfl))
  | ((with_reducible refine' r_setL ?hx ?ha ?_); (case hx => walk_at "at"); (case ha => rfl); intro H2 k2 h2; (try dsimp only [List.set, Int.toNat] at h2))
  | ((with_reducible refine' r_app ?hx ?hl ?_); (case hx => walk_at "at"); (case hl => first | exact Nat.lt_of_ble_eq_true rfl | omega); intro H2 k2 h2)
  | ((with_reducible refine' ty_list ?hx ?_); (case hx => walk_at "at"))
  | (refine And.intro (by (with_reducible show _ ≤ sizeLine); walk_at "sz") ?_; walk_at "new")
  | with_reducible refine s_exv ?_
  | walk_at "newx")
local macro_rules | `(tactic| walk_at "sx") => `(tactic| repeat (walk_at "s1"))
local macro_rules | `(tactic| walk_at "s2") => `(tactic| first
  | ((with_reducible refine' r_ixG ?hx ?hn ?_); (case hx => walk_at "at"); (case hn => omega))
  | ((with_reducible refine' r_ixGT ?hx ?hn ?_); (case hx => walk_at "at"); (case hn => omega))
  | (with_reducible refine ig_cons (fun hix => ?_) (fun hix => ?_))
  | ((with_reducible refine ig_nil ?_); omega)
  | ((with_reducible refine' i_T ?hc ?_); (case hc => omega))
  | ((with_reducible refine' i_F ?hc ?_); (case hc => omega))
  | (with_reducible refine i_2 (fun hc => ?_) (fun hc => ?_))
  | (with_reducible refine i_n2 (fun hc => ?_) (fun hc => ?_)))
local macro_rules | `(tactic| walk_at "go") => `(tactic| repeat' (first | walk_at "s1" | walk_at "s2"))

local macro_rules | `(tactic| walk_at "s1") => `(tactic| first
  | with_reducible refine s_chain ?_
  | with_reducible refine s_fldS ?_
  | with_reducible refine s_fld ?_
  | with_reducible refine s_dIn ?_
  | with_reducible refine s_dNotIn ?_
  | with_reducible refine s_sl ?_
  | with_reducible refine s_noPart ?_
  | with_reducible refine s_part ?_
  | with_reducible refine s_meth ?_
  | with_reducible refine s_make ?_)

local macro_rules | `(tactic| walk_at "s1") => `(tactic| first
  | with_reducible refine s_m1 ?_
  | with_reducible refine s_strE ?_
  | with_reducible refine s_js ?_
  | with_reducible refine s_js0 ?_
  | with_reducible refine s_fmt ?_)
section
variable {P : Program} {w : World} {K : PySem.W.Frag} {mg : Str → Option Value} {base : Heap} {A : Ad}
def spFig : Sp := fun vs H Q _ => ∃ (y : Str) (n : Nat), vs = [.str y, .int n] ∧ y.length < 1000 ∧ ((∃ r, y = digs r ∧ Bits n r ∧ ∀ q H', Same H H' → H' q = some (.tup (r.map V.int)) → Q (.ref q) H') ∨ ((∀ r, Bits n r → y ≠ digs r) ∧ ∀ H', Same H H' → Q .non H'))
theorem ok_fig (T : Txt P K mg A) : FnOk P w K mg base CX0 1 A.a__law_figures A.d__law_figures ["figures", "size"] spFig := by
  refine T.F__law_figures.ok sc__law_figures (fun vs H Q E h => ?_) (fun cdv A' outer s H vs Q E hr h => ?_)
  · obtain ⟨y, n, rfl, _⟩ := h
    rfl
  · obtain ⟨y, n, rfl, ly, k⟩ := h
    refine ⟨_, (pss_cons (ps_if (pt_cmpR op_ne (pe_callB call_len (by rfl) T.n_len (by decide +kernel) (pa_cons (pv 0) pa_nil)) (pv 1) (nomark _)) (pss_one (ps_ret pe_non)) pss_nil)
  (pss_cons (ps_set (i := 2) sc__law_figures.nd rfl (Or.inl rfl) (pe_tup pa_nil))
  (pss_cons (ps_for PassesOwn.never rfl (pi_str (pv 0)) (pg_name (i := 3) sc__law_figures.nd rfl (Or.inl rfl))
  (pss_cons (ps_if (PW.pt (pw_and (pt_cmpR op_ne (pv 3) pe_str (nomark _)) (pw_and1 (pt_cmpR op_ne (pv 3) pe_str (nomark _))))) (pss_one (ps_ret pe_non)) pss_nil)
  (pss_one (ps_set (i := 2) sc__law_figures.nd rfl (Or.inl rfl) (pe_op op_catA (pv 2) (pe_tup (pa_cons (pe_callTy call_int1 (by rfl) T.n_int (by decide +kernel) (pa_cons (pe_cmpR op_eq (pv 3) pe_str (nomark _)) pa_nil)) pa_nil)))))))
  (pss_one (ps_ret (pv 2)))))), ?_⟩
    walk_at "sx"
    refine ⟨_, y.length, rfl, ⟨by rw [sizeLine_eq]; omega, rfl⟩, ?_⟩
    walk_at "sx"
    refine i_n2 (fun z => ?_) (fun z => ?_)
    · walk_at "sx"
      rcases k with ⟨r, er, br, _⟩ | ⟨_, q⟩
      · exfalso
        apply z
        have : (digs r).length = r.length := by
          show (List.toArray _).size = _
          simp
        rw [er, this, br.1]
      · exact q H (L2.Same.refl _)
    have z' : y.length = n := by omega
    walk_at "sx"
    rename_i p0 np0 H1 s1 h1
    refine ⟨_, rfl, _, rfl, for_it walk_str (fun i σ H' => Same H H' ∧ (y.cps.toList.take i).all isDig = true ∧ ∃ (q : Addr) (v : Option V), σ = [some (.str y), some (.int n), some (.ref q), v] ∧ H' q = some (.tup ((y.cps.toList.take i).map fun c => V.int ((c - 48 : Nat) : Int)))) ⟨s1, rfl, p0, none, rfl, h1⟩ (fun _ _ _ _ _ => trivial) ?_ ?_⟩
    · rintro i x σ H' H'' hi ⟨s', al, q, v, rfl, hq⟩ ⟨rfl, z, hz, rfl⟩
      have hz' : y.cps.toList[i]? = some z := by simpa using hz
      have hy : i < y.length := hi
      walk_at "sx"
      refine r_ne rfl ?_
      refine ⟨_, rfl, ?_⟩
      refine i_n2 (fun c0 => ?_) (fun c0 => ?_)
      · walk_at "sx"
        refine r_ne rfl ?_
        refine ⟨_, rfl, ?_⟩
        refine i_n2 (fun c1 => ?_) (fun c1 => ?_)
        · walk_at "sx"
          rcases k with ⟨r, er, br, _⟩ | ⟨_, k⟩
          · exfalso
            rw [er] at hz'
            have hz2 : (r.map fun d => 48 + d.toNat)[i]? = some z := by simpa [digs] using hz'
            rw [List.getElem?_map] at hz2
            obtain ⟨d, hd, rfl⟩ := Option.map_eq_some_iff.mp hz2
            rcases br.2 d (List.mem_of_getElem? hd) with rfl | rfl
            · exact c0 (by decide +kernel)
            · exact c1 (by decide +kernel)
          · exact k H'' s'
        · have e : z = 49 := by
            have e1 : (⟨#[z]⟩ : Str) = Str.ofString "1" := by injection c1
            have e2 := congrArg tl e1
            rw [show tl (Str.ofString "1") = [49] by decide +kernel] at e2
            have e3 : [z] = [49] := e2
            simpa using e3
          subst e
          walk_at "sx"
          refine r_eq rfl ?_
          walk_at "sx"
          refine .inr ⟨_, rfl, ?_⟩
          walk_at "sx"
          rename_i p2 np2 H2 s2 h2
          refine r_cat (s2 _ _ hq) h2 (by rw [List.length_map, List.length_take, sizeLine_eq]; simp; omega) fun p3 H3 s3 h3 => ?_
          walk_at "sx"
          refine ⟨s'.trans (s2.trans s3), ?_, p3, _, rfl, ?_⟩
          · rw [List.take_succ, hz', List.all_append, al]
            rfl
          · rw [h3, List.take_succ, hz', List.map_append]
            rfl
      · have e : z = 48 := by
          have e1 : (⟨#[z]⟩ : Str) = Str.ofString "0" := by injection c0
          have e2 := congrArg tl e1
          rw [show tl (Str.ofString "0") = [48] by decide +kernel] at e2
          have e3 : [z] = [48] := e2
          simpa using e3
        subst e
        walk_at "sx"
        refine r_eq rfl ?_
        walk_at "sx"
        refine .inr ⟨_, rfl, ?_⟩
        walk_at "sx"
        rename_i p2 np2 H2 s2 h2
        refine r_cat (s2 _ _ hq) h2 (by rw [List.length_map, List.length_take, sizeLine_eq]; simp; omega) fun p3 H3 s3 h3 => ?_
        walk_at "sx"
        refine ⟨s'.trans (s2.trans s3), ?_, p3, _, rfl, ?_⟩
        · rw [List.take_succ, hz', List.all_append, al]
          rfl
        · rw [h3, List.take_succ, hz', List.map_append]
          rfl
    · rintro σ H' ⟨s', al, q, v, rfl, hq⟩
      have e3 : y.cps.toList.take y.cps.size = y.cps.toList := List.take_of_length_le (by simp)
      rw [e3] at al hq
      obtain ⟨r, er, br⟩ := digs_of al
      walk_at "sx"
      rcases k with ⟨r', er', br', k⟩ | ⟨no, _⟩
      · refine k q H' s' ?_
        rw [hq, er']
        have e4 : (digs r').cps.toList = r'.map fun d => 48 + d.toNat := by simp [digs]
        rw [e4, List.map_map]
        congr 1
        congr 1
        refine List.map_congr_left fun d hd => ?_
        rcases br'.2 d hd with rfl | rfl <;> rfl
      · rw [z'] at br
        exact absurd er (no r br)
end
end K09

set_option Elab.async false
set_option linter.all false
set_option maxRecDepth 100000
set_option maxHeartbeats 4000000
namespace K09
open PySem L2 Sx TL
local macro_rules | `(tactic| walk_at "cond") => `(tactic| first
  | assumption
  | decide
  | exact c_mul_r (by first | decide | omega) (by first | decide | omega)
  | exact c_mul_l (by first | decide | omega) (by first | decide | omega)
  | exact c_div (by first | decide | omega) (by first | decide | omega)
  | exact c_pow (by first | decide | omega) (by first | decide | omega) (by first | decide | omega)
  | omega)
local macro_rules | `(tactic| walk_at "ne") => `(tactic| first
  | assumption
  | (refine Ne.symm ?_; assumption)
  | (refine' Flow.ne ?nh ?nn; (case nn => assumption); (case nh => walk_at "fl"))
  | (refine Ne.symm ?_; refine' Flow.ne ?nh ?nn; (case nn => assumption); (case nh => walk_at "fl"))
  | (refine' ne_of_none ?nh ?nn; (case nn => assumption); (case nh => walk_at "at"))
  | (refine Ne.symm ?_; refine' ne_of_none ?nh ?nn; (case nn => assumption); (case nh => walk_at "at")))
local macro_rules | `(tactic| walk_at "at") => `(tactic| first
  | assumption
  | (refine Same.up (by assumption) ?_; walk_at "at")
  | (refine Keep.up (by assumption) (by walk_at "ne") ?_; walk_at "at"))
local macro_rules | `(tactic| walk_at "fl") => `(tactic| first
  | assumption
  | (refine Flow.same (by assumption) ?_; walk_at "fl")
  | (refine Flow.keep (by assumption) (by walk_at "ne") ?_; walk_at "fl"))
local macro_rules | `(tactic| walk_at "fr") => `(tactic| first
  | assumption
  | (refine same_free (by assumption) ?_; walk_at "fr")
  | (refine Keep.free (by assumption) (by walk_at "ne") ?_; walk_at "fr"))
local macro_rules | `(tactic| walk_at "kp") => `(tactic| first
  | assumption
  | exact Keep.refl _ _
  | (refine Keep.trans ?_ (by assumption); walk_at "kp")
  | (refine Keep.trans ?_ (Keep.same (by assumption)); walk_at "kp"))
local macro_rules | `(tactic| walk_at "sm") => `(tactic| first
  | assumption
  | exact L2.Same.refl _
  | (refine L2.Same.trans ?_ (by assumption); walk_at "sm"))
local macro_rules | `(tactic| walk_at "sz") => `(tactic| first | exact Nat.le_of_ble_eq_true rfl | omega)
local macro_rules | `(tactic| walk_at "new") => `(tactic| (intro p np; generalize hE : upd _ p _ = H2; have s2 := new_same np hE; have h2 := new_at hE; clear hE))
local macro_rules | `(tactic| walk_at "newx") => `(tactic| (intro e d na nd hda; generalize hE : upd (upd _ d _) e _ = H2; have s2 := newx_same na nd hE; have h2 := newx_at hE; have h3 := newx_d hda hE; clear hE))
local macro_rules | `(tactic| walk_at "s1") => `(tactic| first
  | with_reducible refine s_seq ?_
  | with_reducible refine s_asg ?_
  | with_reducible refine s_name ?_
  | with_reducible refine s_ret ?_
  | with_reducible refine s_c ?_
  | ((with_reducible refine' s_var ?hv ?_); (case hv => rfl))
  | with_reducible refine s_op ?_
  | with_reducible refine s_un ?_
  | with_reducible refine s_ifS ?_
  | with_reducible refine s_cb ?_
  | with_reducible refine s_cons ?_
  | with_reducible refine s_nil ?_
  | with_reducible refine s_call ?_
  | with_reducible refine s_test ?_
  | with_reducible refine s_tB ?_
  | with_reducible refine s_bl ?_
  | with_reducible refine s_and ?_
  | with_reducible refine s_or ?_
  | with_reducible refine s_not ?_
  | with_reducible refine s_andV ?_
  | with_reducible refine s_orV ?_
  | with_reducible refine s_notV ?_
  | with_reducible refine s_blV ?_
  | with_reducible refine s_if ?_
  | with_reducible refine s_tup ?_
  | with_reducible refine s_lst ?_
  | with_reducible refine s_drop ?_
  | with_reducible refine s_next ?_
  | with_reducible refine s_sub ?_
  | with_reducible refine s_bm ?_
  | with_reducible refine s_callK ?_
  | with_reducible refine s_brk ?_
  | with_reducible refine s_cont ?_
  | with_reducible refine r_I0 ?_
  | with_reducible refine r_U ?_
  | with_reducible refine r_eqI ?_
  | with_reducible refine r_neI ?_
  | with_reducible refine r_isB ?_
  | with_reducible refine r_notB ?_
  | with_reducible refine i_t ?_
  | with_reducible refine i_f ?_
  | with_reducible refine i_nt ?_
  | with_reducible refine i_nf ?_
  | ((with_reducible refine' r_I ?hc ?_); (case hc => walk_at "cond"))
  | (with_reducible refine .inl ⟨_, rfl, ?_⟩)
  | (with_reducible refine ⟨_, rfl, ?_⟩)
  | ((with_reducible refine' r_ixL ?hx ?ha ?_); (case hx => walk_at "at"); (case ha => rfl))
  | ((with_reducible refine' r_ixT ?hx ?ha ?_); (case hx => walk_at "at"); (case ha => rfl))
  | ((with_reducible refine' r_setL ?hx ?ha ?_); (case hx => walk_at "at"); (case ha => rfl); intro H2 k2 h2; (try dsimp only [List.set, Int.toNat] at h2))
  | ((with_reducible refine' r_app ?hx ?hl ?_); (case hx => walk_at "at"); (case hl => first | exact Nat.lt_of_ble_eq_true rfl | omega); intro H2 k2 h2)
  | ((with_reducible refine' ty_list ?hx ?_); (case hx => walk_at "at"))
  | (refine And.intro (by (with_reducible show _ ≤ sizeLine); walk_at "sz") ?_; walk_at "new")
  | with_reducible refine s_exv ?_
  | walk_at "newx")
local macro_rules | `(tactic| walk_at "sx") => `(tactic| repeat (walk_at "s1"))
local macro_rules | `(tactic| walk_at "s2") => `(tactic| first
  | ((with_reducible refine' r_ixG ?hx ?hn ?_); (case hx => walk_at "at"); (case hn => omega))
  | ((with_reducible refine' r_ixGT ?hx ?hn ?_); (case hx => walk_at "at"); (case hn => omega))
  | (with_reducible refine ig_cons (fun hix => ?_) (fun hix => ?_))
  | ((with_reducible refine ig_nil ?_); omega)
  | ((with_reducible refine' i_T ?hc ?_); (case hc => omega))
  | ((with_reducible refine' i_F ?hc ?_); (case hc => omega))
  | (with_reducible refine i_2 (fun hc => ?_) (fun hc => ?_))
  | (with_reducible refine i_n2 (fun hc => ?_) (fun hc => ?_)))
local macro_rules | `(tactic| walk_at "go") => `(tactic| repeat' (first | walk_at "s1" | walk_at "s2"))

local macro_rules | `(tactic| walk_at "s1") => `(tactic| first
  | with_reducible refine s_chain ?_
  | with_reducible refine s_fldS ?_
  | with_reducible refine s_fld ?_
  | with_reducible refine s_dIn ?_
  | with_reducible refine s_dNotIn ?_
  | with_reducible refine s_sl ?_
  | with_reducible refine s_noPart ?_
  | with_reducible refine s_part ?_
  | with_reducible refine s_meth ?_
  | with_reducible refine s_make ?_)

local macro_rules | `(tactic| walk_at "s1") => `(tactic| first
  | with_reducible refine s_m1 ?_
  | with_reducible refine s_strE ?_
  | with_reducible refine s_js ?_
  | with_reducible refine s_js0 ?_
  | with_reducible refine s_fmt ?_)
theorem fine_none {t : Str} (h : (told (Txt.split t nl)).2 = none) : fine t = none := by
  unfold fine
  rw [h]
  split <;> rfl
theorem fine_cut {t : Str} (h : (told (Txt.split t nl)).1 < (Txt.split t nl).length) : fine t = none := by
  unfold fine
  rw [if_neg (Nat.ne_of_lt h)]
theorem wrong_in {t : Str} (h : (told (Txt.split t nl)).1 < (Txt.split t nl).length) : wrongAt t = offs (Txt.split t nl) (told (Txt.split t nl)).1 := by
  unfold wrongAt
  exact Nat.min_eq_left (offs_in h)
theorem r_ixS9 {K : PySem.W.Frag} {i : Nat} {H : Hp} {Q : VK} (h : i < 9) (q : Q (.str ⟨#[48 + i]⟩) H) : rIx K (.str (Str.ofString "012345678")) (.int (0 + (i : Int))) H Q := by
  refine .inr (.inr ⟨Str.ofString "012345678", _, 48 + i, rfl, rfl, by rw [sizeLine_eq]; decide +kernel, ?_, q⟩)
  rw [Int.zero_add]
  have hi : i = 0 ∨ i = 1 ∨ i = 2 ∨ i = 3 ∨ i = 4 ∨ i = 5 ∨ i = 6 ∨ i = 7 ∨ i = 8 := by omega
  rcases hi with rfl | rfl | rfl | rfl | rfl | rfl | rfl | rfl | rfl <;> decide +kernel
theorem len_p1 (i : Nat) : (Str.ofString "points ").length + (⟨#[48 + i]⟩ : Str).length ≤ sizeLine := by
  rw [show (Str.ofString "points ").length = 7 by decide +kernel, sizeLine_eq]
  show 7 + 1 ≤ 16777216
  omega
theorem sz_no {y : Str} (h : ∀ n, n < 9 → y ≠ pl n) : szOf y = none := by
  cases e : szOf y with
  | none => rfl
  | some n => exact absurd (szOf_some e).2 (h n (by have := (szOf_some e).1; omega))
theorem sz_yes {n : Nat} (h : n < 9) : szOf (pl n) = some n := by
  cases e : szOf (pl n) with
  | none => exact absurd rfl (szOf_none e n (by omega))
  | some m => rw [pl_inj (szOf_some e).2]
theorem prev_at {rs : List (List Int)} {j : Nat} (h : j + 1 ≤ rs.length) : ∃ x, rs[j]? = some x ∧ ((none :: rs.map some).getD (j + 1) none : Option (List Int)) = some x := by
  obtain ⟨x, hx⟩ : ∃ x, rs[j]? = some x := ⟨_, List.getElem?_eq_getElem (by omega)⟩
  refine ⟨x, hx, ?_⟩
  rw [List.getD_eq_getElem?_getD, List.getElem?_cons_succ, List.getElem?_map, hx]
  rfl
theorem cut5 {s : Str} (h : cutS s none (some 5) = Str.ofString "rule ") : ∃ y, s = Str.ofString "rule " ++ y := by
  refine ⟨⟨(s.cps.toList.drop 5).toArray⟩, str_ext ?_⟩
  show tl s = tl (_ ++ _)
  rw [tl_append, ← h]
  have e : tl (cutS s none (some 5)) = (tl s).take 5 := by
    unfold cutS
    rw [show (some (5 : Int)) = some ((5 : Nat) : Int) from rfl, HT.sIx_nat, HT.sIx_none]
    show List.take _ (List.drop 0 (tl s)) = _
    rw [List.drop_zero, Nat.sub_zero]
    rcases Nat.le_total 5 s.length with z | z
    · rw [Nat.min_eq_left z]
    · have l : (tl s).length = s.length := by simp [Str.length]
      rw [Nat.min_eq_right z, List.take_of_length_le (by omega), List.take_of_length_le (by omega)]
  rw [e]
  show tl s = List.take 5 (tl s) ++ List.drop 5 (tl s)
  rw [List.take_append_drop]
theorem cut5_app (y : Str) : cutS (Str.ofString "rule " ++ y) none (some 5) = Str.ofString "rule " := by
  unfold cutS
  refine str_ext ?_
  rw [show (some (5 : Int)) = some ((5 : Nat) : Int) from rfl, HT.sIx_nat, HT.sIx_none, app_len, show (Str.ofString "rule ").length = 5 by decide +kernel, Nat.min_eq_left (Nat.le_add_right _ _)]
  show List.take (5 - 0) (List.drop 0 (tl (Str.ofString "rule " ++ y))) = tl _
  rw [List.drop_zero, tl_append, show tl (Str.ofString "rule ") = [114, 117, 108, 101, 32] by decide +kernel]
  simp
section
variable {P : Program} {w : World} {K : PySem.W.Frag} {mg : Str → Option Value} {base : Heap} {A : Ad}
/-- what _law_read gives back -/
def RdAt (H : Hp) (l : Addr) (t : Str) : Prop := (fine t = none ∧ H l = some (.lst [.int (wrongAt t : Nat)])) ∨ ∃ n rs D ls, fine t = some (n, rs) ∧ H l = some (.lst [.int (n : Nat), .ref D]) ∧ H D = some (.lst (ls.map rf)) ∧ RowsAt H n ls ∧ ls.map (·.2) = rs
def spRd : Sp := fun vs H Q _ => ∃ t : Str, vs = [.str t] ∧ t.length < 400 ∧ ∀ l H', Same H H' → RdAt H' l t → Q (.ref l) H'
theorem ok_rd (T : Txt P K mg A) : FnOk P w K mg base CX0 2 A.a__law_read A.d__law_read ["text"] spRd := by
  refine T.F__law_read.ok sc__law_read (fun vs H Q E h => ?_) (fun cdv A' outer s H vs Q E hr h => ?_)
  · obtain ⟨t, rfl, _⟩ := h
    rfl
  · obtain ⟨t, rfl, lt, k⟩ := h
    have G__law_figures := ok_fig (w := w) (base := base) T
    obtain ⟨s0, l, eps⟩ : ∃ s0 l, Txt.split t nl = s0 :: l := by
      cases e : Txt.split t nl with
      | nil => exact absurd e (split_ne t)
      | cons a l => exact ⟨a, l, rfl⟩
    have few := split_few t
    refine ⟨_, (pss_cons (ps_set (i := 1) sc__law_read.nd rfl (Or.inl rfl) pe_int)
  (pss_cons (ps_set (i := 2) sc__law_read.nd rfl (Or.inl rfl) (pe_un un_neg pe_int))
  (pss_cons (ps_set (i := 3) sc__law_read.nd rfl (Or.inl rfl) (pe_lst pa_nil))
  (pss_cons (ps_for PassesOwn.never rfl (pi_list (pe_split (pv 0) pe_str)) (pg_name (i := 4) sc__law_read.nd rfl (Or.inl rfl))
  (pss_cons (ps_set (i := 5) sc__law_read.nd rfl (Or.inl rfl) pe_bl)
  (pss_cons (ps_if (pt_cmpR op_lt (pv 2) pe_int (nomark _)) (pss_one (ps_for PassesOwn.never rfl (pi_range1 rfl T.n_range (pa_cons pe_int pa_nil)) (pg_name (i := 6) sc__law_read.nd rfl (Or.inl rfl))
  (pss_one (ps_if (pt_cmpR op_eq (pv 4) (pe_op op_add_str pe_str (pe_ix (r := rIx K) ix_seq pe_str (pv 6) (fun _ _ => rfl))) (nomark _)) (pss_cons (ps_set (i := 2) sc__law_read.nd rfl (Or.inl rfl) (pv 6))
  (pss_one (ps_set (i := 5) sc__law_read.nd rfl (Or.inl rfl) pe_bl))) pss_nil)))) (pss_one (ps_if (pt_cmpR op_eq (pv 2) pe_int (nomark _)) (pss_cons (ps_set (i := 5) sc__law_read.nd rfl (Or.inl rfl) (pe_and (pe_cmpR op_eq (pv 4) pe_str (nomark _)) (pe_one (pe_cmpR op_eq (pe_callB call_len (by rfl) T.n_len (by decide +kernel) (pa_cons (pv 3) pa_nil)) pe_int (nomark _)))))
  (pss_one (ps_expr (pe_bm PySem.F.plainAttrs_list PySem.F.slot_list_append PySem.F.type_list_append mt_append (pv 3) (pa_cons (pe_tup pa_nil) pa_nil))))) (pss_one (ps_if (pt_cmpR op_eq (pe_slice sl_str (pv 4) po_none (po_some pe_int)) pe_str (nomark _)) (pss_cons (ps_set (i := 7) sc__law_read.nd rfl (Or.inl rfl) (pe_call G__law_figures (hr.mono (by decide)) rfl T.g__law_figures T.F__law_figures.kp (B__law_figures T) .nil pass0 (pa_cons (pe_slice sl_str (pv 4) (po_some pe_int) po_none) (pa_cons (pv 2) pa_nil))))
  (pss_one (ps_if (pt_cmpR op_notN (pv 7) pe_non (nomark _)) (pss_cons (ps_set (i := 5) sc__law_read.nd rfl (Or.inl rfl) (pe_or (pe_cmpR op_eq (pe_callB call_len (by rfl) T.n_len (by decide +kernel) (pa_cons (pv 3) pa_nil)) pe_int (nomark _)) (pe_one (pe_cmpR (op_ltT (uL hr)) (pe_ix (r := rIx K) ix_seq (pv 3) (pe_un un_neg pe_int) (fun _ _ => rfl)) (pv 7) (nomark _)))))
  (pss_one (ps_expr (pe_bm PySem.F.plainAttrs_list PySem.F.slot_list_append PySem.F.type_list_append mt_append (pv 3) (pa_cons (pv 7) pa_nil))))) pss_nil))) pss_nil)))))
  (pss_cons (ps_if (pt_not (pt_val (pv 5))) (pss_one (ps_ret (pe_lst (pa_cons (pv 1) pa_nil)))) pss_nil)
  (pss_one (ps_set (i := 1) sc__law_read.nd rfl (Or.inl rfl) (pe_op op_add (pe_op op_add (pv 1) (pe_callB call_len (by rfl) T.n_len (by decide +kernel) (pa_cons (pv 4) pa_nil))) pe_int)))))))
  (pss_cons (ps_if (pt_cmpR op_eq (pe_callB call_len (by rfl) T.n_len (by decide +kernel) (pa_cons (pv 3) pa_nil)) pe_int (nomark _)) (pss_one (ps_ret (pe_lst (pa_cons (pe_callB call_len (by rfl) T.n_len (by decide +kernel) (pa_cons (pv 0) pa_nil)) pa_nil)))) pss_nil)
  (pss_one (ps_ret (pe_lst (pa_cons (pv 2) (pa_cons (pv 3) pa_nil)))))))))), ?_⟩
    walk_at "sx"
    rename_i pf npf H1 s1 h1
    refine ⟨_, rfl, ⟨_, rfl⟩, _, _, rfl, rfl, by decide +kernel, by rw [sizeLine_eq]; omega, ?_⟩
    intro pL npL
    generalize hE0 : upd H1 pL _ = H2
    have s2 := new_same npL hE0
    have h2 : H2 pL = some (.lst ((Txt.split t nl).map V.str)) := new_at hE0
    clear hE0
    have fL : pf ≠ pL := fun e => by rw [← e, h1] at npL; cases npL
    refine ⟨pL, rfl, ⟨_, SqL.of h2⟩, for_list (K := K) (a := pL) (xs := (Txt.split t nl).map V.str) (fun i σ H' => Same H H' ∧ (True → H' pL = some (.lst ((Txt.split t nl).map V.str))) ∧
      ((i = 0 ∧ (True → H' pf = some (.lst [])) ∧ σ = [some (.str t), some (.int 0), some (.int (-1)), some (.ref pf), none, none, none, none]) ∨
       ∃ j n ls v4 v5 v6 v7, i = j + 1 ∧ szOf s0 = some n ∧ j ≤ (tk n none l).length ∧ (True → H' pf = some (.lst (ls.map rf))) ∧ RowsAt H' n ls ∧ ls.map (·.2) = (tk n none l).take j ∧
         σ = [some (.str t), some (.int (offs (Txt.split t nl) (j + 1) : Nat)), some (.int n), some (.ref pf), v4, v5, v6, v7]))
      ⟨s1.trans s2, fun _ => h2, .inl ⟨rfl, fun _ => s2 _ _ h1, rfl⟩⟩ (fun i σ H' _ h => SqL.of (h.2.1 trivial)) ?_ ?_⟩
    · rintro i x σ H' hx ⟨s', hL, hc⟩
      rw [List.getElem?_map] at hx
      obtain ⟨y, hy, rfl⟩ := Option.map_eq_some_iff.mp hx
      have ly : y.length < 400 := Nat.lt_of_le_of_lt (mem_len (List.mem_of_getElem? hy)) lt
      rcases hc with ⟨rfl, hf, rfl⟩ | ⟨j, n, ls, v4, v5, v6, v7, rfl, hsz, hj, hf, rl, el, rfl⟩
      · have ey : y = s0 := by
          rw [eps] at hy
          exact (Option.some.inj hy).symm
        subst ey
        walk_at "sx"
        refine i_T (by decide) ?_
        refine ⟨9, rfl, by decide, by decide, for_range (lo := 0) (n := 9) (fun i σ H'' => H'' = H' ∧ ∃ v6, ((∀ n, n < i → y ≠ pl n) ∧ σ = [some (.str t), some (.int 0), some (.int (-1)), some (.ref pf), some (.str y), some (.bl false), v6, none]) ∨
          ∃ n, n < i ∧ y = pl n ∧ σ = [some (.str t), some (.int 0), some (.int n), some (.ref pf), some (.str y), some (.bl true), v6, none]) ⟨rfl, none, .inl ⟨fun n h => absurd h (Nat.not_lt_zero _), rfl⟩⟩ ?_ ?_⟩
        · rintro i σ H'' hi ⟨rfl, v6, ⟨no, rfl⟩ | ⟨n, hn, ey, rfl⟩⟩
          · walk_at "sx"
            refine r_ixS9 (by omega) ?_
            walk_at "sx"
            refine ⟨_, _, rfl, rfl, len_p1 i, ?_⟩
            refine r_eq rfl ?_
            refine ⟨_, rfl, ?_⟩
            refine i_2 (fun c => ?_) (fun c => ?_)
            · walk_at "sx"
              refine ⟨rfl, some (.int (0 + (i : Int))), .inr ⟨i, Nat.lt_succ_self i, by injection c, ?_⟩⟩
              rw [Int.zero_add]
              rfl
            · walk_at "sx"
              refine ⟨rfl, _, .inl ⟨fun n h => ?_, rfl⟩⟩
              rcases Nat.lt_or_eq_of_le (Nat.le_of_lt_succ h) with z | rfl
              · exact no n z
              · exact fun z => c (by rw [z]; rfl)
          · walk_at "sx"
            refine r_ixS9 (by omega) ?_
            walk_at "sx"
            refine ⟨_, _, rfl, rfl, len_p1 i, ?_⟩
            refine r_eq rfl ?_
            refine ⟨_, rfl, ?_⟩
            refine i_F (fun c => ?_) ?_
            · have e : pl n = pl i := by
                rw [← ey]
                injection c
              have := pl_inj e
              omega
            walk_at "sx"
            exact ⟨rfl, _, .inr ⟨n, by omega, ey, rfl⟩⟩
        · rintro σ H'' ⟨rfl, v6, ⟨no, rfl⟩ | ⟨n, hn, ey, rfl⟩⟩
          · walk_at "sx"
            rename_i pr npr H3 s3 h3
            have hto : told (Txt.split t nl) = (0, none) := by
              rw [eps]
              unfold told
              show (match szOf y with | none => (0, none) | some n => _) = _
              rw [sz_no no]
            refine k pr H3 (s'.trans s3) (.inl ⟨fine_none (by rw [hto]), ?_⟩)
            have e : wrongAt t = 0 := by
              unfold wrongAt
              rw [hto]
              exact Nat.zero_min _
            rw [h3, e]
            rfl
          · walk_at "sx"
            refine ⟨_, y.length, rfl, ⟨by rw [sizeLine_eq]; omega, rfl⟩, ?_⟩
            walk_at "sx"
            refine ⟨s', hL, .inr ⟨0, n, [], some (.str y), some (.bl true), v6, none, rfl, by rw [ey]; exact sz_yes hn, Nat.zero_le _, hf, rows_nil, rfl, ?_⟩⟩
            have e : offs (Txt.split t nl) (0 + 1) = y.length + 1 := by
              rw [eps, offs_succ (Nat.succ_pos _)]
              show 0 + (y.length + 1) = _
              omega
            rw [e]
            have e2 : (0 : Int) + (y.length : Int) + 1 = ((y.length + 1 : Nat) : Int) := by omega
            first
              | rfl
              | (rw [← e2]; rfl)
      · have jl : j < l.length := by
          have := (List.getElem?_eq_some_iff.mp hy).1
          rw [eps, List.length_cons] at this
          omega
        have hyl : l.getD j (Str.ofString "") = y := by
          rw [eps] at hy
          have h2 : l[j]? = some y := hy
          rw [List.getD_eq_getElem?_getD, h2]
          rfl
        have nx := tk_next n l none j hj
        rw [hyl] at nx
        have bt := tk_bits n l none
        have hto : told (Txt.split t nl) = ((tk n none l).length + 1, if tk n none l = [] then none else some (n, tk n none l)) := by
          rw [eps]
          unfold told
          show (match szOf s0 with | none => (0, none) | some n => ((tk n none l).length + 1, if tk n none l = [] then none else some (n, tk n none l))) = _
          rw [hsz]
        have lls : ls.length = j := by
          have e := congrArg List.length el
          simp only [List.length_map, List.length_take] at e
          omega
        have lsz : ls.length < 1000 := by
          have : (Txt.split t nl).length = l.length + 1 := by rw [eps]; rfl
          omega
        have eoff : ((offs (Txt.split t nl) (j + 1) : Nat) : Int) + (y.length : Int) + 1 = ((offs (Txt.split t nl) (j + 1 + 1) : Nat) : Int) := by
          have h1 : j + 1 < (Txt.split t nl).length := by rw [eps, List.length_cons]; omega
          have h2 : (Txt.split t nl)[j + 1] = y := by
            have := List.getElem?_eq_getElem h1
            rw [hy] at this
            exact (Option.some.inj this).symm
          rw [offs_succ h1, h2]
          omega
        have done : (tk n none l)[j]? = none → ∀ (pr : Addr) (H3 : Hp), Same H H3 → H3 pr = some (.lst [.int (offs (Txt.split t nl) (j + 1) : Nat)]) → Q (.ref pr) H3 := fun e pr H3 s3 h3 => by
          have ej : j = (tk n none l).length := by
            have := List.getElem?_eq_none_iff.mp e
            omega
          have h1 : (told (Txt.split t nl)).1 < (Txt.split t nl).length := by
            rw [hto, eps, List.length_cons]
            show (tk n none l).length + 1 < _
            omega
          refine k pr H3 s3 (.inl ⟨fine_cut h1, ?_⟩)
          rw [h3, wrong_in h1, hto, ← ej]
        walk_at "sx"
        refine i_F (by omega) ?_
        walk_at "sx"
        refine i_2 (fun c => ?_) (fun c => ?_)
        · have n0 : n = 0 := by omega
          subst n0
          have nil0 : ∀ r, Bits 0 r → r = [] := fun r b => List.eq_nil_of_length_eq_zero b.1
          walk_at "sx"
          refine r_eq rfl ?_
          refine ⟨_, rfl, ?_⟩
          refine i_2 (fun cA => ?_) (fun cA => ?_)
          · have ey : y = Str.ofString "rule -" := by injection cA
            have er : rowOf 0 y = some [] := by
              cases e : rowOf 0 y with
              | none => exact absurd (by rw [ey, line_word]; rfl) (rowOf_none e [] ⟨rfl, fun _ h => nomatch h⟩)
              | some r => rw [nil0 r (rowOf_some e).1]
            rw [er] at nx
            dsimp only at nx
            walk_at "sx"
            refine ⟨_, _, rfl, .inl ⟨_, SqL.of (hf trivial), rfl⟩, ?_⟩
            walk_at "sx"
            refine ty_list (hf trivial) ?_
            walk_at "sx"
            rename_i p2 np2 H5 s5 h5
            refine r_app (s5 _ _ (hf trivial)) (by rw [List.length_map, sizeLine_eq]; omega) fun H6 k6 h6 => ?_
            have npf' : H pf = none := npf
            have S6 : Same H H6 := Keep.toSame (s'.trans s5) npf' k6
            walk_at "sx"
            refine i_n2 (fun c2 => ?_) (fun c2 => ?_)
            · have j1 : j ≠ 0 := fun z => c2 (by rw [List.length_map, lls, z]; rfl)
              obtain ⟨j', ej'⟩ : ∃ j', j = j' + 1 := ⟨j - 1, by omega⟩
              obtain ⟨x, hx, hp⟩ := prev_at (rs := tk 0 none l) (j := j') (by omega)
              rw [ej', hp, nil0 x (bt x (List.mem_of_getElem? hx))] at nx
              have nx' : (tk 0 none l)[j]? = none := by
                rw [ej', nx]
                rfl
              walk_at "sx"
              rename_i pr npr H9 s9 h9
              exact done nx' pr H9 (S6.trans s9) h9
            · have j0 : j = 0 := by
                rw [List.length_map, lls] at c2
                omega
              have nx' : (tk 0 none l)[j]? = some [] := by
                rw [nx, j0]
                rfl
              walk_at "sx"
              refine ⟨_, y.length, rfl, ⟨by rw [sizeLine_eq]; omega, rfl⟩, ?_⟩
              walk_at "sx"
              refine ⟨S6, fun _ => k6 _ _ (Ne.symm fL) (s5 _ _ (hL trivial)), .inr ⟨j + 1, 0, ls ++ [(p2, [])], some (.str y), some (.bl (decide ((((ls.map rf).length : Nat) : Int) = 0))), v6, v7, rfl, hsz, ?_, fun _ => ?_, fun z hz => ?_, ?_, ?_⟩⟩
              · have := (List.getElem?_eq_some_iff.mp nx').1
                omega
              · rw [h6, List.map_append]
                rfl
              · rcases List.mem_append.mp hz with m | m
                · exact ⟨k6 _ _ (ne_of (s5 _ _ (rl z m).1) (s5 _ _ (hf trivial)) fun e => nomatch e) (s5 _ _ (rl z m).1), (rl z m).2⟩
                · rw [List.mem_singleton.mp m]
                  exact ⟨k6 _ _ (ne_of h5 (s5 _ _ (hf trivial)) fun e => nomatch e) h5, ⟨rfl, fun _ h => nomatch h⟩⟩
              · rw [List.map_append, el, List.take_succ, nx']
                rfl
              · rw [← eoff]
                rfl
          · have er : rowOf 0 y = none := by
              cases e : rowOf 0 y with
              | none => rfl
              | some r =>
                refine absurd ?_ cA
                rw [(rowOf_some e).2, nil0 r (rowOf_some e).1, line_word]
                rfl
            rw [er] at nx
            walk_at "sx"
            refine ty_list (hf trivial) ?_
            walk_at "sx"
            rename_i p2 np2 H5 s5 h5
            refine r_app (s5 _ _ (hf trivial)) (by rw [List.length_map, sizeLine_eq]; omega) fun H6 k6 h6 => ?_
            have S6 : Same H H6 := Keep.toSame (s'.trans s5) npf k6
            walk_at "sx"
            rename_i pr npr H9 s9 h9
            exact done nx pr H9 (S6.trans s9) h9
        · walk_at "sx"
          refine ⟨_, rfl, by rw [sizeLine_eq]; omega, ?_⟩
          walk_at "sx"
          refine r_eq rfl ?_
          refine ⟨_, rfl, ?_⟩
          refine i_2 (fun cA => ?_) (fun cA => ?_)
          · obtain ⟨z, rfl⟩ := cut5 (by injection cA)
            walk_at "sx"
            refine ⟨_, rfl, by rw [sizeLine_eq]; omega, ?_⟩
            rw [show (5 : Int) = ((Str.ofString "rule ").length : Int) by decide +kernel, cut_app]
            rw [app_len] at ly
            cases er : rowOf n (Str.ofString "rule " ++ z) with
            | none =>
              rw [er] at nx
              walk_at "sx"
              refine ⟨z, n, rfl, by omega, .inr ⟨fun r b e => ?_, fun H5 s5 => ?_⟩⟩
              · have ne : r ≠ [] := fun z => c (by
                  have := b.1
                  rw [z] at this
                  have q : n = 0 := this.symm
                  rw [q]
                  rfl)
                exact rowOf_none er r b (by rw [line_word, word, if_neg ne, e])
              walk_at "sx"
              refine ⟨rfl, ?_⟩
              refine ⟨_, rfl, i_n2 (fun e => absurd rfl e) (fun _ => ?_)⟩
              walk_at "sx"
              rename_i pr npr H9 s9 h9
              exact done nx pr H9 (s'.trans (s5.trans s9)) h9
            | some r =>
              rw [er] at nx
              dsimp only at nx
              obtain ⟨br, ez⟩ := rowOf_some er
              have ne : r ≠ [] := fun z => c (by
                have := br.1
                rw [z] at this
                have q : n = 0 := this.symm
                rw [q]
                rfl)
              have ez' : z = digs r := by
                rw [line_word, word, if_neg ne] at ez
                have := congrArg tl ez
                rw [tl_append, tl_append] at this
                exact str_ext (List.append_cancel_left this)
              walk_at "sx"
              refine ⟨z, n, rfl, by omega, .inl ⟨r, ez', br, fun q H5 s5 hq => ?_⟩⟩
              walk_at "sx"
              refine ⟨rfl, ?_⟩
              refine ⟨_, rfl, i_n2 (fun _ => ?_) (fun e => nomatch e)⟩
              have hf5 : True → H5 pf = some (.lst (ls.map rf)) := fun _ => s5 _ _ (hf trivial)
              walk_at "sx"
              refine ⟨_, _, rfl, .inl ⟨_, SqL.of (hf5 trivial), rfl⟩, ?_⟩
              walk_at "sx"
              refine i_2 (fun c3 => ?_) (fun c3 => ?_)
              · have j0 : j = 0 := by
                  rw [List.length_map, lls] at c3
                  omega
                have nx' : (tk n none l)[j]? = some r := by
                  rw [nx, j0]
                  rfl
                walk_at "sx"
                refine ty_list (hf5 trivial) ?_
                walk_at "sx"
                refine r_app (hf5 trivial) (by rw [List.length_map, sizeLine_eq]; omega) fun H6 k6 h6 => ?_
                have S6 : Same H H6 := Keep.toSame (s'.trans s5) npf k6
                walk_at "sx"
                refine ⟨_, (Str.ofString "rule " ++ z).length, rfl, ⟨by rw [sizeLine_eq, app_len]; omega, rfl⟩, ?_⟩
                walk_at "sx"
                refine ⟨S6, fun _ => k6 _ _ (Ne.symm fL) (s5 _ _ (hL trivial)), .inr ⟨j + 1, n, ls ++ [(q, r)], some (.str (Str.ofString "rule " ++ z)), some (.bl true), v6, some (.ref q), rfl, hsz, ?_, fun _ => ?_, fun z hz => ?_, ?_, ?_⟩⟩
                · have := (List.getElem?_eq_some_iff.mp nx').1
                  omega
                · rw [h6, List.map_append]
                  rfl
                · rcases List.mem_append.mp hz with m | m
                  · exact ⟨k6 _ _ (ne_of (s5 _ _ (rl z m).1) (s5 _ _ (hf trivial)) fun e => nomatch e) (s5 _ _ (rl z m).1), (rl z m).2⟩
                  · rw [List.mem_singleton.mp m]
                    exact ⟨k6 _ _ (ne_of hq (s5 _ _ (hf trivial)) fun e => nomatch e) hq, br⟩
                · rw [List.map_append, el, List.take_succ, nx']
                  rfl
                · rw [← eoff]
                  rfl
              · have nel : ls ≠ [] := fun z => c3 (by rw [z]; rfl)
                obtain ⟨l0, q0, els⟩ : ∃ l0 q, ls = l0 ++ [q] := ⟨ls.dropLast, ls.getLast nel, (List.dropLast_concat_getLast nel).symm⟩
                have li : j = l0.length + 1 := by
                  rw [← lls, els]
                  simp
                walk_at "sx"
                refine r_ixL (hf5 trivial) (v := .ref q0.1) (by rw [els, List.map_append]; exact atI_last _ _) ?_
                walk_at "sx"
                have hq0 := rl q0 (by rw [els]; simp)
                refine ⟨q0.1, q, q0.2, r, rfl, rfl, SqT.of (s5 _ _ hq0.1), SqT.of hq, ?_⟩
                obtain ⟨x, hx, hp⟩ := prev_at (rs := tk n none l) (j := l0.length) (by omega)
                have ex : x = q0.2 := by
                  have e := congrArg (fun l => l[l0.length]?) el
                  rw [els] at e
                  simp at e
                  rw [List.getElem?_take_of_lt (by omega), hx] at e
                  exact (Option.some.inj e).symm
                rw [li, hp, ex] at nx
                have nx2 : (tk n none l)[j]? = if okp (some q0.2) r = true then some r else none := by rw [li, nx]
                rw [lt_code hq0.2 br]
                walk_at "sx"
                refine ty_list (hf5 trivial) ?_
                walk_at "sx"
                refine r_app (hf5 trivial) (by rw [List.length_map, sizeLine_eq]; omega) fun H6 k6 h6 => ?_
                have S6 : Same H H6 := Keep.toSame (s'.trans s5) npf k6
                walk_at "sx"
                refine i_n2 (fun c4 => ?_) (fun c4 => ?_)
                · have nx' : (tk n none l)[j]? = none := by
                    rw [nx2, if_neg]
                    exact fun e => c4 (of_decide_eq_true e)
                  walk_at "sx"
                  rename_i pr npr H9 s9 h9
                  exact done nx' pr H9 (S6.trans s9) h9
                · have nx' : (tk n none l)[j]? = some r := by
                    rw [nx2, if_pos]
                    exact decide_eq_true c4
                  walk_at "sx"
                  refine ⟨_, (Str.ofString "rule " ++ z).length, rfl, ⟨by rw [sizeLine_eq, app_len]; omega, rfl⟩, ?_⟩
                  walk_at "sx"
                  refine ⟨S6, fun _ => k6 _ _ (Ne.symm fL) (s5 _ _ (hL trivial)), .inr ⟨j + 1, n, ls ++ [(q, r)], some (.str (Str.ofString "rule " ++ z)), some (.bl (decide (TS.code 2 q0.2 < TS.code 2 r))), v6, some (.ref q), rfl, hsz, ?_, fun _ => ?_, fun z hz => ?_, ?_, ?_⟩⟩
                  · have := (List.getElem?_eq_some_iff.mp nx').1
                    omega
                  · rw [h6, List.map_append]
                    rfl
                  · rcases List.mem_append.mp hz with m | m
                    · exact ⟨k6 _ _ (ne_of (s5 _ _ (rl z m).1) (s5 _ _ (hf trivial)) fun e => nomatch e) (s5 _ _ (rl z m).1), (rl z m).2⟩
                    · rw [List.mem_singleton.mp m]
                      exact ⟨k6 _ _ (ne_of hq (s5 _ _ (hf trivial)) fun e => nomatch e) hq, br⟩
                  · rw [List.map_append, el, List.take_succ, nx']
                    rfl
                  · rw [← eoff]
                    rfl
          · have er : rowOf n y = none := by
              cases e : rowOf n y with
              | none => rfl
              | some r =>
                refine absurd ?_ cA
                rw [(rowOf_some e).2, line_word, cut5_app]
            rw [er] at nx
            walk_at "sx"
            rename_i pr npr H9 s9 h9
            exact done nx pr H9 (s'.trans s9) h9
    · rintro σ H' ⟨s', hL, hc⟩
      rw [List.length_map] at hc
      rcases hc with ⟨e0, _⟩ | ⟨j, n, ls, v4, v5, v6, v7, ej, hsz, hj, hf, rl, el, rfl⟩
      · exact absurd e0 (by rw [eps]; simp)
      · have jl : j = l.length := by
          rw [eps, List.length_cons] at ej
          omega
        have el2 : (tk n none l).length = j := Nat.le_antisymm (by rw [jl]; exact tk_len n l none) hj
        have hto : told (Txt.split t nl) = (j + 1, if tk n none l = [] then none else some (n, tk n none l)) := by
          rw [eps]
          unfold told
          show (match szOf s0 with | none => (0, none) | some n => ((tk n none l).length + 1, if tk n none l = [] then none else some (n, tk n none l))) = _
          rw [hsz]
          dsimp only
          rw [el2]
        rw [List.take_of_length_le (by omega)] at el
        walk_at "sx"
        refine ⟨_, _, rfl, .inl ⟨_, SqL.of (hf trivial), rfl⟩, ?_⟩
        walk_at "sx"
        refine i_2 (fun c => ?_) (fun c => ?_)
        · have ez : ls = [] := List.eq_nil_of_length_eq_zero (by
            rw [List.length_map] at c
            omega)
          have tz : tk n none l = [] := by rw [← el, ez]; rfl
          walk_at "sx"
          refine ⟨_, t.length, rfl, ⟨by rw [sizeLine_eq]; omega, rfl⟩, ?_⟩
          walk_at "sx"
          rename_i pr npr H3 s3 h3
          refine k pr H3 (s'.trans s3) (.inl ⟨fine_none (by rw [hto, if_pos tz]), ?_⟩)
          have e : wrongAt t = t.length := by
            unfold wrongAt
            rw [hto]
            show min (offs _ (j + 1)) _ = _
            rw [← ej, split_size]
            omega
          rw [h3, e]
        · have nz : tk n none l ≠ [] := fun z => c (by
            rw [z] at el
            have := congrArg List.length el
            simp only [List.length_map, List.length_nil] at this
            rw [List.length_map, this]
            rfl)
          walk_at "sx"
          rename_i pr npr H3 s3 h3
          refine k pr H3 (s'.trans s3) (.inr ⟨n, tk n none l, pf, ls, ?_, h3, s3 _ _ (hf trivial), rl.same s3, el⟩)
          unfold fine
          rw [hto]
          show (if j + 1 = _ then _ else _) = _
          rw [if_pos ej.symm, if_neg nz]
end
end K09

set_option Elab.async false
set_option linter.all false
set_option maxRecDepth 100000
set_option maxHeartbeats 4000000
namespace K09
open PySem L2 Sx TL
local macro_rules | `(tactic| walk_at "cond") => `(tactic| first
  | assumption
  | decide
  | exact c_mul_r (by first | decide | omega) (by first | decide | omega)
  | exact c_mul_l (by first | decide | omega) (by first | decide | omega)
  | exact c_div (by first | decide | omega) (by first | decide | omega)
  | exact c_pow (by first | decide | omega) (by first | decide | omega) (by first | decide | omega)
  | omega)
local macro_rules | `(tactic| walk_at "ne") => `(tactic| first
  | assumption
  | (refine Ne.symm ?_; assumption)
  | (refine' Flow.ne ?nh ?nn; (case nn => assumption); (case nh => walk_at "fl"))
  | (refine Ne.symm ?_; refine' Flow.ne ?nh ?nn; (case nn => assumption); (case nh => walk_at "fl"))
  | (refine' ne_of_none ?nh ?nn; (case nn => assumption); (case nh => walk_at "at"))
  | (refine Ne.symm ?_; refine' ne_of_none ?nh ?nn; (case nn => assumption); (case nh => walk_at "at")))
local macro_rules | `(tactic| walk_at "at") => `(tactic| first
  | assumption
  | (refine Same.up (by assumption) ?_; walk_at "at")
  | (refine Keep.up (by assumption) (by walk_at "ne") ?_; walk_at "at"))
local macro_rules | `(tactic| walk_at "fl") => `(tactic| first
  | assumption
  | (refine Flow.same (by assumption) ?_; walk_at "fl")
  | (refine Flow.keep (by assumption) (by walk_at "ne") ?_; walk_at "fl"))
local macro_rules | `(tactic| walk_at "fr") => `(tactic| first
  | assumption
  | (refine same_free (by assumption) ?_; walk_at "fr")
  | (refine Keep.free (by assumption) (by walk_at "ne") ?_; walk_at "fr"))
local macro_rules | `(tactic| walk_at "kp") => `(tactic| first
  | assumption
  | exact Keep.refl _ _
  | (refine Keep.trans ?_ (by assumption); walk_at "kp")
  | (refine Keep.trans ?_ (Keep.same (by assumption)); walk_at "kp"))
local macro_rules | `(tactic| walk_at "sm") => `(tactic| first
  | assumption
  | exact L2.Same.refl _
  | (refine L2.Same.trans ?_ (by assumption); walk_at "sm"))
local macro_rules | `(tactic| walk_at "sz") => `(tactic| first | exact Nat.le_of_ble_eq_true rfl | omega)
local macro_rules | `(tactic| walk_at "new") => `(tactic| (intro p np; generalize hE : upd _ p _ = H2; have s2 := new_same np hE; have h2 := new_at hE; clear hE))
local macro_rules | `(tactic| walk_at "newx") => `(tactic| (intro e d na nd hda; generalize hE : upd (upd _ d _) e _ = H2; have s2 := newx_same na nd hE; have h2 := newx_at hE; have h3 := newx_d hda hE; clear hE))
local macro_rules | `(tactic| walk_at "s1") => `(tactic| first
  | with_reducible refine s_seq ?_
  | with_reducible refine s_asg ?_
  | with_reducible refine s_name ?_
  | with_reducible refine s_ret ?_
  | with_reducible refine s_c ?_
  | ((with_reducible refine' s_var ?hv ?_); (case hv => rfl))
  | with_reducible refine s_op ?_
  | with_reducible refine s_un ?_
  | with_reducible refine s_ifS ?_
  | with_reducible refine s_cb ?_
  | with_reducible refine s_cons ?_
  | with_reducible refine s_nil ?_
  | with_reducible refine s_call ?_
  | with_reducible refine s_test ?_
  | with_reducible refine s_tB ?_
  | with_reducible refine s_bl ?_
  | with_reducible refine s_and ?_
  | with_reducible refine s_or ?_
  | with_reducible refine s_not ?_
  | with_reducible refine s_andV ?_
  | with_reducible refine s_orV ?_
  | with_reducible refine s_notV ?_
  | with_reducible refine s_blV ?_
  | with_reducible refine s_if ?_
  | with_reducible refine s_tup ?_
  | with_reducible refine s_lst ?_
  | with_reducible refine s_drop ?_
  | with_reducible refine s_next ?_
  | with_reducible refine s_sub ?_
  | with_reducible refine s_bm ?_
  | with_reducible refine s_callK ?_
  | with_reducible refine s_brk ?_
  | with_reducible refine s_cont ?_
  | with_reducible refine r_I0 ?_
  | with_reducible refine r_U ?_
  | with_reducible refine r_eqI ?_
  | with_reducible refine r_neI ?_
  | with_reducible refine r_isB ?_
  | with_reducible refine r_notB ?_
  | with_reducible refine i_t ?_
  | with_reducible refine i_f ?_
  | with_reducible refine i_nt ?_
  | with_reducible refine i_nf ?_
  | ((with_reducible refine' r_I ?hc ?_); (case hc => walk_at "cond"))
  | (with_reducible refine .inl ⟨_, rfl, ?_⟩)
  | (with_reducible refine ⟨_, rfl, ?_⟩)
  | ((with_reducible refine' r_ixL ?hx ?ha ?_); (case hx => walk_at "at"); (case ha => rfl))
  | ((with_reducible refine' r_ixT ?hx ?ha ?_); (case hx => walk_at "at"); (case ha => rfl))
  | ((with_reducible refine' r_setL ?hx ?ha ?_); (case hx => walk_at "at"); (case ha => rfl); intro H2 k2 h2; (try dsimp only [List.set, Int.toNat] at h2))
  | ((with_reducible refine' r_app ?hx ?hl ?_); (case hx => walk_at "at"); (case hl => first | exact Nat.lt_of_ble_eq_true rfl | omega); intro H2 k2 h2)
  | ((with_reducible refine' ty_list ?hx ?_); (case hx => walk_at "at"))
  | (refine And.intro (by (with_reducible show _ ≤ sizeLine); walk_at "sz") ?_; walk_at "new")
  | with_reducible refine s_exv ?_
  | walk_at "newx")
local macro_rules | `(tactic| walk_at "sx") => `(tactic| repeat (walk_at "s1"))
local macro_rules | `(tactic| walk_at "s2") => `(tactic| first
  | ((with_reducible refine' r_ixG ?hx ?hn ?_); (case hx => walk_at "at"); (case hn => omega))
  | ((with_reducible refine' r_ixGT ?hx ?hn ?_); (case hx => walk_at "at"); (case hn => omega))
  | (with_reducible refine ig_cons (fun hix => ?_) (fun hix => ?_))
  | ((with_reducible refine ig_nil ?_); omega)
  | ((with_reducible refine' i_T ?hc ?_); (case hc => omega))
  | ((with_reducible refine' i_F ?hc ?_); (case hc => omega))
  | (with_reducible refine i_2 (fun hc => ?_) (fun hc => ?_))
  | (with_reducible refine i_n2 (fun hc => ?_) (fun hc => ?_)))
local macro_rules | `(tactic| walk_at "go") => `(tactic| repeat' (first | walk_at "s1" | walk_at "s2"))

local macro_rules | `(tactic| walk_at "s1") => `(tactic| first
  | with_reducible refine s_chain ?_
  | with_reducible refine s_fldS ?_
  | with_reducible refine s_fld ?_
  | with_reducible refine s_dIn ?_
  | with_reducible refine s_dNotIn ?_
  | with_reducible refine s_sl ?_
  | with_reducible refine s_noPart ?_
  | with_reducible refine s_part ?_
  | with_reducible refine s_meth ?_
  | with_reducible refine s_make ?_)

local macro_rules | `(tactic| walk_at "s1") => `(tactic| first
  | with_reducible refine s_m1 ?_
  | with_reducible refine s_strE ?_
  | with_reducible refine s_js ?_
  | with_reducible refine s_js0 ?_
  | with_reducible refine s_fmt ?_)
section
variable {P : Program} {w : World} {K : PySem.W.Frag} {mg : Str → Option Value} {base : Heap} {A : Ad}
def dRow (r : List Int) : PyData := .tuple (r.map PyData.int)
def dRows (ks : List (Addr × List Int)) : PyData := .tuple (ks.map fun p => dRow p.2)
theorem dp_ints {H : Hp} : ∀ r : List Int, DpAll K H (r.map V.int) (r.map PyData.int)
  | [] => .nil
  | i :: r => .cons (.int i) (dp_ints r)
theorem dp_all {H : Hp} {n : Nat} : ∀ ks : List (Addr × List Int), RowsAt H n ks → DpAll K H (ks.map rf) (ks.map fun p => dRow p.2)
  | [], _ => .nil
  | p :: ks, h => .cons (.tup (SqT.of (h p List.mem_cons_self).1) (dp_ints p.2)) (dp_all ks fun q hq => h q (List.mem_cons_of_mem _ hq))
theorem dp_rows {H : Hp} {n : Nat} {t : Addr} {ks : List (Addr × List Int)} (ht : H t = some (.tup (ks.map rf))) (h : RowsAt H n ks) : Dp K H (.ref t) (dRows ks) := .tup (SqT.of ht) (dp_all ks h)
theorem can_ints : ∀ r : List Int, PyData.canLayAll0 (r.map PyData.int) = true
  | [] => by rw [List.map_nil, PyData.canLayAll0]
  | i :: r => by rw [List.map_cons, PyData.canLayAll0, PyData.canLay0, can_ints r] <;> rfl
theorem can_rows : ∀ ks : List (Addr × List Int), PyData.canLayAll0 (ks.map fun p => dRow p.2) = true
  | [] => by rw [List.map_nil, PyData.canLayAll0]
  | p :: ks => by
    rw [List.map_cons, PyData.canLayAll0, can_rows ks, dRow, PyData.canLay0, can_ints p.2]
    rfl
theorem dep_ints : ∀ r : List Int, PyData.depthAll (r.map PyData.int) = 0
  | [] => by rw [List.map_nil, PyData.depthAll]
  | i :: r => by
    rw [List.map_cons, PyData.depthAll, PyData.depth, dep_ints r]
    rfl
theorem dep_rows : ∀ ks : List (Addr × List Int), PyData.depthAll (ks.map fun p => dRow p.2) ≤ 1
  | [] => by
    rw [List.map_nil, PyData.depthAll]
    omega
  | p :: ks => by
    rw [List.map_cons, PyData.depthAll, dRow, PyData.depth, dep_ints p.2]
    have := dep_rows ks
    omega
theorem sh_rows (ks : List (Addr × List Int)) : PySem.SeqAt.shaped (dRows ks) = true := by
  unfold PySem.SeqAt.shaped dRows
  rw [PyData.canLay0, can_rows ks, PyData.depth]
  have := dep_rows ks
  rw [decide_eq_true (by omega)]
  rfl
theorem dp_row {H : Hp} {p : Addr} {r : List Int} (h : H p = some (.tup (r.map V.int))) : Dp K H (.ref p) (dRow r) := .tup (SqT.of h) (dp_ints r)
theorem sh_row (r : List Int) : PySem.SeqAt.shaped (dRow r) = true := by
  unfold PySem.SeqAt.shaped dRow
  rw [PyData.canLay0, can_ints r, PyData.depth, dep_ints r]
  rfl
theorem eqv_row (r : List Int) : PyData.eqv (dRow r) (dRow r) = true := PySem.SeqAt.eqv_refl _ (PySem.SeqAt.canLay_of_shaped (sh_row r))
theorem dRows_eq {ks ls : List (Addr × List Int)} (e : ks.map (·.2) = ls.map (·.2)) : dRows ks = dRows ls := by
  unfold dRows
  have z : ∀ l : List (Addr × List Int), (l.map fun p => dRow p.2) = (l.map (·.2)).map dRow := fun l => by rw [List.map_map]; rfl
  rw [z, z, e]
/-- the rows of a tuple are those of a list -/
def spSameR : Sp := fun vs H Q _ => ∃ (t l : Addr) (n : Nat) (ks ls : List (Addr × List Int)), vs = [.ref t, .ref l] ∧ H t = some (.tup (ks.map rf)) ∧ H l = some (.lst (ls.map rf)) ∧ RowsAt H n ks ∧ RowsAt H n ls ∧ ks.map (·.2) = ls.map (·.2) ∧ n ≤ 8 ∧ ls.length < 64 ∧ Q (.bl true) H
theorem ok_sameR (T : Txt P K mg A) : FnOk P w K mg base CX0 1 A.a__law_same_rows A.d__law_same_rows ["actual", "due"] spSameR := by
  refine T.F__law_same_rows.ok sc__law_same_rows (fun vs H Q E h => ?_) (fun cdv A' outer s H vs Q E hr h => ?_)
  · obtain ⟨t, l, n, ks, ls, rfl, _⟩ := h
    rfl
  · obtain ⟨t, l, n, ks, ls, rfl, ht0, hl0, rk, rl, e, sn, sz, k⟩ := h
    have ht : True → H t = some (.tup (ks.map rf)) := fun _ => ht0
    have hl : True → H l = some (.lst (ls.map rf)) := fun _ => hl0
    have it := in_tup (K := K) ht0
    clear ht0 hl0
    have le : ks.length = ls.length := by
      have z := congrArg List.length e
      simpa using z
    refine ⟨_, (pss_cons (ps_if (PW.pt (pw_or (pt_not (pt_val (pe_callB (id := "isinstance") (r := rIsiV K) call_isiV (by rfl) T.n_isinstance (by decide +kernel) (pa_cons (pv 0) (pa_cons (pe_bltn (v := .ty "tuple") (u := .type "tuple") (by rfl) T.n_tuple (by decide +kernel) rfl) pa_nil))))) (pw_or1 (pt_cmpR op_ne (pe_callB call_len (by rfl) T.n_len (by decide +kernel) (pa_cons (pv 0) pa_nil)) (pe_callB call_len (by rfl) T.n_len (by decide +kernel) (pa_cons (pv 1) pa_nil)) (nomark _))))) (pss_one (ps_ret pe_bl)) pss_nil)
  (pss_cons (ps_for PassesOwn.never rfl (pi_range1 rfl T.n_range (pa_cons (pe_callB call_len (by rfl) T.n_len (by decide +kernel) (pa_cons (pv 1) pa_nil)) pa_nil)) (pg_name (i := 2) sc__law_same_rows.nd rfl (Or.inl rfl))
  (pss_cons (ps_if (PW.pt (pw_or (pt_not (pt_val (pe_callB (id := "isinstance") (r := rIsiV K) call_isiV (by rfl) T.n_isinstance (by decide +kernel) (pa_cons (pe_ix ix_seq (pv 0) (pv 2) (fun _ _ => rfl)) (pa_cons (pe_bltn (v := .ty "tuple") (u := .type "tuple") (by rfl) T.n_tuple (by decide +kernel) rfl) pa_nil))))) (pw_or1 (pt_cmpR op_ne (pe_callB call_len (by rfl) T.n_len (by decide +kernel) (pa_cons (pe_ix ix_seq (pv 0) (pv 2) (fun _ _ => rfl)) pa_nil)) (pe_callB call_len (by rfl) T.n_len (by decide +kernel) (pa_cons (pe_ix ix_seq (pv 1) (pv 2) (fun _ _ => rfl)) pa_nil)) (nomark _))))) (pss_one (ps_ret pe_bl)) pss_nil)
  (pss_cons (ps_for PassesOwn.never rfl (pi_tup (pe_ix ix_seq (pv 0) (pv 2) (fun _ _ => rfl))) (pg_name (i := 3) sc__law_same_rows.nd rfl (Or.inl rfl))
  (pss_one (ps_if (PW.pt (pw_or (pt_not (pt_val (pe_callB (id := "isinstance") (r := rIsiV K) call_isiV (by rfl) T.n_isinstance (by decide +kernel) (pa_cons (pv 3) (pa_cons (pe_bltn (v := .ty "int") (u := .type "int") (by rfl) T.n_int (by decide +kernel) rfl) pa_nil))))) (pw_or1 (pt_val (pe_callB (id := "isinstance") (r := rIsiV K) call_isiV (by rfl) T.n_isinstance (by decide +kernel) (pa_cons (pv 3) (pa_cons (pe_bltn (v := .ty "bool") (u := .type "bool") (by rfl) T.n_bool (by decide +kernel) rfl) pa_nil))))))) (pss_one (ps_ret pe_bl)) pss_nil)))
  (pss_one (ps_if (pt_cmpR (op_neD (uE hr)) (pe_ix ix_seq (pv 0) (pv 2) (fun _ _ => rfl)) (pe_ix ix_seq (pv 1) (pv 2) (fun _ _ => rfl)) (nomark _)) (pss_one (ps_ret pe_bl)) pss_nil)))))
  (pss_one (ps_ret pe_bl)))), ?_⟩
    walk_at "sx"
    refine isi_in it ?_
    walk_at "sx"
    refine ⟨_, _, rfl, .inr ⟨_, SqT.of (ht trivial), rfl⟩, ?_⟩
    walk_at "sx"
    refine ⟨_, _, rfl, .inl ⟨_, SqL.of (hl trivial), rfl⟩, ?_⟩
    walk_at "sx"
    rw [List.length_map, List.length_map, le]
    refine i_n2 (fun z => absurd rfl z) (fun _ => ?_)
    walk_at "sx"
    refine ⟨_, rfl, _, _, rfl, .inl ⟨_, SqL.of (hl trivial), rfl⟩, _, rfl, by rw [List.length_map]; omega, by rw [List.length_map]; omega, for_range (lo := 0) (n := (ls.map rf).length) (fun i σ H' => H' = H ∧ ∃ v2 v3, σ = [some (.ref t), some (.ref l), v2, v3]) ⟨rfl, none, none, rfl⟩ ?_ ?_⟩
    · rintro i σ H' hi ⟨rfl, v2, v3, rfl⟩
      rw [List.length_map] at hi
      obtain ⟨q, hq⟩ : ∃ q, ls[i]? = some q := ⟨_, List.getElem?_eq_getElem hi⟩
      obtain ⟨p, hp⟩ : ∃ p, ks[i]? = some p := ⟨_, List.getElem?_eq_getElem (by omega)⟩
      have epq : p.2 = q.2 := by
        have z := congrArg (fun l => l[i]?) e
        simpa [hp, hq] using z
      have hpk := rk p (List.mem_of_getElem? hp)
      have hqk := rl q (List.mem_of_getElem? hq)
      have ap : atI (ks.map rf) (0 + (i : Int)) = some (.ref p.1) := by rw [Int.zero_add]; exact atI_nat (by rw [List.getElem?_map, hp]; rfl)
      have aq : atI (ls.map rf) (0 + (i : Int)) = some (.ref q.1) := by rw [Int.zero_add]; exact atI_nat (by rw [List.getElem?_map, hq]; rfl)
      have lq : q.2.length ≤ 8 := by rw [hqk.2.1]; exact sn
      walk_at "sx"
      refine r_ixT (ht trivial) ap ?_
      walk_at "sx"
      refine isi_in (in_tup hpk.1) ?_
      walk_at "sx"
      refine r_ixT (ht trivial) ap ?_
      walk_at "sx"
      refine ⟨_, _, rfl, .inr ⟨_, SqT.of hpk.1, rfl⟩, ?_⟩
      walk_at "sx"
      refine r_ixL (hl trivial) aq ?_
      walk_at "sx"
      refine ⟨_, _, rfl, .inr ⟨_, SqT.of hqk.1, rfl⟩, ?_⟩
      walk_at "sx"
      rw [List.length_map, List.length_map, epq]
      refine i_n2 (fun z => absurd rfl z) (fun _ => ?_)
      walk_at "sx"
      refine ⟨_, rfl, _, rfl, .inr (.inl ⟨t, _, _, .ref p.1, rfl, rfl, SqT.of (ht trivial), ap, p.1, rfl, ⟨_, SqT.of hpk.1⟩, for_it (walk_tup (K := K) (a := p.1) (xs := p.2.map V.int)) (fun j σ H_1 => H_1 = H' ∧ ∃ v3, σ = [some (.ref t), some (.ref l), some (.int (0 + (i : Int))), v3]) ⟨rfl, v3, rfl⟩ (fun j σ H_1 _ h => by rw [h.1]; exact SqT.of hpk.1) ?_ ?_⟩)⟩
      · rintro j x σ H_1 H_2 hj ⟨rfl, v5, rfl⟩ ⟨rfl, hx⟩
        obtain ⟨d, hd, rfl⟩ : ∃ d, p.2[j]? = some d ∧ V.int d = x := by
          rw [List.getElem?_map] at hx
          exact Option.map_eq_some_iff.mp hx
        walk_at "sx"
        refine isi_in (in_int d) ?_
        walk_at "sx"
        refine isi_in (in_int_b d) ?_
        walk_at "sx"
        exact ⟨rfl, _, rfl⟩
      · rintro σ H_1 ⟨rfl, v5, rfl⟩
        walk_at "sx"
        refine r_ixT (ht trivial) ap ?_
        walk_at "sx"
        refine r_ixL (hl trivial) aq ?_
        refine ⟨dRow p.2, dRow q.2, dp_row hpk.1, dp_row hqk.1, sh_row _, sh_row _, ?_⟩
        rw [epq, eqv_row]
        walk_at "sx"
        exact ⟨rfl, _, _, rfl⟩
    · rintro σ H' ⟨rfl, v2, v3, rfl⟩
      walk_at "sx"
      exact k
def spII : Sp := fun vs H Q _ => ∃ i : Int, vs = [.int i, .int i] ∧ Q (.bl true) H
theorem ok_ii (T : Txt P K mg A) : FnOk P w K mg base CX0 1 A.a__law_is_integer A.d__law_is_integer ["value", "due"] spII := by
  refine T.F__law_is_integer.ok sc__law_is_integer (fun vs H Q E h => ?_) (fun cdv A' outer s H vs Q E hr h => ?_)
  · obtain ⟨v, rfl, _⟩ := h
    rfl
  · obtain ⟨i, rfl, k⟩ := h
    refine ⟨_, (pss_one (ps_ret (pe_and (pe_callB (id := "isinstance") (r := rIsiV K) call_isiV (by rfl) T.n_isinstance (by decide +kernel) (pa_cons (pv 0) (pa_cons (pe_bltn (v := .ty "int") (u := .type "int") (by rfl) T.n_int (by decide +kernel) rfl) pa_nil))) (pe_and (pe_not (pe_callB (id := "isinstance") (r := rIsiV K) call_isiV (by rfl) T.n_isinstance (by decide +kernel) (pa_cons (pv 0) (pa_cons (pe_bltn (v := .ty "bool") (u := .type "bool") (by rfl) T.n_bool (by decide +kernel) rfl) pa_nil)))) (pe_one (pe_cmpR op_eq (pv 0) (pv 1) (nomark _))))))), ?_⟩
    walk_at "sx"
    refine isi_in (in_int i) ?_
    walk_at "sx"
    refine isi_in (in_int_b i) ?_
    walk_at "sx"
    rw [decide_eq_true rfl]
    exact k
theorem ok_iiH (T : Txt P K mg A) : L2H.FnH P w K mg base CX0 1 A.a__law_is_integer A.d__law_is_integer ["value", "due"] spII := by
  refine T.F__law_is_integer.okH sc__law_is_integer (fun vs H Q E h => ?_) (fun cdv A' outer s H vs Q E p hr h => ?_)
  · obtain ⟨v, rfl, _⟩ := h
    rfl
  · obtain ⟨i, rfl, k⟩ := h
    refine ⟨_, (pss_one (ps_ret (pe_and (pe_callB (id := "isinstance") (r := rIsiV K) call_isiV (by rfl) T.n_isinstance (by decide +kernel) (pa_cons (pv 0) (pa_cons (pe_bltn (v := .ty "int") (u := .type "int") (by rfl) T.n_int (by decide +kernel) rfl) pa_nil))) (pe_and (pe_not (pe_callB (id := "isinstance") (r := rIsiV K) call_isiV (by rfl) T.n_isinstance (by decide +kernel) (pa_cons (pv 0) (pa_cons (pe_bltn (v := .ty "bool") (u := .type "bool") (by rfl) T.n_bool (by decide +kernel) rfl) pa_nil)))) (pe_one (pe_cmpR op_eq (pv 0) (pv 1) (nomark _))))))), ?_⟩
    walk_at "sx"
    refine isi_in (in_int i) ?_
    walk_at "sx"
    refine isi_in (in_int_b i) ?_
    walk_at "sx"
    rw [decide_eq_true rfl]
    exact k
end
end K09

set_option Elab.async false
set_option linter.all false
set_option maxRecDepth 100000
set_option maxHeartbeats 4000000
namespace K09
open PySem L2 Sx TL
local macro_rules | `(tactic| walk_at "cond") => `(tactic| first
  | assumption
  | decide
  | exact c_mul_r (by first | decide | omega) (by first | decide | omega)
  | exact c_mul_l (by first | decide | omega) (by first | decide | omega)
  | exact c_div (by first | decide | omega) (by first | decide | omega)
  | exact c_pow (by first | decide | omega) (by first | decide | omega) (by first | decide | omega)
  | omega)
local macro_rules | `(tactic| walk_at "ne") => `(tactic| first
  | assumption
  | (refine Ne.symm ?_; assumption)
  | (refine' Flow.ne ?nh ?nn; (case nn => assumption); (case nh => walk_at "fl"))
  | (refine Ne.symm ?_; refine' Flow.ne ?nh ?nn; (case nn => assumption); (case nh => walk_at "fl"))
  | (refine' ne_of_none ?nh ?nn; (case nn => assumption); (case nh => walk_at "at"))
  | (refine Ne.symm ?_; refine' ne_of_none ?nh ?nn; (case nn => assumption); (case nh => walk_at "at")))
local macro_rules | `(tactic| walk_at "at") => `(tactic| first
  | assumption
  | (refine Same.up (by assumption) ?_; walk_at "at")
  | (refine Keep.up (by assumption) (by walk_at "ne") ?_; walk_at "at"))
local macro_rules | `(tactic| walk_at "fl") => `(tactic| first
  | assumption
  | (refine Flow.same (by assumption) ?_; walk_at "fl")
  | (refine Flow.keep (by assumption) (by walk_at "ne") ?_; walk_at "fl"))
local macro_rules | `(tactic| walk_at "fr") => `(tactic| first
  | assumption
  | (refine same_free (by assumption) ?_; walk_at "fr")
  | (refine Keep.free (by assumption) (by walk_at "ne") ?_; walk_at "fr"))
local macro_rules | `(tactic| walk_at "kp") => `(tactic| first
  | assumption
  | exact Keep.refl _ _
  | (refine Keep.trans ?_ (by assumption); walk_at "kp")
  | (refine Keep.trans ?_ (Keep.same (by assumption)); walk_at "kp"))
local macro_rules | `(tactic| walk_at "sm") => `(tactic| first
  | assumption
  | exact L2.Same.refl _
  | (refine L2.Same.trans ?_ (by assumption); walk_at "sm"))
local macro_rules | `(tactic| walk_at "sz") => `(tactic| first | exact Nat.le_of_ble_eq_true rfl | omega)
local macro_rules | `(tactic| walk_at "new") => `(tactic| (intro p np; generalize hE : upd _ p _ = H2; have s2 := new_same np hE; have h2 := new_at hE; clear hE))
local macro_rules | `(tactic| walk_at "newx") => `(tactic| (intro e d na nd hda; generalize hE : upd (upd _ d _) e _ = H2; have s2 := newx_same na nd hE; have h2 := newx_at hE; have h3 := newx_d hda hE; clear hE))
local macro_rules | `(tactic| walk_at "s1") => `(tactic| first
  | with_reducible refine s_seq ?_
  | with_reducible refine s_asg ?_
  | with_reducible refine s_name ?_
  | with_reducible refine s_ret ?_
  | with_reducible refine s_c ?_
  | ((with_reducible refine' s_var ?hv ?_); (case hv => rfl))
  | with_reducible refine s_op ?_
  | with_reducible refine s_un ?_
  | with_reducible refine s_ifS ?_
  | with_reducible refine s_cb ?_
  | with_reducible refine s_cons ?_
  | with_reducible refine s_nil ?_
  | with_reducible refine s_call ?_
  | with_reducible refine s_test ?_
  | with_reducible refine s_tB ?_
  | with_reducible refine s_bl ?_
  | with_reducible refine s_and ?_
  | with_reducible refine s_or ?_
  | with_reducible refine s_not ?_
  | with_reducible refine s_andV ?_
  | with_reducible refine s_orV ?_
  | with_reducible refine s_notV ?_
  | with_reducible refine s_blV ?_
  | with_reducible refine s_if ?_
  | with_reducible refine s_tup ?_
  | with_reducible refine s_lst ?_
  | with_reducible refine s_drop ?_
  | with_reducible refine s_next ?_
  | with_reducible refine s_sub ?_
  | with_reducible refine s_bm ?_
  | with_reducible refine s_callK ?_
  | with_reducible refine s_brk ?_
  | with_reducible refine s_cont ?_
  | with_reducible refine r_I0 ?_
  | with_reducible refine r_U ?_
  | with_reducible refine r_eqI ?_
  | with_reducible refine r_neI ?_
  | with_reducible refine r_isB ?_
  | with_reducible refine r_notB ?_
  | with_reducible refine i_t ?_
  | with_reducible refine i_f ?_
  | with_reducible refine i_nt ?_
  | with_reducible refine i_nf ?_
  | ((with_reducible refine' r_I ?hc ?_); (case hc => walk_at "cond"))
  | (with_reducible refine .inl ⟨_, rfl, ?_⟩)
  | (with_reducible refine ⟨_, rfl, ?_⟩)
  | ((with_reducible refine' r_ixL ?hx ?ha ?_); (case hx => walk_at "at"); (case ha => rfl))
  | ((with_reducible refine' r_ixT ?hx ?ha ?_); (case hx => walk_at "at"); (case ha => rfl))
  | ((with_reducible refine' r_setL ?hx ?ha ?_); (case hx => walk_at "at"); (case ha => rfl); intro H2 k2 h2; (try dsimp only [List.set, Int.toNat] at h2))
  | ((with_reducible refine' r_app ?hx ?hl ?_); (case hx => walk_at "at"); (case hl => first | exact Nat.lt_of_ble_eq_true rfl | omega); intro H2 k2 h2)
  | ((with_reducible refine' ty_list ?hx ?_); (case hx => walk_at "at"))
  | (refine And.intro (by (with_reducible show _ ≤ sizeLine); walk_at "sz") ?_; walk_at "new")
  | with_reducible refine s_exv ?_
  | walk_at "newx")
local macro_rules | `(tactic| walk_at "sx") => `(tactic| repeat (walk_at "s1"))
local macro_rules | `(tactic| walk_at "s2") => `(tactic| first
  | ((with_reducible refine' r_ixG ?hx ?hn ?_); (case hx => walk_at "at"); (case hn => omega))
  | ((with_reducible refine' r_ixGT ?hx ?hn ?_); (case hx => walk_at "at"); (case hn => omega))
  | (with_reducible refine ig_cons (fun hix => ?_) (fun hix => ?_))
  | ((with_reducible refine ig_nil ?_); omega)
  | ((with_reducible refine' i_T ?hc ?_); (case hc => omega))
  | ((with_reducible refine' i_F ?hc ?_); (case hc => omega))
  | (with_reducible refine i_2 (fun hc => ?_) (fun hc => ?_))
  | (with_reducible refine i_n2 (fun hc => ?_) (fun hc => ?_)))
local macro_rules | `(tactic| walk_at "go") => `(tactic| repeat' (first | walk_at "s1" | walk_at "s2"))

local macro_rules | `(tactic| walk_at "s1") => `(tactic| first
  | with_reducible refine s_chain ?_
  | with_reducible refine s_fldS ?_
  | with_reducible refine s_fld ?_
  | with_reducible refine s_dIn ?_
  | with_reducible refine s_dNotIn ?_
  | with_reducible refine s_sl ?_
  | with_reducible refine s_noPart ?_
  | with_reducible refine s_part ?_
  | with_reducible refine s_meth ?_
  | with_reducible refine s_make ?_)

local macro_rules | `(tactic| walk_at "s1") => `(tactic| first
  | with_reducible refine s_m1 ?_
  | with_reducible refine s_strE ?_
  | with_reducible refine s_js ?_
  | with_reducible refine s_js0 ?_
  | with_reducible refine s_fmt ?_)
section
variable {P : Program} {w : World} {K : PySem.W.Frag} {mg : Str → Option Value} {base : Heap} {A : Ad}
theorem s_callKS2 {σ : L2.St} {H : Hp} {Q : VK} {sp : Sp} {gV : List V → List V → List V} {E : L2.St → XK} {tk : TA} (h : tk σ H fun zs H2 => sp (gV [] zs) H2 Q (E σ)) : tCallKS sp gV E tk σ H Q := h
theorem in_strS {H : Hp} (z : Str) : IsIn K H (.str z) "str" true := ⟨_, .inl (.base (.str z)), kit_ty (by decide +kernel)⟩
theorem fine_some {t : Str} {n : Nat} {rs : List (List Int)} (h : fine t = some (n, rs)) : (told (Txt.split t nl)).2 = some (n, rs) := by
  unfold fine at h
  split at h
  · exact h
  · cases h
def spAsk (C : Addr) : Sp := fun vs H Q _ => ∃ t : Str, vs = [.str t] ∧ t.length < 400 ∧ ∀ H', Same H H' → Q (.bl true) H'
theorem ok_ask (T : Txt P K mg A) : FnOk P w K mg base CX0 9 A.a__law_asked A.d__law_asked ["text"] (spAsk A.c_Rules) := by
  refine T.F__law_asked.ok sc__law_asked (fun vs H Q E h => ?_) (fun cdv A' outer s H vs Q E hr h => ?_)
  · obtain ⟨t, rfl, _⟩ := h
    rfl
  · obtain ⟨t, rfl, lt, q⟩ := h
    have G__law_read := ok_rd (w := w) (base := base) T
    have G_read_rules := ok_read (w := w) (base := base) T
    have G__law_is_integer := ok_ii (w := w) (base := base) T
    have GH__law_is_integer := ok_iiH (w := w) (base := base) T
    have G__law_same_rows := ok_sameR (w := w) (base := base) T
    have lkT : List.lookup ("text" : Str) [(("text" : Str), V.str t), (("at" : Str), V.int (wrongAt t : Nat))] = some (V.str t) := by simp [List.lookup]
    have lkA : List.lookup ("at" : Str) [(("text" : Str), V.str t), (("at" : Str), V.int (wrongAt t : Nat))] = some (V.int (wrongAt t : Nat)) := by
      have e : (("at" : Str) == ("text" : Str)) = false := by decide +kernel
      simp [List.lookup, e]
    refine ⟨_, (pss_cons (ps_set (i := 1) sc__law_asked.nd rfl (Or.inl rfl) (pe_call G__law_read (hr.mono (by decide)) rfl T.g__law_read T.F__law_read.kp (B__law_read T) .nil pass0 (pa_cons (pv 0) pa_nil)))
  (pss_cons (ps_if (pt_cmpR op_eq (pe_callB call_len (by rfl) T.n_len (by decide +kernel) (pa_cons (pv 1) pa_nil)) pe_int (nomark _)) (pss_cons (ps_set (i := 2) sc__law_asked.nd rfl (Or.inl rfl) (pe_call G_read_rules (hr.mono (by decide)) rfl T.g_read_rules T.F_read_rules.kp (B_read_rules T) .nil passN (pa_cons (pv 0) pa_nil)))
  (pss_cons (ps_if (PW.pt (pw_or (pt_not (pt_val (pe_callB (id := "isinstance") (r := rIsiV K) call_isiV (by rfl) T.n_isinstance (by decide +kernel) (pa_cons (pv 2) (pa_cons (pe_glob (v := .ref A.c_Rules) rfl T.g_Rules rfl) pa_nil))))) (pw_or1 (pt_not (pt_val (pe_call G__law_is_integer (hr.mono (by decide)) rfl T.g__law_is_integer T.F__law_is_integer.kp (B__law_is_integer T) .nil pass0 (pa_cons (pe_fld (pv 2) rfl) (pa_cons (pe_ix (r := rIx K) ix_seq (pv 1) pe_int (fun _ _ => rfl)) pa_nil)))))))) (pss_one (ps_ret pe_bl)) pss_nil)
  (pss_one (ps_ret (pe_call G__law_same_rows (hr.mono (by decide)) rfl T.g__law_same_rows T.F__law_same_rows.kp (B__law_same_rows T) .nil pass0 (pa_cons (pe_fld (pv 2) rfl) (pa_cons (pe_ix (r := rIx K) ix_seq (pv 1) pe_int (fun _ _ => rfl)) pa_nil))))))) pss_nil)
  (pss_cons (L2N.ps_try_as (i := 3) rfl rfl sc__law_asked.nd rfl rfl ⟨rfl, by decide, .inl T.g_InvalidText⟩ takesN0 (fun W pn xe tk _ => (pss_one (ps_expr (pe_kwS0 G_read_rules (hr.mono (by decide)) rfl T.g_read_rules T.F_read_rules.kp (KB_read_rules_text T) (fun σ => L2N.passAt tk σ) (pk_cons (pv 0) pk_nil)))))
  (fun a oe cls d pn hz hf => (pss_one (ps_ret (pe_and (pe_callB (id := "isinstance") (r := rIsiV K) call_isiV (by rfl) T.n_isinstance (by decide +kernel) (pa_cons (pe_xf T.X_InvalidText.xf T.X_InvalidText.noN hz.zc hf (pv 3)) (pa_cons (pe_bltn (v := .ty "str") (u := .type "str") (by rfl) T.n_str (by decide +kernel) rfl) pa_nil))) (pe_and (pe_cmpR op_eq (pe_xf T.X_InvalidText.xf T.X_InvalidText.noN hz.zc hf (pv 3)) (pv 0) (nomark _)) (pe_one (L2H.pe_callH GH__law_is_integer (roomS (hr.mono (by decide))) (hotS hz hf) rfl T.g__law_is_integer T.F__law_is_integer.kp (B__law_is_integer T) (fun _ => L2.passH (E := E0)) (pa_cons (pe_xf T.X_InvalidText.xf T.X_InvalidText.noM hz.zc hf (pv 3)) (pa_cons (pe_ix (r := rIx K) ix_seq (pv 1) pe_int (fun _ _ => rfl)) pa_nil))))))))))
  (pss_one (ps_ret pe_bl))))), ?_⟩
    walk_at "sx"
    refine ⟨t, rfl, lt, fun l H1 s1 rd => ?_⟩
    rcases rd with ⟨hf, hl0⟩ | ⟨n, rs, D, ls, hf, hl0, hD, rl, el⟩
    · have hl : True → H1 l = some (.lst [.int (wrongAt t : Nat)]) := fun _ => hl0
      clear hl0
      walk_at "sx"
      refine ⟨_, _, rfl, .inl ⟨_, SqL.of (hl trivial), rfl⟩, ?_⟩
      walk_at "sx"
      refine i_F (fun e => by simp at e) ?_
      walk_at "sx"
      refine s_callKS2 ?_
      walk_at "sx"
      refine ⟨t, rfl, lt, fun n rs y H' ks e => (by rw [hf] at e; cases e), fun _ H2 e s2 he => ?_⟩
      have hl2 : True → H2 l = some (.lst [.int (wrongAt t : Nat)]) := fun _ => s2 _ _ (hl trivial)
      generalize hE : upd H2 e _ = H3
      have s3 := new_same he hE
      have h3 : H3 e = some (.xd [(("text" : Str), V.str t), (("at" : Str), V.int (wrongAt t : Nat))]) := new_at hE
      clear hE
      refine ⟨true, T.X_InvalidText.te, fun _ z hz => ?_, fun z => Bool.noConfusion z⟩
      walk_at "sx"
      refine ⟨_, rfl, rfl, rfl, e, _, _, rfl, h3, lkT, ?_⟩
      walk_at "sx"
      refine isi_in (in_strS t) ?_
      walk_at "sx"
      refine ⟨_, rfl, rfl, rfl, e, _, _, rfl, h3, lkT, ?_⟩
      walk_at "sx"
      refine r_eq rfl ?_
      rw [decide_eq_true rfl]
      walk_at "sx"
      refine ⟨_, rfl, rfl, rfl, e, _, _, rfl, h3, lkA, ?_⟩
      walk_at "sx"
      refine r_ixL (s3 _ _ (hl2 trivial)) (v := .int (wrongAt t : Nat)) rfl ?_
      walk_at "sx"
      exact ⟨_, rfl, q H3 (s1.trans (s2.trans s3))⟩
    · have hl : True → H1 l = some (.lst [.int (n : Nat), .ref D]) := fun _ => hl0
      clear hl0
      walk_at "sx"
      refine ⟨_, _, rfl, .inl ⟨_, SqL.of (hl trivial), rfl⟩, ?_⟩
      walk_at "sx"
      refine i_T (by rfl) ?_
      walk_at "sx"
      refine ⟨t, rfl, lt, fun n' rs' y H2 ks e s2 ru ek => ?_, fun e => by rw [hf] at e; cases e⟩
      rw [hf] at e
      cases e
      have hto := fine_some hf
      obtain ⟨-, -, -, hsz⟩ := told_some hto
      have sn := (szOf_some hsz).1
      have cap := cap_of lt hto
      obtain ⟨dy, tt, kn, g1, g2, g3, rows, asc, ne, sz⟩ := id ru
      have hl2 : True → H2 l = some (.lst [.int (n : Nat), .ref D]) := fun _ => s2 _ _ (hl trivial)
      walk_at "sx"
      refine T.o_Rules.own g1 ?_
      walk_at "sx"
      refine r_get rfl g1 T.cl_Rules T.no_Rules_size rfl ?_
      walk_at "sx"
      refine r_ixL (hl2 trivial) (v := .int (n : Nat)) rfl ?_
      walk_at "sx"
      refine ⟨_, rfl, ?_⟩
      walk_at "sx"
      refine r_get rfl g1 T.cl_Rules T.no_Rules_rows rfl ?_
      walk_at "sx"
      refine r_ixL (hl2 trivial) (v := .ref D) rfl ?_
      walk_at "sx"
      exact ⟨tt, D, n, ks, ls, rfl, g2, s2 _ _ hD, rows, rl.same s2, ek.trans el.symm, sn, by
        have e := congrArg List.length el
        rw [List.length_map] at e
        omega, q H2 (s1.trans s2)⟩
end
end K09

set_option Elab.async false
set_option linter.all false
set_option maxRecDepth 100000
set_option maxHeartbeats 4000000
namespace K09
open PySem L2 Sx TL
local macro_rules | `(tactic| walk_at "cond") => `(tactic| first
  | assumption
  | decide
  | exact c_mul_r (by first | decide | omega) (by first | decide | omega)
  | exact c_mul_l (by first | decide | omega) (by first | decide | omega)
  | exact c_div (by first | decide | omega) (by first | decide | omega)
  | exact c_pow (by first | decide | omega) (by first | decide | omega) (by first | decide | omega)
  | omega)
local macro_rules | `(tactic| walk_at "ne") => `(tactic| first
  | assumption
  | (refine Ne.symm ?_; assumption)
  | (refine' Flow.ne ?nh ?nn; (case nn => assumption); (case nh => walk_at "fl"))
  | (refine Ne.symm ?_; refine' Flow.ne ?nh ?nn; (case nn => assumption); (case nh => walk_at "fl"))
  | (refine' ne_of_none ?nh ?nn; (case nn => assumption); (case nh => walk_at "at"))
  | (refine Ne.symm ?_; refine' ne_of_none ?nh ?nn; (case nn => assumption); (case nh => walk_at "at")))
local macro_rules | `(tactic| walk_at "at") => `(tactic| first
  | assumption
  | (refine Same.up (by assumption) ?_; walk_at "at")
  | (refine Keep.up (by assumption) (by walk_at "ne") ?_; walk_at "at"))
local macro_rules | `(tactic| walk_at "fl") => `(tactic| first
  | assumption
  | (refine Flow.same (by assumption) ?_; walk_at "fl")
  | (refine Flow.keep (by assumption) (by walk_at "ne") ?_; walk_at "fl"))
local macro_rules | `(tactic| walk_at "fr") => `(tactic| first
  | assumption
  | (refine same_free (by assumption) ?_; walk_at "fr")
  | (refine Keep.free (by assumption) (by walk_at "ne") ?_; walk_at "fr"))
local macro_rules | `(tactic| walk_at "kp") => `(tactic| first
  | assumption
  | exact Keep.refl _ _
  | (refine Keep.trans ?_ (by assumption); walk_at "kp")
  | (refine Keep.trans ?_ (Keep.same (by assumption)); walk_at "kp"))
local macro_rules | `(tactic| walk_at "sm") => `(tactic| first
  | assumption
  | exact L2.Same.refl _
  | (refine L2.Same.trans ?_ (by assumption); walk_at "sm"))
local macro_rules | `(tactic| walk_at "sz") => `(tactic| first | exact Nat.le_of_ble_eq_true rfl | omega)
local macro_rules | `(tactic| walk_at "new") => `(tactic| (intro p np; generalize hE : upd _ p _ = H2; have s2 := new_same np hE; have h2 := new_at hE; clear hE))
local macro_rules | `(tactic| walk_at "newx") => `(tactic| (intro e d na nd hda; generalize hE : upd (upd _ d _) e _ = H2; have s2 := newx_same na nd hE; have h2 := newx_at hE; have h3 := newx_d hda hE; clear hE))
local macro_rules | `(tactic| walk_at "s1") => `(tactic| first
  | with_reducible refine s_seq ?_
  | with_reducible refine s_asg ?_
  | with_reducible refine s_name ?_
  | with_reducible refine s_ret ?_
  | with_reducible refine s_c ?_
  | ((with_reducible refine' s_var ?hv ?_); (case hv => rfl))
  | with_reducible refine s_op ?_
  | with_reducible refine s_un ?_
  | with_reducible refine s_ifS ?_
  | with_reducible refine s_cb ?_
  | with_reducible refine s_cons ?_
  | with_reducible refine s_nil ?_
  | with_reducible refine s_call ?_
  | with_reducible refine s_test ?_
  | with_reducible refine s_tB ?_
  | with_reducible refine s_bl ?_
  | with_reducible refine s_and ?_
  | with_reducible refine s_or ?_
  | with_reducible refine s_not ?_
  | with_reducible refine s_andV ?_
  | with_reducible refine s_orV ?_
  | with_reducible refine s_notV ?_
  | with_reducible refine s_blV ?_
  | with_reducible refine s_if ?_
  | with_reducible refine s_tup ?_
  | with_reducible refine s_lst ?_
  | with_reducible refine s_drop ?_
  | with_reducible refine s_next ?_
  | with_reducible refine s_sub ?_
  | with_reducible refine s_bm ?_
  | with_reducible refine s_callK ?_
  | with_reducible refine s_brk ?_
  | with_reducible refine s_cont ?_
  | with_reducible refine r_I0 ?_
  | with_reducible refine r_U ?_
  | with_reducible refine r_eqI ?_
  | with_reducible refine r_neI ?_
  | with_reducible refine r_isB ?_
  | with_reducible refine r_notB ?_
  | with_reducible refine i_t ?_
  | with_reducible refine i_f ?_
  | with_reducible refine i_nt ?_
  | with_reducible refine i_nf ?_
  | ((with_reducible refine' r_I ?hc ?_); (case hc => walk_at "cond"))
  | (with_reducible refine .inl ⟨_, rfl, ?_⟩)
  | (with_reducible refine ⟨_, rfl, ?_⟩)
  | ((with_reducible refine' r_ixL ?hx ?ha ?_); (case hx => walk_at "at"); (case ha => rfl))
  | ((with_reducible refine' r_ixT ?hx ?ha ?_); (case hx => walk_at "at"); (case ha => rfl))
  | ((with_reducible refine' r_setL ?hx ?ha ?_); (case hx => walk_at "at"); (case ha => rfl); intro H2 k2 h2; (try dsimp only [List.set, Int.toNat] at h2))
  | ((with_reducible refine' r_app ?hx ?hl ?_); (case hx => walk_at "at"); (case hl => first | exact Nat.lt_of_ble_eq_true rfl | omega); intro H2 k2 h2)
  | ((with_reducible refine' ty_list ?hx ?_); (case hx => walk_at "at"))
  | (refine And.intro (by (with_reducible show _ ≤ sizeLine); walk_at "sz") ?_; walk_at "new")
  | with_reducible refine s_exv ?_
  | walk_at "newx")
local macro_rules | `(tactic| walk_at "sx") => `(tactic| repeat (walk_at "s1"))
local macro_rules | `(tactic| walk_at "s2") => `(tactic| first
  | ((with_reducible refine' r_ixG ?hx ?hn ?_); (case hx => walk_at "at"); (case hn => omega))
  | ((with_reducible refine' r_ixGT ?hx ?hn ?_); (case hx => walk_at "at"); (case hn => omega))
  | (with_reducible refine ig_cons (fun hix => ?_) (fun hix => ?_))
  | ((with_reducible refine ig_nil ?_); omega)
  | ((with_reducible refine' i_T ?hc ?_); (case hc => omega))
  | ((with_reducible refine' i_F ?hc ?_); (case hc => omega))
  | (with_reducible refine i_2 (fun hc => ?_) (fun hc => ?_))
  | (with_reducible refine i_n2 (fun hc => ?_) (fun hc => ?_)))
local macro_rules | `(tactic| walk_at "go") => `(tactic| repeat' (first | walk_at "s1" | walk_at "s2"))

local macro_rules | `(tactic| walk_at "s1") => `(tactic| first
  | with_reducible refine s_chain ?_
  | with_reducible refine s_fldS ?_
  | with_reducible refine s_fld ?_
  | with_reducible refine s_dIn ?_
  | with_reducible refine s_dNotIn ?_
  | with_reducible refine s_sl ?_
  | with_reducible refine s_noPart ?_
  | with_reducible refine s_part ?_
  | with_reducible refine s_meth ?_
  | with_reducible refine s_make ?_)

local macro_rules | `(tactic| walk_at "s1") => `(tactic| first
  | with_reducible refine s_m1 ?_
  | with_reducible refine s_strE ?_
  | with_reducible refine s_js ?_
  | with_reducible refine s_js0 ?_
  | with_reducible refine s_fmt ?_)
theorem ix10 {d : Int} (l : 0 ≤ d) (u : d < 10) : ∃ s : Nat, s ≤ 4 ∧ atI [V.int 4, .int 3, .int 2, .int 4, .int 3, .int 1, .int 4, .int 3, .int 2, .int 0] d = some (.int s) := by
  have h : d = 0 ∨ d = 1 ∨ d = 2 ∨ d = 3 ∨ d = 4 ∨ d = 5 ∨ d = 6 ∨ d = 7 ∨ d = 8 ∨ d = 9 := by omega
  rcases h with rfl | rfl | rfl | rfl | rfl | rfl | rfl | rfl | rfl | rfl
  · exact ⟨4, by decide, rfl⟩
  · exact ⟨3, by decide, rfl⟩
  · exact ⟨2, by decide, rfl⟩
  · exact ⟨4, by decide, rfl⟩
  · exact ⟨3, by decide, rfl⟩
  · exact ⟨1, by decide, rfl⟩
  · exact ⟨4, by decide, rfl⟩
  · exact ⟨3, by decide, rfl⟩
  · exact ⟨2, by decide, rfl⟩
  · exact ⟨0, by decide, rfl⟩
/-- the places of what is true, among the first i -/
def trues (bs : List Bool) (i : Nat) : List Nat := (List.range i).filter fun k => bs[k]? == some true
theorem trues_succ (bs : List Bool) (i : Nat) : trues bs (i + 1) = trues bs i ++ (if bs[i]? == some true then [i] else []) := by
  unfold trues
  rw [List.range_succ, List.filter_append, List.filter_cons, List.filter_nil]
theorem trues_le (bs : List Bool) (i : Nat) : (trues bs i).length ≤ i := by
  have := List.length_filter_le (fun k => bs[k]? == some true) (List.range i)
  rw [List.length_range] at this
  exact this
theorem trues_lt {bs : List Bool} {i x : Nat} (h : x ∈ trues bs i) : x < i := List.mem_range.mp (List.mem_filter.mp h).1
theorem trues_asc (bs : List Bool) (i : Nat) : (trues bs i).Pairwise (· < ·) := List.Pairwise.filter _ List.pairwise_lt_range
theorem trues_len (bs : List Bool) : ∀ i, (trues bs i).length = (bs.take i).count true
  | 0 => rfl
  | i + 1 => by
    rw [trues_succ, List.length_append, trues_len bs i, List.take_succ, List.count_append]
    cases h : bs[i]? with
    | none => simp
    | some b => cases b <;> simp
theorem count_set : ∀ (bs : List Bool) (e : Nat), (bs.set e true).count true ≤ bs.count true + 1
  | [], _ => by simp
  | b :: bs, 0 => by
    rw [List.set_cons_zero, List.count_cons, List.count_cons]
    simp
  | b :: bs, e + 1 => by
    rw [List.set_cons_succ, List.count_cons, List.count_cons]
    have := count_set bs e
    omega
theorem ix_in {n j : Nat} (h : j < n) : ixN n (j : Int) = some j := by
  unfold ixN
  rw [if_pos (Int.natCast_nonneg j), if_pos (by omega), Int.toNat_natCast]
theorem keep_new {a D : Addr} {H H8 H9 : Hp} (k : Keep a H H8) (n : H D = none) (k9 : Keep D H8 H9) : Keep a H H9 := fun b o hb h => k9 b o (ne_of_none h n) (k b o hb h)
/-- one bool more in the list at D -/
theorem bools_step {a D : Addr} {H H' H2 : Hp} {bs : List Bool} {b : Bool} {i : Nat} (hDa : a ≠ D) (hD : H D = none) (hD' : H' D = some (.lst (bs.map V.bl))) (F : Flow H2 a) (K' : Keep a H H') (K2 : Keep a H' H2) (lb : bs.length = i) (sz : i < 1000) :
    ∃ acc, H2 D = some (.lst acc) ∧ acc.length < sizeLine ∧ Flow (upd H2 D (.lst (acc ++ [V.bl b]))) a ∧ Keep a H (upd H2 D (.lst (acc ++ [V.bl b]))) ∧ ∃ bs' : List Bool, upd H2 D (.lst (acc ++ [V.bl b])) D = some (.lst (bs'.map V.bl)) ∧ bs'.length = i + 1 := by
  refine ⟨_, K2 _ _ hDa.symm hD', ?_, F.keep (put_keep rfl) hDa, keep_new (K'.trans K2) hD (put_keep rfl), bs ++ [b], ?_, ?_⟩
  · rw [List.length_map, lb]
    show i < 16777216
    omega
  · rw [upd_same, List.map_append]
    rfl
  · rw [List.length_append, lb]
    rfl
theorem ix9 {n : Nat} (h : n ≤ 8) : atI [V.int 1, .int 2, .int 4, .int 8, .int 16, .int 32, .int 64, .int 128, .int 256] (n : Int) = some (.int (2 ^ n : Nat)) := by
  have hn : n = 0 ∨ n = 1 ∨ n = 2 ∨ n = 3 ∨ n = 4 ∨ n = 5 ∨ n = 6 ∨ n = 7 ∨ n = 8 := by omega
  rcases hn with rfl | rfl | rfl | rfl | rfl | rfl | rfl | rfl | rfl <;> rfl
section
variable {P : Program} {w : World} {K : PySem.W.Frag} {mg : Str → Option Value} {base : Heap} {A : Ad}
theorem r_ixSn {K : PySem.W.Frag} {i : Nat} {H : Hp} {Q : VK} (h : i < 9) (q : Q (.str ⟨#[48 + i]⟩) H) : rIx K (.str (Str.ofString "012345678")) (.int (i : Int)) H Q := by
  have z := r_ixS9 (K := K) h q
  rwa [Int.zero_add] at z
theorem r_ix01 {K : PySem.W.Frag} {m : Int} {H : Hp} {Q : VK} (q : Q (.str ⟨#[48 + (m % 2).toNat]⟩) H) : rIx K (.str (Str.ofString "01")) (.int (m % 2)) H Q := by
  refine .inr (.inr ⟨Str.ofString "01", _, 48 + (m % 2).toNat, rfl, rfl, by rw [sizeLine_eq]; decide +kernel, ?_, q⟩)
  have h : m % 2 = 0 ∨ m % 2 = 1 := by omega
  rcases h with h | h <;> rw [h] <;> decide +kernel
def spLines : Sp := fun vs H Q _ => ∃ a, vs = [.ref a] ∧ Flow H a ∧ ∀ (l : Addr) (ls : List Str) H', Flow H' a → Keep a H H' → H' l = some (.lst (ls.map V.str)) → ls.length ≤ 17 → (∀ s ∈ ls, s.length ≤ 13) → Q (.ref l) H'
theorem ok_lines (T : Txt P K mg A) : FnOk P w K mg base CX0 2 A.a__law_lines A.d__law_lines ["flow"] spLines := by
  refine T.F__law_lines.ok sc__law_lines (fun vs H Q E h => ?_) (fun cdv A' outer s H vs Q E hr h => ?_)
  · obtain ⟨a, rfl, _⟩ := h
    rfl
  · obtain ⟨a, rfl, hF, k⟩ := h
    have G__law_take := ok_take (w := w) (base := base) T
    have fin : ∀ (n pp : Nat) (pk : Addr) (bs : List Bool) (H6 : Hp) (v3 v5 v6 v7 : Option V), n ≤ 8 → pp = 2 ^ n → bs.length = pp → bs.count true ≤ 16 → Flow H6 a → Keep a H H6 → H6 pk = some (.lst (bs.map V.bl)) →
        (tSeq (tAsg (tLst (tCons (tOp (fun x y H Q => ∃ i j, x = V.str i ∧ y = V.str j ∧ i.length + j.length ≤ sizeLine ∧ Q (V.str (i ++ j)) H) (tC (V.str (Str.ofString "points "))) (tOp (rIx K) (tC (V.str (Str.ofString "012345678"))) (tVar 1))) tNil)) (gName 5))
          (tSeq (tFor (iRng1 (tCons (tVar 2) tNil)) (gName 6)
              (tIfS (tB (tOp (rIx K) (tVar 4) (tVar 6)))
                (tSeq (tAsg (tC (V.str (Str.ofString ""))) (gName 7))
                  (tSeq (tFor (iRng1 (tCons (tVar 1) tNil)) (gName 3)
                      (tSeq (tAsg (tOp (fun x y H Q => ∃ i j, x = V.str i ∧ y = V.str j ∧ i.length + j.length ≤ sizeLine ∧ Q (V.str (i ++ j)) H)
                            (tOp (rIx K) (tC (V.str (Str.ofString "01"))) (tOp (rI (fun x j => 0 < j) fun i j => V.int (i % j)) (tCB (fun xs H Q => (∃ i, xs = [V.int i] ∧ Q (V.int i) H) ∨ ∃ k, xs = [V.bl k] ∧ Q (V.int (if k = true then 1 else 0)) H) (tCons (tVar 6) tNil)) (tC (V.int 2))))
                            (tVar 7)) (gName 7))
                        (tAsg (tOp (rI CDiv fun i j => V.int (i / j)) (tVar 6) (tC (V.int 2))) (gName 6))))
                    (tSeq (tIfS (tTest (tOp rEq (tVar 1) (tC (V.int 0)))) (tAsg (tC (V.str (Str.ofString "-"))) (gName 7)) tNext)
                      (tDrop (tBM K "list" rAppend (tVar 5) (tCons (tOp (fun x y H Q => ∃ i j, x = V.str i ∧ y = V.str j ∧ i.length + j.length ≤ sizeLine ∧ Q (V.str (i ++ j)) H) (tC (V.str (Str.ofString "rule "))) (tVar 7)) tNil))))))
                tNext))
            (tRet (tVar 5)))
          { nx := fun _ H' => Q V.non H', rt := Q }) [some (.ref a), some (.int n), some (.int pp), v3, some (.ref pk), v5, v6, v7] H6 := by
      intro n pp pk bs H6 v3 v5 v6 v7 sn epp lb cb F6 K6 h6
      have p8 : pp ≤ 256 := by
        rw [epp]
        exact Nat.pow_le_pow_right (n := 2) (by decide) sn
      walk_at "sx"
      refine r_ixSn (by omega) ?_
      walk_at "sx"
      refine ⟨_, _, rfl, rfl, len_p1 n, ?_⟩
      walk_at "sx"
      rename_i pl npl H7 s7 h7
      have lpl : (Str.ofString "points " ++ (⟨#[48 + n]⟩ : Str)).length ≤ 13 := by
        rw [app_len, show (Str.ofString "points ").length = 7 by decide +kernel]
        show 7 + 1 ≤ 13
        omega
      have hka : pk ≠ pl := fun e => by rw [← e, h6] at npl; cases npl
      have npl0 : H pl = none := Keep.free K6 (F6.ne npl).symm npl
      refine ⟨_, rfl, _, rfl, by omega, by omega, for_range (lo := 0) (n := pp) (fun i σ H8 => Flow H8 a ∧ Keep a H H8 ∧ (True → H8 pk = some (.lst (bs.map V.bl))) ∧ ∃ (ls : List Str) (w3 w6 w7 : Option V), (True → H8 pl = some (.lst (ls.map V.str))) ∧ ls.length ≤ (bs.take i).count true + 1 ∧ (∀ s ∈ ls, s.length ≤ 13) ∧ σ = [some (.ref a), some (.int n), some (.int pp), w3, some (.ref pk), some (.ref pl), w6, w7]) ?_ ?_ ?_⟩
      · exact ⟨F6.same s7, K6.trans (Keep.same s7), fun _ => s7 _ _ h6, [Str.ofString "points " ++ (⟨#[48 + n]⟩ : Str)], _, _, _, fun _ => h7, by simp, fun s hs => by rw [List.mem_singleton.mp hs]; exact lpl, rfl⟩
      · rintro i σ H8 hi ⟨F8, K8, hb, ls, w3, w6, w7, hl, ll, lm, rfl⟩
        have hx : bs[i]? = some bs[i] := List.getElem?_eq_getElem (by omega)
        have et : (bs.take (i + 1)).count true = (bs.take i).count true + (if bs[i] = true then 1 else 0) := by
          rw [List.take_succ, hx, List.count_append]
          cases bs[i] <;> simp
        have lsz : ls.length ≤ 17 := by
          have := List.Sublist.count_le true (List.take_sublist i bs)
          omega
        refine s_name ?_
        walk_at "s1"
        walk_at "s1"
        refine s_var rfl ?_
        refine s_var rfl ?_
        refine r_ixL (hb trivial) (v := .bl bs[i]) (by rw [Int.zero_add]; exact atI_nat (by rw [List.getElem?_map, hx]; rfl)) ?_
        refine ⟨_, rfl, ?_⟩
        refine i_b2 (fun hb1 => ?_) (fun hb1 => ?_)
        · rw [hb1, if_pos rfl] at et
          walk_at "sx"
          refine ⟨_, rfl, _, rfl, by omega, by omega, for_range (lo := 0) (n := n) (fun j σ H9 => H9 = H8 ∧ ∃ (m : Int) (fg : Str) (u3 : Option V), 0 ≤ m ∧ fg.length = j ∧ σ = [some (.ref a), some (.int n), some (.int pp), u3, some (.ref pk), some (.ref pl), some (.int m), some (.str fg)]) ⟨rfl, _, _, _, by omega, by decide +kernel, rfl⟩ ?_ ?_⟩
          · rintro j σ H9 hj ⟨rfl, m, fg, u3, hm, lf, rfl⟩
            walk_at "sx"
            refine r_ix01 ?_
            walk_at "sx"
            refine ⟨_, _, rfl, rfl, by rw [lf, sizeLine_eq]; show 1 + j ≤ 16777216; omega, ?_⟩
            walk_at "sx"
            refine ⟨rfl, m / 2, _, _, by omega, ?_, rfl⟩
            rw [app_len, lf]
            show 1 + j = j + 1
            omega
          · rintro σ H9 ⟨rfl, m, fg, u3, hm, lf, rfl⟩
            have hap : pl ≠ a := F6.ne npl |>.symm
            walk_at "sx"
            refine i_2 (fun c => ?_) (fun c => ?_)
            all_goals
              walk_at "sx"
              refine ty_list (hl trivial) ?_
              walk_at "sx"
              refine ⟨_, _, rfl, rfl, by rw [sizeLine_eq, show (Str.ofString "rule ").length = 5 by decide +kernel]; first | omega | decide +kernel, ?_⟩
              walk_at "sx"
              refine r_app (hl trivial) (by rw [List.length_map, sizeLine_eq]; omega) fun H10 k10 h10 => ?_
              walk_at "sx"
              refine ⟨F8.keep k10 hap.symm, keep_new K8 npl0 k10, fun _ => k10 _ _ hka (hb trivial), ls ++ [_], _, _, _, fun _ => by rw [h10, List.map_append]; rfl, by rw [List.length_append, List.length_singleton]; omega, fun s hs => ?_, rfl⟩
              rcases List.mem_append.mp hs with q | q
              · exact lm s q
              · rw [List.mem_singleton.mp q, app_len, show (Str.ofString "rule ").length = 5 by decide +kernel]
                first | omega | decide +kernel
        · rw [hb1] at et
          walk_at "sx"
          exact ⟨F8, K8, hb, ls, _, _, _, hl, by rw [et]; exact ll, lm, rfl⟩
      · rintro σ H8 ⟨F8, K8, hb, ls, w3, w6, w7, hl, ll, lm, rfl⟩
        walk_at "sx"
        refine k pl ls H8 F8 K8 (hl trivial) ?_ lm
        rw [← lb, List.take_length] at ll
        omega
    refine ⟨_, (pss_cons (ps_set (i := 1) sc__law_lines.nd rfl (Or.inl rfl) (pe_ix (r := rIx K) ix_seq (pe_lst (pa_cons pe_int (pa_cons pe_int (pa_cons pe_int (pa_cons pe_int (pa_cons pe_int (pa_cons pe_int (pa_cons pe_int (pa_cons pe_int (pa_cons pe_int (pa_cons pe_int pa_nil))))))))))) (pe_call G__law_take (hr.mono (by decide)) rfl T.g__law_take T.F__law_take.kp (B__law_take T) .nil pass0 (pa_cons (pv 0) (pa_cons pe_int pa_nil))) (fun _ _ => rfl)))
  (pss_cons (ps_if (pt_cmpR op_eq (pe_call G__law_take (hr.mono (by decide)) rfl T.g__law_take T.F__law_take.kp (B__law_take T) .nil pass0 (pa_cons (pv 0) (pa_cons pe_int pa_nil))) pe_int (nomark _)) (pss_one (ps_set (i := 1) sc__law_lines.nd rfl (Or.inl rfl) (pe_op op_add pe_int (pe_call G__law_take (hr.mono (by decide)) rfl T.g__law_take T.F__law_take.kp (B__law_take T) .nil pass0 (pa_cons (pv 0) (pa_cons pe_int pa_nil)))))) pss_nil)
  (pss_cons (ps_set (i := 2) sc__law_lines.nd rfl (Or.inl rfl) (pe_ix (r := rIx K) ix_seq (pe_lst (pa_cons pe_int (pa_cons pe_int (pa_cons pe_int (pa_cons pe_int (pa_cons pe_int (pa_cons pe_int (pa_cons pe_int (pa_cons pe_int (pa_cons pe_int pa_nil)))))))))) (pv 1) (fun _ _ => rfl)))
  (pss_cons (ps_setLc (i := 4) (own := [("k", 3)]) (g := (gName 3)) (by rfl) sc__law_lines.nd rfl rfl (sw_true rfl rfl rfl (by decide +kernel)) (pi_range1 rfl T.n_range (pa_cons (pv 2) pa_nil)) (blkOk_by (own := [("k", 3)]) (N := ["flow", "size", "full", "k", "kept", "lines", "number", "figures"]) (sc := defScope s__law_lines) (by decide +kernel)) (fun _ _ _ _ _ => (pg_name (i := 3) sc__law_lines.nd rfl (Or.inl rfl))) (fun _ _ _ _ _ => pts_nil) (fun _ _ _ _ _ => pe_bl))
  (pss_cons (ps_if (pt_cmpR op_gt (pv 1) pe_int (nomark _)) (pss_one (ps_for PassesOwn.never rfl (pi_range1 rfl T.n_range (pa_cons (pe_op op_add pe_int (pe_call G__law_take (hr.mono (by decide)) rfl T.g__law_take T.F__law_take.kp (B__law_take T) .nil pass0 (pa_cons (pv 0) (pa_cons pe_int pa_nil)))) pa_nil)) (pg_name (i := 3) sc__law_lines.nd rfl (Or.inl rfl))
  (pss_one (ps_asg pe_bl (pg_sub (pv 4) (pe_call G__law_take (hr.mono (by decide)) rfl T.g__law_take T.F__law_take.kp (B__law_take T) .nil pass0 (pa_cons (pv 0) (pa_cons (pv 2) pa_nil))) set_list))))) (pss_one (ps_setLc (i := 4) (own := [("k", 3)]) (g := (gName 3)) (by rfl) sc__law_lines.nd rfl rfl (sw_true rfl rfl rfl (by decide +kernel)) (pi_range1 rfl T.n_range (pa_cons (pv 2) pa_nil)) (blkOk_by (own := [("k", 3)]) (N := ["flow", "size", "full", "k", "kept", "lines", "number", "figures"]) (sc := defScope s__law_lines) (by decide +kernel)) (fun _ _ _ _ _ => (pg_name (i := 3) sc__law_lines.nd rfl (Or.inl rfl))) (fun _ _ _ _ _ => pts_nil) (fun _ _ _ _ _ => (pe_cmpR op_eq (pe_call G__law_take (hr.mono (by decide)) rfl T.g__law_take T.F__law_take.kp (B__law_take T) .nil pass0 (pa_cons (pv 0) (pa_cons pe_int pa_nil))) pe_int (nomark _))))))
  (pss_cons (ps_set (i := 5) sc__law_lines.nd rfl (Or.inl rfl) (pe_lst (pa_cons (pe_op op_add_str pe_str (pe_ix (r := rIx K) ix_seq pe_str (pv 1) (fun _ _ => rfl))) pa_nil)))
  (pss_cons (ps_for PassesOwn.never rfl (pi_range1 rfl T.n_range (pa_cons (pv 2) pa_nil)) (pg_name (i := 6) sc__law_lines.nd rfl (Or.inl rfl))
  (pss_one (ps_if (pt_val (pe_ix (r := rIx K) ix_seq (pv 4) (pv 6) (fun _ _ => rfl))) (pss_cons (ps_set (i := 7) sc__law_lines.nd rfl (Or.inl rfl) pe_str)
  (pss_cons (ps_for PassesOwn.never rfl (pi_range1 rfl T.n_range (pa_cons (pv 1) pa_nil)) (pg_name (i := 3) sc__law_lines.nd rfl (Or.inl rfl))
  (pss_cons (ps_set (i := 7) sc__law_lines.nd rfl (Or.inl rfl) (pe_op op_add_str (pe_ix (r := rIx K) ix_seq pe_str (pe_op op_mod (pe_callTy call_int1 (by rfl) T.n_int (by decide +kernel) (pa_cons (pv 6) pa_nil)) pe_int) (fun _ _ => rfl)) (pv 7)))
  (pss_one (ps_set (i := 6) sc__law_lines.nd rfl (Or.inl rfl) (pe_op op_fdiv (pv 6) pe_int)))))
  (pss_cons (ps_if (pt_cmpR op_eq (pv 1) pe_int (nomark _)) (pss_one (ps_set (i := 7) sc__law_lines.nd rfl (Or.inl rfl) pe_str)) pss_nil)
  (pss_one (ps_expr (pe_bm PySem.F.plainAttrs_list PySem.F.slot_list_append PySem.F.type_list_append mt_append (pv 5) (pa_cons (pe_op op_add_str pe_str (pv 7)) pa_nil))))))) pss_nil)))
  (pss_one (ps_ret (pv 5)))))))))), ?_⟩
    walk_at "sx"
    rename_i p2 np2 H2 s2 h2
    refine c_take (hF.same s2) (by decide) (by decide) (fun d1 H3 l1 u1 F3 K3 => ?_)
    obtain ⟨z, hz, ez⟩ := ix10 l1 u1
    have h3 := K3 p2 _ (hF.ne np2).symm h2
    refine r_ixL h3 ez ?_
    have K03 : Keep a H H3 := (Keep.same s2).trans K3
    clear h2 h3
    walk_at "sx"
    refine c_take F3 (by decide) (by decide) (fun d2 H4 l2 u2 F4 K4 => ?_)
    have K04 : Keep a H H4 := K03.trans K4
    walk_at "sx"
    refine i_2 (fun c1 => ?_) (fun c1 => ?_)
    · walk_at "sx"
      refine c_take F4 (by decide) (by decide) (fun d4 H5 l4 u4 F5 K5 => ?_)
      obtain ⟨m, rfl⟩ := Int.eq_ofNat_of_zero_le l4
      have e5 : (5 : Int) + (m : Int) = ((5 + m : Nat) : Int) := by omega
      have K05 : Keep a H H5 := K04.trans K5
      obtain ⟨n, hn⟩ : ∃ n, n = 5 + m := ⟨_, rfl⟩
      have sn : n ≤ 8 := by omega
      obtain ⟨pp, epp⟩ : ∃ pp, pp = 2 ^ n := ⟨_, rfl⟩
      have p8 : pp ≤ 256 := by
        rw [epp]
        exact Nat.pow_le_pow_right (n := 2) (by decide) sn
      have p1 : 0 < pp := by
        rw [epp]
        exact Nat.pow_pos (by decide)
      refine r_I0 ?_
      rw [e5, ← hn]
      walk_at "sx"
      rename_i p6 np6 H6 s6 h6
      refine r_ixL h6 (ix9 sn) ?_
      rw [← epp]
      clear h6
      have F5' := F5.same s6
      have K5' : Keep a H H6 := K05.trans (Keep.same s6)
      walk_at "sx"
      refine ⟨_, rfl, _, rfl, by omega, by omega, fun D hD => lc_range (lo := 0) (n := pp) (fun i H' => Same H6 H' ∧ H' D = some (.lst ((List.replicate i false).map V.bl))) ⟨Same.new hD, upd_same⟩ ?_ ?_⟩
      · rintro i H' hi ⟨s', hD'⟩
        refine s_name ⟨rfl, ?_⟩
        refine s_yes (i_t ?_)
        refine s_c ⟨_, hD', ?_, Sx.Same.put s' hD, ?_⟩
        · rw [List.length_map, List.length_replicate]
          show i < 16777216
          omega
        · rw [upd_same, List.replicate_succ', List.map_append]
          rfl
      rintro H' ⟨s', hD'⟩
      have hDa : a ≠ D := (F5').ne hD
      have F6 : Flow H' a := (F5').same s'
      have K6 : Keep a H H' := (K5').trans (Keep.same s')
      have hD0 : H D = none := Keep.free K5' hDa.symm hD
      have hDt : True → H' D = some (.lst ((List.replicate pp false).map V.bl)) := fun _ => hD'
      clear hD'
      walk_at "sx"
      refine i_T (by omega) ?_
      unfold tFor iRng1
      walk_at "sx"
      refine c_take F6 (by decide) (by decide) (fun d6 H7 l6 u6 F7 K7 => ?_)
      obtain ⟨c, rfl⟩ := Int.eq_ofNat_of_zero_le l6
      walk_at "sx"
      refine ⟨by omega, by omega, for_range (lo := 0) (n := 1 + c) (fun i σ H8 => Flow H8 a ∧ Keep a H H8 ∧ (∃ bs : List Bool, (True → H8 D = some (.lst (bs.map V.bl))) ∧ bs.length = pp ∧ bs.count true ≤ i) ∧ ∃ v4, σ = [some (.ref a), some (.int n), some (.int pp), v4, some (.ref D), none, none, none]) ?_ ?_ ?_⟩
      · exact ⟨F7, K6.trans K7, ⟨_, fun _ => K7 _ _ hDa.symm (hDt trivial), List.length_replicate, by rw [List.count_replicate]; simp⟩, none, rfl⟩
      · rintro i σ H8 hi ⟨F8, K8, ⟨bs, hb, lb, cb⟩, v4, rfl⟩
        walk_at "sx"
        refine c_take F8 (by omega) (by omega) (fun d8 H9 l8 u8 F9 K9 => ?_)
        obtain ⟨e, rfl⟩ := Int.eq_ofNat_of_zero_le l8
        have h9 := K9 _ _ hDa.symm (hb trivial)
        have he : e < bs.length := by omega
        refine r_setL h9 (ix_in (by rw [List.length_map]; exact he)) (fun H10 k10 h10 => ?_)
        exact ⟨F9.keep k10 hDa, keep_new (K8.trans K9) hD0 k10, ⟨bs.set e true, fun _ => by rw [h10, List.map_set], by rw [List.length_set]; exact lb, Nat.le_trans (count_set bs e) (by omega)⟩, _, rfl⟩
      · rintro σ H8 ⟨F8, K8, ⟨bs, hb, lb, cb⟩, v4, rfl⟩
        exact fin n pp D bs H8 _ _ _ _ sn epp lb (by omega) F8 K8 (hb trivial)
    · walk_at "sx"
      obtain ⟨pp, epp⟩ : ∃ pp, pp = 2 ^ z := ⟨_, rfl⟩
      have p8 : pp ≤ 16 := by
        rw [epp]
        exact Nat.pow_le_pow_right (n := 2) (by decide) (show z ≤ 4 by omega)
      have p1 : 0 < pp := by
        rw [epp]
        exact Nat.pow_pos (by decide)
      rename_i p6 np6 H6 s6 h6
      refine r_ixL h6 (ix9 (by omega)) ?_
      rw [← epp]
      clear h6
      have F5' := F4.same s6
      have K5' : Keep a H H6 := K04.trans (Keep.same s6)
      walk_at "sx"
      refine ⟨_, rfl, _, rfl, by omega, by omega, fun D hD => lc_range (lo := 0) (n := pp) (fun i H' => Same H6 H' ∧ H' D = some (.lst ((List.replicate i false).map V.bl))) ⟨Same.new hD, upd_same⟩ ?_ ?_⟩
      · rintro i H' hi ⟨s', hD'⟩
        refine s_name ⟨rfl, ?_⟩
        refine s_yes (i_t ?_)
        refine s_c ⟨_, hD', ?_, Sx.Same.put s' hD, ?_⟩
        · rw [List.length_map, List.length_replicate]
          show i < 16777216
          omega
        · rw [upd_same, List.replicate_succ', List.map_append]
          rfl
      rintro H' ⟨s', hD'⟩
      have hDa : a ≠ D := (F5').ne hD
      have F6 : Flow H' a := (F5').same s'
      have K6 : Keep a H H' := (K5').trans (Keep.same s')
      have hD0 : H D = none := Keep.free K5' hDa.symm hD
      have hDt : True → H' D = some (.lst ((List.replicate pp false).map V.bl)) := fun _ => hD'
      clear hD'
      walk_at "sx"
      refine i_F (by omega) ?_
      refine s_asg ?_
      walk_at "sx"
      refine ⟨_, rfl, _, rfl, by omega, by omega, fun D' hD' => lc_range (lo := 0) (n := pp) (fun i H9 => Flow H9 a ∧ Keep a H H9 ∧ ∃ bs : List Bool, H9 D' = some (.lst (bs.map V.bl)) ∧ bs.length = i) ?_ ?_ ?_⟩
      · exact ⟨F6.same (Same.new hD'), K6.trans (Keep.same (Same.new hD')), [], upd_same, rfl⟩
      · rintro i H9 hi ⟨F9, K9, bs, h9, lb⟩
        have hDa' : a ≠ D' := F6.ne hD'
        have hD0' : H D' = none := Keep.free K6 hDa'.symm hD'
        refine s_name ⟨rfl, ?_⟩
        refine s_yes (i_t ?_)
        walk_at "sx"
        refine c_take F9 (by omega) (by omega) (fun e1 H10 l10 u10 F10 K10 => ?_)
        walk_at "sx"
        exact bools_step hDa' hD0' h9 F10 K9 K10 lb (by omega)
      · rintro H9 ⟨F9, K9, bs, h9, lb⟩
        refine s_name ?_
        exact fin z pp D' bs H9 _ _ _ _ (by omega) epp lb (by have := List.count_le_length (a := true) (l := bs); omega) F9 K9 h9
end
end K09

set_option Elab.async false
set_option linter.all false
set_option maxRecDepth 100000
set_option maxHeartbeats 4000000
namespace K09
open PySem L2 Sx TL
local macro_rules | `(tactic| walk_at "cond") => `(tactic| first
  | assumption
  | decide
  | exact c_mul_r (by first | decide | omega) (by first | decide | omega)
  | exact c_mul_l (by first | decide | omega) (by first | decide | omega)
  | exact c_div (by first | decide | omega) (by first | decide | omega)
  | exact c_pow (by first | decide | omega) (by first | decide | omega) (by first | decide | omega)
  | omega)
local macro_rules | `(tactic| walk_at "ne") => `(tactic| first
  | assumption
  | (refine Ne.symm ?_; assumption)
  | (refine' Flow.ne ?nh ?nn; (case nn => assumption); (case nh => walk_at "fl"))
  | (refine Ne.symm ?_; refine' Flow.ne ?nh ?nn; (case nn => assumption); (case nh => walk_at "fl"))
  | (refine' ne_of_none ?nh ?nn; (case nn => assumption); (case nh => walk_at "at"))
  | (refine Ne.symm ?_; refine' ne_of_none ?nh ?nn; (case nn => assumption); (case nh => walk_at "at")))
local macro_rules | `(tactic| walk_at "at") => `(tactic| first
  | assumption
  | (refine Same.up (by assumption) ?_; walk_at "at")
  | (refine Keep.up (by assumption) (by walk_at "ne") ?_; walk_at "at"))
local macro_rules | `(tactic| walk_at "fl") => `(tactic| first
  | assumption
  | (refine Flow.same (by assumption) ?_; walk_at "fl")
  | (refine Flow.keep (by assumption) (by walk_at "ne") ?_; walk_at "fl"))
local macro_rules | `(tactic| walk_at "fr") => `(tactic| first
  | assumption
  | (refine same_free (by assumption) ?_; walk_at "fr")
  | (refine Keep.free (by assumption) (by walk_at "ne") ?_; walk_at "fr"))
local macro_rules | `(tactic| walk_at "kp") => `(tactic| first
  | assumption
  | exact Keep.refl _ _
  | (refine Keep.trans ?_ (by assumption); walk_at "kp")
  | (refine Keep.trans ?_ (Keep.same (by assumption)); walk_at "kp"))
local macro_rules | `(tactic| walk_at "sm") => `(tactic| first
  | assumption
  | exact L2.Same.refl _
  | (refine L2.Same.trans ?_ (by assumption); walk_at "sm"))
local macro_rules | `(tactic| walk_at "sz") => `(tactic| first | exact Nat.le_of_ble_eq_true rfl | omega)
local macro_rules | `(tactic| walk_at "new") => `(tactic| (intro p np; generalize hE : upd _ p _ = H2; have s2 := new_same np hE; have h2 := new_at hE; clear hE))
local macro_rules | `(tactic| walk_at "newx") => `(tactic| (intro e d na nd hda; generalize hE : upd (upd _ d _) e _ = H2; have s2 := newx_same na nd hE; have h2 := newx_at hE; have h3 := newx_d hda hE; clear hE))
local macro_rules | `(tactic| walk_at "s1") => `(tactic| first
  | with_reducible refine s_seq ?_
  | with_reducible refine s_asg ?_
  | with_reducible refine s_name ?_
  | with_reducible refine s_ret ?_
  | with_reducible refine s_c ?_
  | ((with_reducible refine' s_var ?hv ?_); (case hv => rfl))
  | with_reducible refine s_op ?_
  | with_reducible refine s_un ?_
  | with_reducible refine s_ifS ?_
  | with_reducible refine s_cb ?_
  | with_reducible refine s_cons ?_
  | with_reducible refine s_nil ?_
  | with_reducible refine s_call ?_
  | with_reducible refine s_test ?_
  | with_reducible refine s_tB ?_
  | with_reducible refine s_bl ?_
  | with_reducible refine s_and ?_
  | with_reducible refine s_or ?_
  | with_reducible refine s_not ?_
  | with_reducible refine s_andV ?_
  | with_reducible refine s_orV ?_
  | with_reducible refine s_notV ?_
  | with_reducible refine s_blV ?_
  | with_reducible refine s_if ?_
  | with_reducible refine s_tup ?_
  | with_reducible refine s_lst ?_
  | with_reducible refine s_drop ?_
  | with_reducible refine s_next ?_
  | with_reducible refine s_sub ?_
  | with_reducible refine s_bm ?_
  | with_reducible refine s_callK ?_
  | with_reducible refine s_brk ?_
  | with_reducible refine s_cont ?_
  | with_reducible refine r_I0 ?_
  | with_reducible refine r_U ?_
  | with_reducible refine r_eqI ?_
  | with_reducible refine r_neI ?_
  | with_reducible refine r_isB ?_
  | with_reducible refine r_notB ?_
  | with_reducible refine i_t ?_
  | with_reducible refine i_f ?_
  | with_reducible refine i_nt ?_
  | with_reducible refine i_nf ?_
  | ((with_reducible refine' r_I ?hc ?_); (case hc => walk_at "cond"))
  | (with_reducible refine .inl ⟨_, rfl, ?_⟩)
  | (with_reducible refine ⟨_, rfl, ?_⟩)
  | ((with_reducible refine' r_ixL ?hx ?ha ?_); (case hx => walk_at "at"); (case ha => rfl))
  | ((with_reducible refine' r_ixT ?hx ?ha ?_); (case hx => walk_at "at"); (case ha => rfl))
  | ((with_reducible refine' r_setL ?hx ?ha ?_); (case hx => walk_at "at"); (case ha => rfl); intro H2 k2 h2; (try dsimp only [List.set, Int.toNat] at h2))
  | ((with_reducible refine' r_app ?hx ?hl ?_); (case hx => walk_at "at"); (case hl => first | exact Nat.lt_of_ble_eq_true rfl | omega); intro H2 k2 h2)
  | ((with_reducible refine' ty_list ?hx ?_); (case hx => walk_at "at"))
  | (refine And.intro (by (with_reducible show _ ≤ sizeLine); walk_at "sz") ?_; walk_at "new")
  | with_reducible refine s_exv ?_
  | walk_at "newx")
local macro_rules | `(tactic| walk_at "sx") => `(tactic| repeat (walk_at "s1"))
local macro_rules | `(tactic| walk_at "s2") => `(tactic| first
  | ((with_reducible refine' r_ixG ?hx ?hn ?_); (case hx => walk_at "at"); (case hn => omega))
  | ((with_reducible refine' r_ixGT ?hx ?hn ?_); (case hx => walk_at "at"); (case hn => omega))
  | (with_reducible refine ig_cons (fun hix => ?_) (fun hix => ?_))
  | ((with_reducible refine ig_nil ?_); omega)
  | ((with_reducible refine' i_T ?hc ?_); (case hc => omega))
  | ((with_reducible refine' i_F ?hc ?_); (case hc => omega))
  | (with_reducible refine i_2 (fun hc => ?_) (fun hc => ?_))
  | (with_reducible refine i_n2 (fun hc => ?_) (fun hc => ?_)))
local macro_rules | `(tactic| walk_at "go") => `(tactic| repeat' (first | walk_at "s1" | walk_at "s2"))

local macro_rules | `(tactic| walk_at "s1") => `(tactic| first
  | with_reducible refine s_chain ?_
  | with_reducible refine s_fldS ?_
  | with_reducible refine s_fld ?_
  | with_reducible refine s_dIn ?_
  | with_reducible refine s_dNotIn ?_
  | with_reducible refine s_sl ?_
  | with_reducible refine s_noPart ?_
  | with_reducible refine s_part ?_
  | with_reducible refine s_meth ?_
  | with_reducible refine s_make ?_)

local macro_rules | `(tactic| walk_at "s1") => `(tactic| first
  | with_reducible refine s_m1 ?_
  | with_reducible refine s_strE ?_
  | with_reducible refine s_js ?_
  | with_reducible refine s_js0 ?_
  | with_reducible refine s_fmt ?_)
theorem r_ixStr {K : PySem.W.Frag} {S : Str} {d : Int} {H : Hp} {Q : VK} (l : 0 ≤ d) (u : d < S.length) (sz : S.length ≤ sizeLine) (q : ∀ c : Nat, Q (.str ⟨#[c]⟩) H) : rIx K (.str S) (.int d) H Q := by
  obtain ⟨i, rfl⟩ := Int.eq_ofNat_of_zero_le l
  have hi : i < S.cps.toList.length := by
    have : i < S.length := by omega
    simpa [Str.length] using this
  exact .inr (.inr ⟨S, _, S.cps.toList[i], rfl, rfl, sz, atI_nat (List.getElem?_eq_getElem hi), q _⟩)
section
variable {P : Program} {w : World} {K : PySem.W.Frag} {mg : Str → Option Value} {base : Heap} {A : Ad}
def spSign : Sp := fun vs H Q _ => ∃ a, vs = [.ref a] ∧ Flow H a ∧ ∀ (c : Nat) H', Flow H' a → Keep a H H' → Q (.str ⟨#[c]⟩) H'
theorem ok_sign (T : Txt P K mg A) : FnOk P w K mg base CX0 2 A.a__law_sign A.d__law_sign ["flow"] spSign := by
  refine T.F__law_sign.ok sc__law_sign (fun vs H Q E h => ?_) (fun cdv A' outer s H vs Q E hr h => ?_)
  · obtain ⟨a, rfl, _⟩ := h
    rfl
  · obtain ⟨a, rfl, hF, k⟩ := h
    have G__law_take := ok_take (w := w) (base := base) T
    refine ⟨_, (pss_cons (ps_set (i := 1) sc__law_sign.nd rfl (Or.inl rfl) pe_str)
  (pss_cons (ps_if (pt_cmpR op_eq (pe_call G__law_take (hr.mono (by decide)) rfl T.g__law_take T.F__law_take.kp (B__law_take T) .nil pass0 (pa_cons (pv 0) (pa_cons pe_int pa_nil))) pe_int (nomark _)) (pss_one (ps_set (i := 1) sc__law_sign.nd rfl (Or.inl rfl) pe_str)) pss_nil)
  (pss_one (ps_ret (pe_ix (r := rIx K) ix_seq (pv 1) (pe_call G__law_take (hr.mono (by decide)) rfl T.g__law_take T.F__law_take.kp (B__law_take T) .nil pass0 (pa_cons (pv 0) (pa_cons (pe_callB call_len (by rfl) T.n_len (by decide +kernel) (pa_cons (pv 1) pa_nil)) pa_nil))) (fun _ _ => rfl)))))), ?_⟩
    walk_at "sx"
    refine c_take hF (by decide) (by decide) (fun d1 H1 l1 u1 F1 K1 => ?_)
    walk_at "sx"
    refine i_2 (fun c => ?_) (fun c => ?_)
    · walk_at "sx"
      refine ⟨_, 96, rfl, ⟨by rw [sizeLine_eq]; decide +kernel, by decide +kernel⟩, ?_⟩
      walk_at "sx"
      refine c_take F1 (by decide) (by decide) (fun d2 H2 l2 u2 F2 K2 => ?_)
      walk_at "sx"
      exact r_ixStr l2 (Int.lt_of_lt_of_le u2 (by decide +kernel)) (by rw [sizeLine_eq]; decide +kernel) fun c => k c H2 F2 (K1.trans K2)
    · walk_at "sx"
      refine ⟨_, 26, rfl, ⟨by rw [sizeLine_eq]; decide +kernel, by decide +kernel⟩, ?_⟩
      walk_at "sx"
      refine c_take F1 (by decide) (by decide) (fun d2 H2 l2 u2 F2 K2 => ?_)
      walk_at "sx"
      exact r_ixStr l2 (Int.lt_of_lt_of_le u2 (by decide +kernel)) (by rw [sizeLine_eq]; decide +kernel) fun c => k c H2 F2 (K1.trans K2)
end
end K09

set_option Elab.async false
set_option linter.all false
set_option maxRecDepth 100000
set_option maxHeartbeats 4000000
namespace K09
open PySem L2 Sx TL
local macro_rules | `(tactic| walk_at "cond") => `(tactic| first
  | assumption
  | decide
  | exact c_mul_r (by first | decide | omega) (by first | decide | omega)
  | exact c_mul_l (by first | decide | omega) (by first | decide | omega)
  | exact c_div (by first | decide | omega) (by first | decide | omega)
  | exact c_pow (by first | decide | omega) (by first | decide | omega) (by first | decide | omega)
  | omega)
local macro_rules | `(tactic| walk_at "ne") => `(tactic| first
  | assumption
  | (refine Ne.symm ?_; assumption)
  | (refine' Flow.ne ?nh ?nn; (case nn => assumption); (case nh => walk_at "fl"))
  | (refine Ne.symm ?_; refine' Flow.ne ?nh ?nn; (case nn => assumption); (case nh => walk_at "fl"))
  | (refine' ne_of_none ?nh ?nn; (case nn => assumption); (case nh => walk_at "at"))
  | (refine Ne.symm ?_; refine' ne_of_none ?nh ?nn; (case nn => assumption); (case nh => walk_at "at")))
local macro_rules | `(tactic| walk_at "at") => `(tactic| first
  | assumption
  | (refine Same.up (by assumption) ?_; walk_at "at")
  | (refine Keep.up (by assumption) (by walk_at "ne") ?_; walk_at "at"))
local macro_rules | `(tactic| walk_at "fl") => `(tactic| first
  | assumption
  | (refine Flow.same (by assumption) ?_; walk_at "fl")
  | (refine Flow.keep (by assumption) (by walk_at "ne") ?_; walk_at "fl"))
local macro_rules | `(tactic| walk_at "fr") => `(tactic| first
  | assumption
  | (refine same_free (by assumption) ?_; walk_at "fr")
  | (refine Keep.free (by assumption) (by walk_at "ne") ?_; walk_at "fr"))
local macro_rules | `(tactic| walk_at "kp") => `(tactic| first
  | assumption
  | exact Keep.refl _ _
  | (refine Keep.trans ?_ (by assumption); walk_at "kp")
  | (refine Keep.trans ?_ (Keep.same (by assumption)); walk_at "kp"))
local macro_rules | `(tactic| walk_at "sm") => `(tactic| first
  | assumption
  | exact L2.Same.refl _
  | (refine L2.Same.trans ?_ (by assumption); walk_at "sm"))
local macro_rules | `(tactic| walk_at "sz") => `(tactic| first | exact Nat.le_of_ble_eq_true rfl | omega)
local macro_rules | `(tactic| walk_at "new") => `(tactic| (intro p np; generalize hE : upd _ p _ = H2; have s2 := new_same np hE; have h2 := new_at hE; clear hE))
local macro_rules | `(tactic| walk_at "newx") => `(tactic| (intro e d na nd hda; generalize hE : upd (upd _ d _) e _ = H2; have s2 := newx_same na nd hE; have h2 := newx_at hE; have h3 := newx_d hda hE; clear hE))
local macro_rules | `(tactic| walk_at "s1") => `(tactic| first
  | with_reducible refine s_seq ?_
  | with_reducible refine s_asg ?_
  | with_reducible refine s_name ?_
  | with_reducible refine s_ret ?_
  | with_reducible refine s_c ?_
  | ((with_reducible refine' s_var ?hv ?_); (case hv => rfl))
  | with_reducible refine s_op ?_
  | with_reducible refine s_un ?_
  | with_reducible refine s_ifS ?_
  | with_reducible refine s_cb ?_
  | with_reducible refine s_cons ?_
  | with_reducible refine s_nil ?_
  | with_reducible refine s_call ?_
  | with_reducible refine s_test ?_
  | with_reducible refine s_tB ?_
  | with_reducible refine s_bl ?_
  | with_reducible refine s_and ?_
  | with_reducible refine s_or ?_
  | with_reducible refine s_not ?_
  | with_reducible refine s_andV ?_
  | with_reducible refine s_orV ?_
  | with_reducible refine s_notV ?_
  | with_reducible refine s_blV ?_
  | with_reducible refine s_if ?_
  | with_reducible refine s_tup ?_
  | with_reducible refine s_lst ?_
  | with_reducible refine s_drop ?_
  | with_reducible refine s_next ?_
  | with_reducible refine s_sub ?_
  | with_reducible refine s_bm ?_
  | with_reducible refine s_callK ?_
  | with_reducible refine s_brk ?_
  | with_reducible refine s_cont ?_
  | with_reducible refine r_I0 ?_
  | with_reducible refine r_U ?_
  | with_reducible refine r_eqI ?_
  | with_reducible refine r_neI ?_
  | with_reducible refine r_isB ?_
  | with_reducible refine r_notB ?_
  | with_reducible refine i_t ?_
  | with_reducible refine i_f ?_
  | with_reducible refine i_nt ?_
  | with_reducible refine i_nf ?_
  | ((with_reducible refine' r_I ?hc ?_); (case hc => walk_at "cond"))
  | (with_reducible refine .inl ⟨_, rfl, ?_⟩)
  | (with_reducible refine ⟨_, rfl, ?_⟩)
  | ((with_reducible refine' r_ixL ?hx ?ha ?_); (case hx => walk_at "at"); (case ha => rfl))
  | ((with_reducible refine' r_ixT ?hx ?ha ?_); (case hx => walk_at "at"); (case ha => rfl))
  | ((with_reducible refine' r_setL ?hx ?ha ?_); (case hx => walk_at "at"); (case ha => rfl); intro H2 k2 h2; (try dsimp only [List.set, Int.toNat] at h2))
  | ((with_reducible refine' r_app ?hx ?hl ?_); (case hx => walk_at "at"); (case hl => first | exact Nat.lt_of_ble_eq_true rfl | omega); intro H2 k2 h2)
  | ((with_reducible refine' ty_list ?hx ?_); (case hx => walk_at "at"))
  | (refine And.intro (by (with_reducible show _ ≤ sizeLine); walk_at "sz") ?_; walk_at "new")
  | with_reducible refine s_exv ?_
  | walk_at "newx")
local macro_rules | `(tactic| walk_at "sx") => `(tactic| repeat (walk_at "s1"))
local macro_rules | `(tactic| walk_at "s2") => `(tactic| first
  | ((with_reducible refine' r_ixG ?hx ?hn ?_); (case hx => walk_at "at"); (case hn => omega))
  | ((with_reducible refine' r_ixGT ?hx ?hn ?_); (case hx => walk_at "at"); (case hn => omega))
  | (with_reducible refine ig_cons (fun hix => ?_) (fun hix => ?_))
  | ((with_reducible refine ig_nil ?_); omega)
  | ((with_reducible refine' i_T ?hc ?_); (case hc => omega))
  | ((with_reducible refine' i_F ?hc ?_); (case hc => omega))
  | (with_reducible refine i_2 (fun hc => ?_) (fun hc => ?_))
  | (with_reducible refine i_n2 (fun hc => ?_) (fun hc => ?_)))
local macro_rules | `(tactic| walk_at "go") => `(tactic| repeat' (first | walk_at "s1" | walk_at "s2"))

local macro_rules | `(tactic| walk_at "s1") => `(tactic| first
  | with_reducible refine s_chain ?_
  | with_reducible refine s_fldS ?_
  | with_reducible refine s_fld ?_
  | with_reducible refine s_dIn ?_
  | with_reducible refine s_dNotIn ?_
  | with_reducible refine s_sl ?_
  | with_reducible refine s_noPart ?_
  | with_reducible refine s_part ?_
  | with_reducible refine s_meth ?_
  | with_reducible refine s_make ?_)

local macro_rules | `(tactic| walk_at "s1") => `(tactic| first
  | with_reducible refine s_m1 ?_
  | with_reducible refine s_strE ?_
  | with_reducible refine s_js ?_
  | with_reducible refine s_js0 ?_
  | with_reducible refine s_fmt ?_)
/-- a list of short texts -/
def Shorts (H : Hp) (p : Addr) (n : Nat) : Prop := ∃ ls : List Str, H p = some (.lst (ls.map V.str)) ∧ ls.length = n ∧ ∀ s ∈ ls, s.length ≤ 13
theorem r_catS {H : Hp} {l b : Addr} {i j : Nat} {Q : VK} (h1 : Shorts H l i) (h2 : Shorts H b j) (sz : i + j < 1000) (q : ∀ p H', H p = none → Same H H' → Shorts H' p (i + j) → Q (.ref p) H') : rCat (.ref l) (.ref b) H Q := by
  obtain ⟨xs, e1, l1, s1⟩ := h1
  obtain ⟨zs, e2, l2, s2⟩ := h2
  refine ⟨l, b, _, _, rfl, rfl, e1, e2, by rw [List.length_map, List.length_map, sizeLine_eq]; omega, fun p np => q p _ np (Same.new np) ⟨xs ++ zs, ?_, by rw [List.length_append]; omega, fun s hs => ?_⟩⟩
  · rw [upd_same, List.map_append]
  · rcases List.mem_append.mp hs with m | m
    · exact s1 s m
    · exact s2 s m
theorem Shorts.same {H H' : Hp} {p : Addr} {n : Nat} (e : Same H H') (h : Shorts H p n) : Shorts H' p n := by
  obtain ⟨ls, h1, h2, h3⟩ := h
  exact ⟨ls, e _ _ h1, h2, h3⟩
section
variable {P : Program} {w : World} {K : PySem.W.Frag} {mg : Str → Option Value} {base : Heap} {A : Ad}
def spOdd : Sp := fun vs H Q _ => ∃ a, vs = [.ref a] ∧ Flow H a ∧ ∀ (s : Str) H', Flow H' a → Keep a H H' → s.length ≤ 13 → Q (.str s) H'
theorem ok_odd (T : Txt P K mg A) : FnOk P w K mg base CX0 2 A.a__law_odd A.d__law_odd ["flow"] spOdd := by
  refine T.F__law_odd.ok sc__law_odd (fun vs H Q E h => ?_) (fun cdv A' outer s H vs Q E hr h => ?_)
  · obtain ⟨a, rfl, _⟩ := h
    rfl
  · obtain ⟨a, rfl, hF, k⟩ := h
    have G__law_take := ok_take (w := w) (base := base) T
    refine ⟨_, (pss_cons (ps_set (i := 1) sc__law_odd.nd rfl (Or.inl rfl) (pe_lst (pa_cons pe_str (pa_cons pe_str (pa_cons pe_str (pa_cons pe_str (pa_cons pe_str (pa_cons pe_str (pa_cons pe_str (pa_cons pe_str (pa_cons pe_str (pa_cons pe_str pa_nil))))))))))))
  (pss_cons (ps_set (i := 1) sc__law_odd.nd rfl (Or.inl rfl) (pe_op op_cat (pv 1) (pe_lst (pa_cons pe_str (pa_cons pe_str (pa_cons pe_str (pa_cons pe_str (pa_cons pe_str (pa_cons pe_str (pa_cons pe_str (pa_cons pe_str pa_nil)))))))))))
  (pss_cons (ps_set (i := 1) sc__law_odd.nd rfl (Or.inl rfl) (pe_op op_cat (pv 1) (pe_lst (pa_cons pe_str (pa_cons pe_str (pa_cons pe_str (pa_cons pe_str (pa_cons pe_str (pa_cons pe_str (pa_cons pe_str (pa_cons pe_str (pa_cons pe_str pa_nil))))))))))))
  (pss_cons (ps_set (i := 1) sc__law_odd.nd rfl (Or.inl rfl) (pe_op op_cat (pv 1) (pe_lst (pa_cons pe_str (pa_cons pe_str (pa_cons pe_str (pa_cons pe_str (pa_cons pe_str (pa_cons pe_str (pa_cons pe_str (pa_cons pe_str (pa_cons pe_str pa_nil))))))))))))
  (pss_cons (ps_set (i := 1) sc__law_odd.nd rfl (Or.inl rfl) (pe_op op_cat (pv 1) (pe_lst (pa_cons pe_str (pa_cons pe_str (pa_cons pe_str (pa_cons pe_str (pa_cons pe_str (pa_cons pe_str (pa_cons pe_str (pa_cons pe_str pa_nil)))))))))))
  (pss_one (ps_ret (pe_ix (r := rIx K) ix_seq (pv 1) (pe_call G__law_take (hr.mono (by decide)) rfl T.g__law_take T.F__law_take.kp (B__law_take T) .nil pass0 (pa_cons (pv 0) (pa_cons (pe_callB call_len (by rfl) T.n_len (by decide +kernel) (pa_cons (pv 1) pa_nil)) pa_nil))) (fun _ _ => rfl))))))))), ?_⟩
    walk_at "sx"
    rename_i p1 np1 H1 s1 h1 q2 nq2 G2 s2 h2
    have A1 : Shorts H1 p1 10 := ⟨[Str.ofString "", Str.ofString "rule", Str.ofString "rule ", Str.ofString "rule -", Str.ofString "points", Str.ofString "points ", Str.ofString "points 0", Str.ofString "points 3", Str.ofString "points 4", Str.ofString "points 8"], h1, rfl, by decide +kernel⟩
    have B2 : Shorts G2 q2 8 := ⟨[Str.ofString "points 9", Str.ofString "points 03", Str.ofString "points 10", Str.ofString "points -1", Str.ofString "points +2", Str.ofString "points 3 ", Str.ofString "points  3", Str.ofString " points 2"], h2, rfl, by decide +kernel⟩
    clear h1 h2
    refine r_catS (A1.same s2) B2 (by decide) fun p2 H2 _ t2 A2 => ?_
    walk_at "sx"
    rename_i q3 nq3 G3 s3 h3
    have B3 : Shorts G3 q3 9 := ⟨[Str.ofString "Points 3", Str.ofString "point 3", Str.ofString "rule 0", Str.ofString "rule 1", Str.ofString "rule 01", Str.ofString "rule 10", Str.ofString "rule 000", Str.ofString "rule 111", Str.ofString "rule 0110"], h3, rfl, by decide +kernel⟩
    clear h3
    refine r_catS (A2.same s3) B3 (by decide) fun p3 H3 _ t3 A3 => ?_
    walk_at "sx"
    rename_i q4 nq4 G4 s4 h4
    have B4 : Shorts G4 q4 9 := ⟨[Str.ofString "rule 1 0", Str.ofString "rule  101", Str.ofString "rule 011 ", Str.ofString " rule 011", Str.ofString "Rule 011", Str.ofString "rule 012", Str.ofString "rules 011", Str.ofString "rule -1", Str.ofString "-"], h4, rfl, by decide +kernel⟩
    clear h4
    refine r_catS (A3.same s4) B4 (by decide) fun p4 H4 _ t4 A4 => ?_
    walk_at "sx"
    rename_i q5 nq5 G5 s5 h5
    have B5 : Shorts G5 q5 8 := ⟨[Str.ofString "011", Str.ofString "rule\t011", Str.ofString "points\t3", Str.ofString "points 3\t", Str.ofString "rule --", Str.ofString "rule 00000", Str.ofString "rule 11111111", Str.ofString "points 5"], h5, rfl, by decide +kernel⟩
    clear h5
    refine r_catS (A4.same s5) B5 (by decide) fun p5 H5 np5 t5 A5 => ?_
    walk_at "sx"
    have S5 : Same H H5 := s1.trans (s2.trans (t2.trans (s3.trans (t3.trans (s4.trans (t4.trans (s5.trans t5)))))))
    obtain ⟨ls, e5, l5, b5⟩ := A5
    have e5' : True → H5 p5 = some (.lst (ls.map V.str)) := fun _ => e5
    clear e5
    refine ⟨_, 44, rfl, .inl ⟨_, SqL.of (e5' trivial), by rw [List.length_map]; omega⟩, ?_⟩
    walk_at "sx"
    refine c_take (hF.same S5) (by decide) (by decide) (fun d2 H6 l2 u2 F2 K2 => ?_)
    obtain ⟨i, rfl⟩ := Int.eq_ofNat_of_zero_le l2
    have hi : i < ls.length := by omega
    have pa : p5 ≠ a := ((hF.same (s1.trans (s2.trans (t2.trans (s3.trans (t3.trans (s4.trans (t4.trans s5)))))))).ne np5).symm
    refine r_ixL (K2 _ _ pa (e5' trivial)) (v := .str ls[i]) (atI_nat (by rw [List.getElem?_map, List.getElem?_eq_getElem hi]; rfl)) ?_
    exact k _ H6 F2 ((Keep.same S5).trans K2) (b5 _ (List.getElem_mem hi))
end
end K09

set_option Elab.async false
set_option linter.all false
set_option maxRecDepth 100000
set_option maxHeartbeats 4000000
namespace K09
open PySem L2 Sx TL
local macro_rules | `(tactic| walk_at "cond") => `(tactic| first
  | assumption
  | decide
  | exact c_mul_r (by first | decide | omega) (by first | decide | omega)
  | exact c_mul_l (by first | decide | omega) (by first | decide | omega)
  | exact c_div (by first | decide | omega) (by first | decide | omega)
  | exact c_pow (by first | decide | omega) (by first | decide | omega) (by first | decide | omega)
  | omega)
local macro_rules | `(tactic| walk_at "ne") => `(tactic| first
  | assumption
  | (refine Ne.symm ?_; assumption)
  | (refine' Flow.ne ?nh ?nn; (case nn => assumption); (case nh => walk_at "fl"))
  | (refine Ne.symm ?_; refine' Flow.ne ?nh ?nn; (case nn => assumption); (case nh => walk_at "fl"))
  | (refine' ne_of_none ?nh ?nn; (case nn => assumption); (case nh => walk_at "at"))
  | (refine Ne.symm ?_; refine' ne_of_none ?nh ?nn; (case nn => assumption); (case nh => walk_at "at")))
local macro_rules | `(tactic| walk_at "at") => `(tactic| first
  | assumption
  | (refine Same.up (by assumption) ?_; walk_at "at")
  | (refine Keep.up (by assumption) (by walk_at "ne") ?_; walk_at "at"))
local macro_rules | `(tactic| walk_at "fl") => `(tactic| first
  | assumption
  | (refine Flow.same (by assumption) ?_; walk_at "fl")
  | (refine Flow.keep (by assumption) (by walk_at "ne") ?_; walk_at "fl"))
local macro_rules | `(tactic| walk_at "fr") => `(tactic| first
  | assumption
  | (refine same_free (by assumption) ?_; walk_at "fr")
  | (refine Keep.free (by assumption) (by walk_at "ne") ?_; walk_at "fr"))
local macro_rules | `(tactic| walk_at "kp") => `(tactic| first
  | assumption
  | exact Keep.refl _ _
  | (refine Keep.trans ?_ (by assumption); walk_at "kp")
  | (refine Keep.trans ?_ (Keep.same (by assumption)); walk_at "kp"))
local macro_rules | `(tactic| walk_at "sm") => `(tactic| first
  | assumption
  | exact L2.Same.refl _
  | (refine L2.Same.trans ?_ (by assumption); walk_at "sm"))
local macro_rules | `(tactic| walk_at "sz") => `(tactic| first | exact Nat.le_of_ble_eq_true rfl | omega)
local macro_rules | `(tactic| walk_at "new") => `(tactic| (intro p np; generalize hE : upd _ p _ = H2; have s2 := new_same np hE; have h2 := new_at hE; clear hE))
local macro_rules | `(tactic| walk_at "newx") => `(tactic| (intro e d na nd hda; generalize hE : upd (upd _ d _) e _ = H2; have s2 := newx_same na nd hE; have h2 := newx_at hE; have h3 := newx_d hda hE; clear hE))
local macro_rules | `(tactic| walk_at "s1") => `(tactic| first
  | with_reducible refine s_seq ?_
  | with_reducible refine s_asg ?_
  | with_reducible refine s_name ?_
  | with_reducible refine s_ret ?_
  | with_reducible refine s_c ?_
  | ((with_reducible refine' s_var ?hv ?_); (case hv => rfl))
  | with_reducible refine s_op ?_
  | with_reducible refine s_un ?_
  | with_reducible refine s_ifS ?_
  | with_reducible refine s_cb ?_
  | with_reducible refine s_cons ?_
  | with_reducible refine s_nil ?_
  | with_reducible refine s_call ?_
  | with_reducible refine s_test ?_
  | with_reducible refine s_tB ?_
  | with_reducible refine s_bl ?_
  | with_reducible refine s_and ?_
  | with_reducible refine s_or ?_
  | with_reducible refine s_not ?_
  | with_reducible refine s_andV ?_
  | with_reducible refine s_orV ?_
  | with_reducible refine s_notV ?_
  | with_reducible refine s_blV ?_
  | with_reducible refine s_if ?_
  | with_reducible refine s_tup ?_
  | with_reducible refine s_lst ?_
  | with_reducible refine s_drop ?_
  | with_reducible refine s_next ?_
  | with_reducible refine s_sub ?_
  | with_reducible refine s_bm ?_
  | with_reducible refine s_callK ?_
  | with_reducible refine s_brk ?_
  | with_reducible refine s_cont ?_
  | with_reducible refine r_I0 ?_
  | with_reducible refine r_U ?_
  | with_reducible refine r_eqI ?_
  | with_reducible refine r_neI ?_
  | with_reducible refine r_isB ?_
  | with_reducible refine r_notB ?_
  | with_reducible refine i_t ?_
  | with_reducible refine i_f ?_
  | with_reducible refine i_nt ?_
  | with_reducible refine i_nf ?_
  | ((with_reducible refine' r_I ?hc ?_); (case hc => walk_at "cond"))
  | (with_reducible refine .inl ⟨_, rfl, ?_⟩)
  | (with_reducible refine ⟨_, rfl, ?_⟩)
  | ((with_reducible refine' r_ixL ?hx ?ha ?_); (case hx => walk_at "at"); (case ha => rfl))
  | ((with_reducible refine' r_ixT ?hx ?ha ?_); (case hx => walk_at "at"); (case ha => rfl))
  | ((with_reducible refine' r_setL ?hx ?ha ?_); (case hx => walk_at "at"); (case ha => rfl); intro H2 k2 h2; (try dsimp only [List.set, Int.toNat] at h2))
  | ((with_reducible refine' r_app ?hx ?hl ?_); (case hx => walk_at "at"); (case hl => first | exact Nat.lt_of_ble_eq_true rfl | omega); intro H2 k2 h2)
  | ((with_reducible refine' ty_list ?hx ?_); (case hx => walk_at "at"))
  | (refine And.intro (by (with_reducible show _ ≤ sizeLine); walk_at "sz") ?_; walk_at "new")
  | with_reducible refine s_exv ?_
  | walk_at "newx")
local macro_rules | `(tactic| walk_at "sx") => `(tactic| repeat (walk_at "s1"))
local macro_rules | `(tactic| walk_at "s2") => `(tactic| first
  | ((with_reducible refine' r_ixG ?hx ?hn ?_); (case hx => walk_at "at"); (case hn => omega))
  | ((with_reducible refine' r_ixGT ?hx ?hn ?_); (case hx => walk_at "at"); (case hn => omega))
  | (with_reducible refine ig_cons (fun hix => ?_) (fun hix => ?_))
  | ((with_reducible refine ig_nil ?_); omega)
  | ((with_reducible refine' i_T ?hc ?_); (case hc => omega))
  | ((with_reducible refine' i_F ?hc ?_); (case hc => omega))
  | (with_reducible refine i_2 (fun hc => ?_) (fun hc => ?_))
  | (with_reducible refine i_n2 (fun hc => ?_) (fun hc => ?_)))
local macro_rules | `(tactic| walk_at "go") => `(tactic| repeat' (first | walk_at "s1" | walk_at "s2"))

local macro_rules | `(tactic| walk_at "s1") => `(tactic| first
  | with_reducible refine s_chain ?_
  | with_reducible refine s_fldS ?_
  | with_reducible refine s_fld ?_
  | with_reducible refine s_dIn ?_
  | with_reducible refine s_dNotIn ?_
  | with_reducible refine s_sl ?_
  | with_reducible refine s_noPart ?_
  | with_reducible refine s_part ?_
  | with_reducible refine s_meth ?_
  | with_reducible refine s_make ?_)

local macro_rules | `(tactic| walk_at "s1") => `(tactic| first
  | with_reducible refine s_m1 ?_
  | with_reducible refine s_strE ?_
  | with_reducible refine s_js ?_
  | with_reducible refine s_js0 ?_
  | with_reducible refine s_fmt ?_)
theorem len_lo {z : Str} {p : Nat} (h : p ≤ z.length) : (cutS z none (some (p : Int))).length = p := by
  unfold cutS
  rw [HT.sIx_nat, HT.sIx_none]
  show (List.toArray (List.take (min p z.length - 0) (List.drop 0 (tl z)))).size = p
  have e : (tl z).length = z.length := by simp [Str.length]
  simp only [List.size_toArray, List.length_take, List.length_drop]
  omega
theorem len_cut (z : Str) (a b : Option Int) : (cutS z a b).length ≤ z.length := by
  unfold cutS
  show (List.toArray (List.take _ (List.drop _ (tl z)))).size ≤ _
  have e : (tl z).length = z.length := by simp [Str.length]
  simp only [List.size_toArray, List.length_take, List.length_drop]
  omega
theorem cutV_lo {xs : List V} {p : Nat} (h : p ≤ xs.length) : cutV xs none (some (p : Int)) = xs.take p := by
  unfold cutV
  rw [HT.sIx_nat, HT.sIx_none, Nat.min_eq_left h]
  simp
theorem cutV_hi {xs : List V} {p : Nat} (h : p ≤ xs.length) : cutV xs (some (p : Int)) none = xs.drop p := by
  unfold cutV
  rw [HT.sIx_nat, HT.sIx_none, Nat.min_eq_left h]
  rw [List.take_of_length_le]
  simp
theorem len_hi {z : Str} {p : Nat} : (cutS z (some (p : Int)) none).length = z.length - p := by
  unfold cutS
  rw [HT.sIx_nat, HT.sIx_none]
  show (List.toArray (List.take (z.length - min p z.length) (List.drop (min p z.length) (tl z)))).size = _
  have e : (tl z).length = z.length := by simp [Str.length]
  simp only [List.size_toArray, List.length_take, List.length_drop]
  omega
section
variable {P : Program} {w : World} {K : PySem.W.Frag} {mg : Str → Option Value} {base : Heap} {A : Ad}
def spSpL : Sp := fun vs H Q _ => ∃ (a l : Addr) (ls : List Str) (m at_ : Nat), vs = [.ref a, .ref l, .int (at_ : Nat)] ∧ Flow H a ∧ l ≠ a ∧ H l = some (.lst (ls.map V.str)) ∧ at_ < ls.length ∧ ls.length ≤ 30 ∧ (∀ s ∈ ls, s.length ≤ m) ∧ 13 ≤ m ∧ m ≤ 20 ∧
  ∀ (p : Addr) (ls' : List Str) H', p ≠ a → Flow H' a → Keep a H H' → H' p = some (.lst (ls'.map V.str)) → ls'.length = ls.length → (∀ s ∈ ls', s.length ≤ m + 1) → Q (.ref p) H'
theorem ok_spL (T : Txt P K mg A) : FnOk P w K mg base CX0 3 A.a__law_spoilt_line A.d__law_spoilt_line ["flow", "lines", "at"] spSpL := by
  refine T.F__law_spoilt_line.ok sc__law_spoilt_line (fun vs H Q E h => ?_) (fun cdv A' outer s H vs Q E hr h => ?_)
  · obtain ⟨a, l, ls, m, i, rfl, _⟩ := h
    rfl
  · obtain ⟨a, l, ls, m, i, rfl, hF, la, hl0, hi, sz, sm, m1, m2, k⟩ := h
    have G__law_take := ok_take (w := w) (base := base) T
    have G__law_sign := ok_sign (w := w) (base := base) T
    have G__law_odd := ok_odd (w := w) (base := base) T
    have hl : True → H l = some (.lst (ls.map V.str)) := fun _ => hl0
    clear hl0
    obtain ⟨y, hy⟩ : ∃ y, ls[i]? = some y := ⟨_, List.getElem?_eq_getElem hi⟩
    have ly : y.length ≤ m := sm y (List.mem_of_getElem? hy)
    have fin : ∀ (y' : Str) (H6 : Hp) (v3 v5 : Option V), y'.length ≤ m + 1 → Flow H6 a → Keep a H H6 →
        (tRet (tOp rCat (tOp rCat (tSl (rSlL K) (tVar 1) tNoPart (tPart (tVar 2))) (tLst (tCons (tVar 4) tNil))) (tSl (rSlL K) (tVar 1) (tPart (tOp (rI0 fun i j => V.int (i + j)) (tVar 2) (tC (V.int 1)))) tNoPart)))
          { nx := fun _ H' => Q V.non H', rt := Q } [some (.ref a), some (.ref l), some (.int (i : Nat)), v3, some (.str y'), v5] H6 := by
      intro y' H6 v3 v5 l6 F6 K6
      walk_at "sx"
      refine ⟨l, _, rfl, SqL.of (K6 _ _ la (hl trivial)), fun p1 np1 => ?_⟩
      rw [cutV_lo (by rw [List.length_map]; omega)]
      generalize hE1 : upd H6 p1 _ = H7
      have s7 := new_same np1 hE1
      have h7 := new_at hE1
      clear hE1
      walk_at "sx"
      rename_i p2 np2 H8 s8 h8
      refine ⟨p1, p2, _, _, rfl, rfl, s8 _ _ h7, h8, by rw [sizeLine_eq]; simp; omega, fun p3 np3 => ?_⟩
      generalize hE1 : upd H8 p3 _ = H9
      have s9 := new_same np3 hE1
      have h9 := new_at hE1
      clear hE1
      walk_at "sx"
      have S9 := s7.trans (s8.trans s9)
      refine ⟨l, _, rfl, SqL.of (S9 _ _ (K6 _ _ la (hl trivial))), fun p4 np4 => ?_⟩
      rw [show (i : Int) + 1 = ((i + 1 : Nat) : Int) by omega, cutV_hi (by rw [List.length_map]; omega)]
      generalize hE1 : upd H9 p4 _ = H10
      have s10 := new_same np4 hE1
      have h10 := new_at hE1
      clear hE1
      walk_at "sx"
      refine ⟨p3, p4, _, _, rfl, rfl, s10 _ _ h9, h10, by rw [sizeLine_eq]; simp; omega, fun p5 np5 => ?_⟩
      generalize hE1 : upd H10 p5 _ = H11
      have s11 := new_same np5 hE1
      have h11 := new_at hE1
      clear hE1
      have S11 := S9.trans (s10.trans s11)
      refine k p5 (ls.take i ++ [y'] ++ ls.drop (i + 1)) H11 ((F6.same (S9.trans s10)).ne np5).symm (F6.same S11) (K6.trans (Keep.same S11)) (by rw [h11]; simp) (by simp; omega) fun s hs => ?_
      rcases List.mem_append.mp hs with q | q
      · rcases List.mem_append.mp q with q | q
        · exact Nat.le_succ_of_le (sm s (List.mem_of_mem_take q))
        · rw [List.mem_singleton.mp q]
          exact l6
      · exact Nat.le_succ_of_le (sm s (List.mem_of_mem_drop q))
    refine ⟨_, (pss_cons (ps_set (i := 3) sc__law_spoilt_line.nd rfl (Or.inl rfl) (pe_call G__law_take (hr.mono (by decide)) rfl T.g__law_take T.F__law_take.kp (B__law_take T) .nil pass0 (pa_cons (pv 0) (pa_cons pe_int pa_nil))))
  (pss_cons (ps_set (i := 4) sc__law_spoilt_line.nd rfl (Or.inl rfl) (pe_ix (r := rIx K) ix_seq (pv 1) (pv 2) (fun _ _ => rfl)))
  (pss_cons (ps_set (i := 5) sc__law_spoilt_line.nd rfl (Or.inl rfl) (pe_call G__law_take (hr.mono (by decide)) rfl T.g__law_take T.F__law_take.kp (B__law_take T) .nil pass0 (pa_cons (pv 0) (pa_cons (pe_op op_add (pe_callB call_len (by rfl) T.n_len (by decide +kernel) (pa_cons (pv 4) pa_nil)) pe_int) pa_nil))))
  (pss_cons (ps_if (pt_cmpR op_eq (pv 3) pe_int (nomark _)) (pss_one (ps_set (i := 4) sc__law_spoilt_line.nd rfl (Or.inl rfl) (pe_op op_add_str (pe_op op_add_str (pe_slice sl_str (pv 4) po_none (po_some (pv 5))) (pe_call G__law_sign (hr.mono (by decide)) rfl T.g__law_sign T.F__law_sign.kp (B__law_sign T) .nil pass0 (pa_cons (pv 0) pa_nil))) (pe_slice sl_str (pv 4) (po_some (pv 5)) po_none)))) (pss_one (ps_if (pt_cmpR op_eq (pv 3) pe_int (nomark _)) (pss_one (ps_set (i := 4) sc__law_spoilt_line.nd rfl (Or.inl rfl) (pe_op op_add_str (pe_slice sl_str (pv 4) po_none (po_some (pv 5))) (pe_slice sl_str (pv 4) (po_some (pe_op op_add (pv 5) pe_int)) po_none)))) (pss_one (ps_if (pt_cmpR op_eq (pv 3) pe_int (nomark _)) (pss_one (ps_set (i := 4) sc__law_spoilt_line.nd rfl (Or.inl rfl) (pe_op op_add_str (pe_op op_add_str (pe_slice sl_str (pv 4) po_none (po_some (pv 5))) (pe_call G__law_sign (hr.mono (by decide)) rfl T.g__law_sign T.F__law_sign.kp (B__law_sign T) .nil pass0 (pa_cons (pv 0) pa_nil))) (pe_slice sl_str (pv 4) (po_some (pe_op op_add (pv 5) pe_int)) po_none)))) (pss_one (ps_if (pt_cmpR op_eq (pv 3) pe_int (nomark _)) (pss_one (ps_set (i := 4) sc__law_spoilt_line.nd rfl (Or.inl rfl) (pe_op op_add_str (pe_slice sl_str (pv 4) po_none (po_some (pe_un un_neg pe_int))) (pe_ix (r := rIx K) ix_seq pe_str (pe_call G__law_take (hr.mono (by decide)) rfl T.g__law_take T.F__law_take.kp (B__law_take T) .nil pass0 (pa_cons (pv 0) (pa_cons pe_int pa_nil))) (fun _ _ => rfl))))) (pss_one (ps_if (pt_cmpR op_eq (pv 3) pe_int (nomark _)) (pss_one (ps_set (i := 4) sc__law_spoilt_line.nd rfl (Or.inl rfl) (pe_op op_add_str (pv 4) pe_str))) (pss_one (ps_set (i := 4) sc__law_spoilt_line.nd rfl (Or.inl rfl) (pe_call G__law_odd (hr.mono (by decide)) rfl T.g__law_odd T.F__law_odd.kp (B__law_odd T) .nil pass0 (pa_cons (pv 0) pa_nil)))))))))))))
  (pss_one (ps_ret (pe_op op_cat (pe_op op_cat (pe_slice sl_list (pv 1) po_none (po_some (pv 2))) (pe_lst (pa_cons (pv 4) pa_nil))) (pe_slice sl_list (pv 1) (po_some (pe_op op_add (pv 2) pe_int)) po_none)))))))), ?_⟩
    walk_at "sx"
    refine c_take hF (by decide) (by decide) (fun d1 H1 l1 u1 F1 K1 => ?_)
    walk_at "sx"
    refine r_ixL (K1 _ _ la (hl trivial)) (v := .str y) (atI_nat (by rw [List.getElem?_map, hy]; rfl)) ?_
    walk_at "sx"
    refine ⟨_, y.length, rfl, ⟨by rw [sizeLine_eq]; omega, rfl⟩, ?_⟩
    walk_at "sx"
    refine c_take F1 (by omega) (by omega) (fun d2 H2 l2 u2 F2 K2 => ?_)
    obtain ⟨pl, rfl⟩ := Int.eq_ofNat_of_zero_le l2
    walk_at "sx"
    have hp : pl ≤ y.length := by omega
    have K02 : Keep a H H2 := K1.trans K2
    have lc : ∀ c : Nat, (⟨#[c]⟩ : Str).length = 1 := fun c => rfl
    have e1 : (pl : Int) + 1 = ((pl + 1 : Nat) : Int) := by omega
    refine i_2 (fun c => ?_) (fun c => ?_)
    · walk_at "sx"
      refine ⟨_, rfl, by rw [sizeLine_eq]; omega, ?_⟩
      walk_at "sx"
      refine ⟨a, rfl, F2, fun cc H3 F3 K3 => ?_⟩
      walk_at "sx"
      refine ⟨_, _, rfl, rfl, by rw [len_lo hp, lc, sizeLine_eq]; omega, ?_⟩
      walk_at "sx"
      refine ⟨_, rfl, by rw [sizeLine_eq]; omega, ?_⟩
      refine ⟨_, _, rfl, rfl, by rw [app_len, len_lo hp, lc, len_hi, sizeLine_eq]; omega, ?_⟩
      refine s_name ?_
      exact fin _ H3 _ _ (by rw [app_len, app_len, len_lo hp, lc, len_hi]; omega) F3 (K02.trans K3)
    walk_at "sx"
    refine i_2 (fun c => ?_) (fun c => ?_)
    · walk_at "sx"
      refine ⟨_, rfl, by rw [sizeLine_eq]; omega, ?_⟩
      walk_at "sx"
      refine ⟨_, rfl, by rw [sizeLine_eq]; omega, ?_⟩
      rw [e1]
      refine ⟨_, _, rfl, rfl, by rw [len_lo hp, len_hi, sizeLine_eq]; omega, ?_⟩
      refine s_name ?_
      exact fin _ H2 _ _ (by rw [app_len, len_lo hp, len_hi]; omega) F2 K02
    walk_at "sx"
    refine i_2 (fun c => ?_) (fun c => ?_)
    · walk_at "sx"
      refine ⟨_, rfl, by rw [sizeLine_eq]; omega, ?_⟩
      walk_at "sx"
      refine ⟨a, rfl, F2, fun cc H3 F3 K3 => ?_⟩
      walk_at "sx"
      refine ⟨_, _, rfl, rfl, by rw [len_lo hp, lc, sizeLine_eq]; omega, ?_⟩
      walk_at "sx"
      refine ⟨_, rfl, by rw [sizeLine_eq]; omega, ?_⟩
      rw [e1]
      refine ⟨_, _, rfl, rfl, by rw [app_len, len_lo hp, lc, len_hi, sizeLine_eq]; omega, ?_⟩
      refine s_name ?_
      exact fin _ H3 _ _ (by rw [app_len, app_len, len_lo hp, lc, len_hi]; omega) F3 (K02.trans K3)
    walk_at "sx"
    refine i_2 (fun c => ?_) (fun c => ?_)
    · walk_at "sx"
      refine ⟨_, rfl, by rw [sizeLine_eq]; omega, ?_⟩
      walk_at "sx"
      refine c_take F2 (by decide) (by decide) (fun d3 H3 l3 u3 F3 K3 => ?_)
      refine r_ixStr l3 (Int.lt_of_lt_of_le u3 (by decide +kernel)) (by rw [sizeLine_eq]; decide +kernel) fun cc => ?_
      have lz := len_cut y none (some (-1))
      refine ⟨_, _, rfl, rfl, by rw [lc, sizeLine_eq]; omega, ?_⟩
      refine s_name ?_
      exact fin _ H3 _ _ (by rw [app_len, lc]; omega) F3 (K02.trans K3)
    walk_at "sx"
    refine i_2 (fun c => ?_) (fun c => ?_)
    · walk_at "s1"
      walk_at "s1"
      refine s_var rfl ?_
      refine ⟨_, _, rfl, rfl, by rw [show (Str.ofString " ").length = 1 by decide +kernel, sizeLine_eq]; omega, ?_⟩
      refine s_name ?_
      exact fin _ H2 _ _ (by rw [app_len, show (Str.ofString " ").length = 1 by decide +kernel]; omega) F2 K02
    · refine s_asg ?_
      walk_at "sx"
      refine ⟨a, rfl, F2, fun s H3 F3 K3 l3 => ?_⟩
      refine s_name ?_
      exact fin _ H3 _ _ (by omega) F3 (K02.trans K3)
end
end K09

set_option Elab.async false
set_option linter.all false
set_option maxRecDepth 100000
set_option maxHeartbeats 4000000
namespace K09
open PySem L2 Sx TL
local macro_rules | `(tactic| walk_at "cond") => `(tactic| first
  | assumption
  | decide
  | exact c_mul_r (by first | decide | omega) (by first | decide | omega)
  | exact c_mul_l (by first | decide | omega) (by first | decide | omega)
  | exact c_div (by first | decide | omega) (by first | decide | omega)
  | exact c_pow (by first | decide | omega) (by first | decide | omega) (by first | decide | omega)
  | omega)
local macro_rules | `(tactic| walk_at "ne") => `(tactic| first
  | assumption
  | (refine Ne.symm ?_; assumption)
  | (refine' Flow.ne ?nh ?nn; (case nn => assumption); (case nh => walk_at "fl"))
  | (refine Ne.symm ?_; refine' Flow.ne ?nh ?nn; (case nn => assumption); (case nh => walk_at "fl"))
  | (refine' ne_of_none ?nh ?nn; (case nn => assumption); (case nh => walk_at "at"))
  | (refine Ne.symm ?_; refine' ne_of_none ?nh ?nn; (case nn => assumption); (case nh => walk_at "at")))
local macro_rules | `(tactic| walk_at "at") => `(tactic| first
  | assumption
  | (refine Same.up (by assumption) ?_; walk_at "at")
  | (refine Keep.up (by assumption) (by walk_at "ne") ?_; walk_at "at"))
local macro_rules | `(tactic| walk_at "fl") => `(tactic| first
  | assumption
  | (refine Flow.same (by assumption) ?_; walk_at "fl")
  | (refine Flow.keep (by assumption) (by walk_at "ne") ?_; walk_at "fl"))
local macro_rules | `(tactic| walk_at "fr") => `(tactic| first
  | assumption
  | (refine same_free (by assumption) ?_; walk_at "fr")
  | (refine Keep.free (by assumption) (by walk_at "ne") ?_; walk_at "fr"))
local macro_rules | `(tactic| walk_at "kp") => `(tactic| first
  | assumption
  | exact Keep.refl _ _
  | (refine Keep.trans ?_ (by assumption); walk_at "kp")
  | (refine Keep.trans ?_ (Keep.same (by assumption)); walk_at "kp"))
local macro_rules | `(tactic| walk_at "sm") => `(tactic| first
  | assumption
  | exact L2.Same.refl _
  | (refine L2.Same.trans ?_ (by assumption); walk_at "sm"))
local macro_rules | `(tactic| walk_at "sz") => `(tactic| first | exact Nat.le_of_ble_eq_true rfl | omega)
local macro_rules | `(tactic| walk_at "new") => `(tactic| (intro p np; generalize hE : upd _ p _ = H2; have s2 := new_same np hE; have h2 := new_at hE; clear hE))
local macro_rules | `(tactic| walk_at "newx") => `(tactic| (intro e d na nd hda; generalize hE : upd (upd _ d _) e _ = H2; have s2 := newx_same na nd hE; have h2 := newx_at hE; have h3 := newx_d hda hE; clear hE))
local macro_rules | `(tactic| walk_at "s1") => `(tactic| first
  | with_reducible refine s_seq ?_
  | with_reducible refine s_asg ?_
  | with_reducible refine s_name ?_
  | with_reducible refine s_ret ?_
  | with_reducible refine s_c ?_
  | ((with_reducible refine' s_var ?hv ?_); (case hv => rfl))
  | with_reducible refine s_op ?_
  | with_reducible refine s_un ?_
  | with_reducible refine s_ifS ?_
  | with_reducible refine s_cb ?_
  | with_reducible refine s_cons ?_
  | with_reducible refine s_nil ?_
  | with_reducible refine s_call ?_
  | with_reducible refine s_test ?_
  | with_reducible refine s_tB ?_
  | with_reducible refine s_bl ?_
  | with_reducible refine s_and ?_
  | with_reducible refine s_or ?_
  | with_reducible refine s_not ?_
  | with_reducible refine s_andV ?_
  | with_reducible refine s_orV ?_
  | with_reducible refine s_notV ?_
  | with_reducible refine s_blV ?_
  | with_reducible refine s_if ?_
  | with_reducible refine s_tup ?_
  | with_reducible refine s_lst ?_
  | with_reducible refine s_drop ?_
  | with_reducible refine s_next ?_
  | with_reducible refine s_sub ?_
  | with_reducible refine s_bm ?_
  | with_reducible refine s_callK ?_
  | with_reducible refine s_brk ?_
  | with_reducible refine s_cont ?_
  | with_reducible refine r_I0 ?_
  | with_reducible refine r_U ?_
  | with_reducible refine r_eqI ?_
  | with_reducible refine r_neI ?_
  | with_reducible refine r_isB ?_
  | with_reducible refine r_notB ?_
  | with_reducible refine i_t ?_
  | with_reducible refine i_f ?_
  | with_reducible refine i_nt ?_
  | with_reducible refine i_nf ?_
  | ((with_reducible refine' r_I ?hc ?_); (case hc => walk_at "cond"))
  | (with_reducible refine .inl ⟨_, rfl, ?_⟩)
  | (with_reducible refine ⟨_, rfl, ?_⟩)
  | ((with_reducible refine' r_ixL ?hx ?ha ?_); (case hx => walk_at "at"); (case ha => rfl))
  | ((with_reducible refine' r_ixT ?hx ?ha ?_); (case hx => walk_at "at"); (case ha => rfl))
  | ((with_reducible refine' r_setL ?hx ?ha ?_); (case hx => walk_at "at"); (case ha => rfl); intro H2 k2 h2; (try dsimp only [List.set, Int.toNat] at h2))
  | ((with_reducible refine' r_app ?hx ?hl ?_); (case hx => walk_at "at"); (case hl => first | exact Nat.lt_of_ble_eq_true rfl | omega); intro H2 k2 h2)
  | ((with_reducible refine' ty_list ?hx ?_); (case hx => walk_at "at"))
  | (refine And.intro (by (with_reducible show _ ≤ sizeLine); walk_at "sz") ?_; walk_at "new")
  | with_reducible refine s_exv ?_
  | walk_at "newx")
local macro_rules | `(tactic| walk_at "sx") => `(tactic| repeat (walk_at "s1"))
local macro_rules | `(tactic| walk_at "s2") => `(tactic| first
  | ((with_reducible refine' r_ixG ?hx ?hn ?_); (case hx => walk_at "at"); (case hn => omega))
  | ((with_reducible refine' r_ixGT ?hx ?hn ?_); (case hx => walk_at "at"); (case hn => omega))
  | (with_reducible refine ig_cons (fun hix => ?_) (fun hix => ?_))
  | ((with_reducible refine ig_nil ?_); omega)
  | ((with_reducible refine' i_T ?hc ?_); (case hc => omega))
  | ((with_reducible refine' i_F ?hc ?_); (case hc => omega))
  | (with_reducible refine i_2 (fun hc => ?_) (fun hc => ?_))
  | (with_reducible refine i_n2 (fun hc => ?_) (fun hc => ?_)))
local macro_rules | `(tactic| walk_at "go") => `(tactic| repeat' (first | walk_at "s1" | walk_at "s2"))

local macro_rules | `(tactic| walk_at "s1") => `(tactic| first
  | with_reducible refine s_chain ?_
  | with_reducible refine s_fldS ?_
  | with_reducible refine s_fld ?_
  | with_reducible refine s_dIn ?_
  | with_reducible refine s_dNotIn ?_
  | with_reducible refine s_sl ?_
  | with_reducible refine s_noPart ?_
  | with_reducible refine s_part ?_
  | with_reducible refine s_meth ?_
  | with_reducible refine s_make ?_)

local macro_rules | `(tactic| walk_at "s1") => `(tactic| first
  | with_reducible refine s_m1 ?_
  | with_reducible refine s_strE ?_
  | with_reducible refine s_js ?_
  | with_reducible refine s_js0 ?_
  | with_reducible refine s_fmt ?_)
def LsAt (H : Hp) (p : Addr) (ls : List Str) : Prop := H p = some (.lst (ls.map V.str))
theorem LsAt.same {H H' : Hp} {p : Addr} {ls : List Str} (e : Same H H') (h : LsAt H p ls) : LsAt H' p ls := e _ _ h
section
variable {P : Program} {w : World} {K : PySem.W.Frag} {mg : Str → Option Value} {base : Heap} {A : Ad}
theorem r_slT {H : Hp} {Q : VK} {p : Addr} {ls : List Str} {i : Nat} (h : LsAt H p ls) (le : i ≤ ls.length) (q : ∀ p' H', H p' = none → Same H H' → LsAt H' p' (ls.take i) → Q (.ref p') H') : rSlL K (.ref p) none (some (i : Int)) H Q := by
  refine ⟨p, _, rfl, SqL.of h, fun p1 np1 => ?_⟩
  rw [cutV_lo (by rw [List.length_map]; exact le)]
  refine q p1 _ np1 (Same.new np1) ?_
  unfold LsAt
  rw [upd_same, List.map_take]
theorem r_slD {H : Hp} {Q : VK} {p : Addr} {ls : List Str} {i : Nat} (h : LsAt H p ls) (le : i ≤ ls.length) (q : ∀ p' H', H p' = none → Same H H' → LsAt H' p' (ls.drop i) → Q (.ref p') H') : rSlL K (.ref p) (some (i : Int)) none H Q := by
  refine ⟨p, _, rfl, SqL.of h, fun p1 np1 => ?_⟩
  rw [cutV_hi (by rw [List.length_map]; exact le)]
  refine q p1 _ np1 (Same.new np1) ?_
  unfold LsAt
  rw [upd_same, List.map_drop]
theorem r_catT {H : Hp} {Q : VK} {p b : Addr} {xs zs : List Str} (h : LsAt H p xs) (g : LsAt H b zs) (sz : xs.length + zs.length < 1000) (q : ∀ p' H', H p' = none → Same H H' → LsAt H' p' (xs ++ zs) → Q (.ref p') H') : rCat (.ref p) (.ref b) H Q := by
  refine ⟨p, b, _, _, rfl, rfl, h, g, by rw [List.length_map, List.length_map, sizeLine_eq]; omega, fun p1 np1 => q p1 _ np1 (Same.new np1) ?_⟩
  unfold LsAt
  rw [upd_same, List.map_append]
def spSp : Sp := fun vs H Q _ => ∃ (a l : Addr) (ls : List Str) (m : Nat), vs = [.ref a, .ref l] ∧ Flow H a ∧ l ≠ a ∧ LsAt H l ls ∧ ls ≠ [] ∧ ls.length ≤ 30 ∧ (∀ s ∈ ls, s.length ≤ m) ∧ 13 ≤ m ∧ m ≤ 20 ∧
  ∀ (p : Addr) (ls' : List Str) H', p ≠ a → Flow H' a → Keep a H H' → LsAt H' p ls' → ls'.length ≤ ls.length + 1 → (∀ s ∈ ls', s.length ≤ m + 1) → Q (.ref p) H'
theorem ok_sp (T : Txt P K mg A) : FnOk P w K mg base CX0 4 A.a__law_spoilt A.d__law_spoilt ["flow", "lines"] spSp := by
  refine T.F__law_spoilt.ok sc__law_spoilt (fun vs H Q E h => ?_) (fun cdv A' outer s H vs Q E hr h => ?_)
  · obtain ⟨a, l, ls, m, rfl, _⟩ := h
    rfl
  · obtain ⟨a, l, ls, m, rfl, hF, la, hl, ne, sz, sm, m1, m2, k⟩ := h
    have G__law_take := ok_take (w := w) (base := base) T
    have G__law_odd := ok_odd (w := w) (base := base) T
    have G__law_spoilt_line := ok_spL (w := w) (base := base) T
    have l0 := List.length_pos_iff.mpr ne
    refine ⟨_, (pss_cons (ps_set (i := 2) sc__law_spoilt.nd rfl (Or.inl rfl) (pe_call G__law_take (hr.mono (by decide)) rfl T.g__law_take T.F__law_take.kp (B__law_take T) .nil pass0 (pa_cons (pv 0) (pa_cons pe_int pa_nil))))
  (pss_cons (ps_set (i := 3) sc__law_spoilt.nd rfl (Or.inl rfl) (pe_call G__law_take (hr.mono (by decide)) rfl T.g__law_take T.F__law_take.kp (B__law_take T) .nil pass0 (pa_cons (pv 0) (pa_cons (pe_callB call_len (by rfl) T.n_len (by decide +kernel) (pa_cons (pv 1) pa_nil)) pa_nil))))
  (pss_cons (ps_if (pt_cmpR op_eq (pv 2) pe_int (nomark _)) (pss_one (ps_ret (pe_op op_cat (pe_slice sl_list (pv 1) po_none (po_some (pv 3))) (pe_slice sl_list (pv 1) (po_some (pe_op op_add (pv 3) pe_int)) po_none)))) pss_nil)
  (pss_cons (ps_if (pt_cmpR op_eq (pv 2) pe_int (nomark _)) (pss_one (ps_ret (pe_op op_cat (pe_slice sl_list (pv 1) po_none (po_some (pe_op op_add (pv 3) pe_int))) (pe_slice sl_list (pv 1) (po_some (pv 3)) po_none)))) pss_nil)
  (pss_cons (ps_if (PW.pt (pw_and (pt_cmpR op_eq (pv 2) pe_int (nomark _)) (pw_and1 (pt_cmpR op_gt (pv 3) pe_int (nomark _))))) (pss_one (ps_ret (pe_op op_cat (pe_op op_cat (pe_slice sl_list (pv 1) po_none (po_some (pe_op op_sub (pv 3) pe_int))) (pe_lst (pa_cons (pe_ix (r := rIx K) ix_seq (pv 1) (pv 3) (fun _ _ => rfl)) (pa_cons (pe_ix (r := rIx K) ix_seq (pv 1) (pe_op op_sub (pv 3) pe_int) (fun _ _ => rfl)) pa_nil)))) (pe_slice sl_list (pv 1) (po_some (pe_op op_add (pv 3) pe_int)) po_none)))) pss_nil)
  (pss_cons (ps_if (pt_cmpR op_eq (pv 2) pe_int (nomark _)) (pss_one (ps_ret (pe_op op_cat (pe_op op_cat (pe_slice sl_list (pv 1) po_none (po_some (pv 3))) (pe_lst (pa_cons (pe_call G__law_odd (hr.mono (by decide)) rfl T.g__law_odd T.F__law_odd.kp (B__law_odd T) .nil pass0 (pa_cons (pv 0) pa_nil)) pa_nil))) (pe_slice sl_list (pv 1) (po_some (pv 3)) po_none)))) pss_nil)
  (pss_cons (ps_if (pt_cmpR op_eq (pv 2) pe_int (nomark _)) (pss_one (ps_ret (pe_op op_cat (pe_op op_cat (pe_slice sl_list (pv 1) po_none (po_some (pv 3))) (pe_slice sl_list (pv 1) (po_some (pe_op op_add (pv 3) pe_int)) po_none)) (pe_lst (pa_cons (pe_ix (r := rIx K) ix_seq (pv 1) (pv 3) (fun _ _ => rfl)) pa_nil))))) pss_nil)
  (pss_cons (ps_if (pt_cmpR op_eq (pv 2) pe_int (nomark _)) (pss_one (ps_ret (pe_op op_cat (pe_op op_cat (pe_lst (pa_cons (pe_ix (r := rIx K) ix_seq (pv 1) (pv 3) (fun _ _ => rfl)) pa_nil)) (pe_slice sl_list (pv 1) po_none (po_some (pv 3)))) (pe_slice sl_list (pv 1) (po_some (pe_op op_add (pv 3) pe_int)) po_none)))) pss_nil)
  (pss_cons (ps_if (pt_cmpR op_eq (pv 2) pe_int (nomark _)) (pss_one (ps_ret (pe_op op_cat (pv 1) (pe_lst (pa_cons (pe_ix (r := rIx K) ix_seq (pe_lst (pa_cons pe_str (pa_cons pe_str (pa_cons (pe_ix (r := rIx K) ix_seq (pv 1) pe_int (fun _ _ => rfl)) pa_nil)))) (pe_call G__law_take (hr.mono (by decide)) rfl T.g__law_take T.F__law_take.kp (B__law_take T) .nil pass0 (pa_cons (pv 0) (pa_cons pe_int pa_nil))) (fun _ _ => rfl)) pa_nil))))) pss_nil)
  (pss_cons (ps_if (pt_cmpR op_eq (pv 2) pe_int (nomark _)) (pss_one (ps_ret (pe_op op_cat (pe_lst (pa_cons (pe_call G__law_odd (hr.mono (by decide)) rfl T.g__law_odd T.F__law_odd.kp (B__law_odd T) .nil pass0 (pa_cons (pv 0) pa_nil)) pa_nil)) (pe_slice sl_list (pv 1) (po_some pe_int) po_none)))) pss_nil)
  (pss_cons (ps_if (pt_cmpR op_eq (pv 2) pe_int (nomark _)) (pss_one (ps_ret (pe_slice sl_list (pv 1) po_none (po_some (pe_op op_add (pv 3) pe_int))))) pss_nil)
  (pss_one (ps_ret (pe_call G__law_spoilt_line (hr.mono (by decide)) rfl T.g__law_spoilt_line T.F__law_spoilt_line.kp (B__law_spoilt_line T) .nil pass0 (pa_cons (pv 0) (pa_cons (pv 1) (pa_cons (pv 3) pa_nil))))))))))))))))), ?_⟩
    walk_at "sx"
    refine c_take hF (by decide) (by decide) (fun d1 H1 l1 u1 F1 K1 => ?_)
    walk_at "sx"
    refine ⟨_, ls.length, rfl, .inl ⟨_, SqL.of (K1 _ _ la hl), by rw [List.length_map]⟩, ?_⟩
    walk_at "sx"
    refine c_take F1 (by omega) (by omega) (fun d2 H2 l2 u2 F2 K2 => ?_)
    obtain ⟨i, rfl⟩ := Int.eq_ofNat_of_zero_le l2
    have hi : i < ls.length := by omega
    have K02 : Keep a H H2 := K1.trans K2
    have h2 : LsAt H2 l ls := K02 _ _ la hl
    have e1 : (i : Int) + 1 = ((i + 1 : Nat) : Int) := by omega
    clear hl
    walk_at "sx"
    refine i_2 (fun c => ?_) (fun c => ?_)
    · walk_at "sx"
      refine r_slT h2 (Nat.le_of_lt hi) (fun p3 H3 np3 s3 h3 => ?_)
      walk_at "sx"
      rw [e1]
      refine r_slD (h2.same s3) hi (fun p4 H4 np4 s4 h4 => ?_)
      refine r_catT (h3.same s4) h4 (by rw [List.length_take, List.length_drop]; omega) (fun p5 H5 np5 s5 h5 => ?_)
      have S := s3.trans (s4.trans s5)
      refine k p5 _ H5 ((F2.same (s3.trans s4)).ne np5).symm (F2.same S) (K02.trans (Keep.same S)) h5 (by rw [List.length_append, List.length_take, List.length_drop]; omega) fun s hs => ?_
      rcases List.mem_append.mp hs with q | q
      · exact Nat.le_succ_of_le (sm s (List.mem_of_mem_take q))
      · exact Nat.le_succ_of_le (sm s (List.mem_of_mem_drop q))
    walk_at "sx"
    refine i_2 (fun c => ?_) (fun c => ?_)
    · walk_at "sx"
      rw [e1]
      refine r_slT h2 hi (fun p3 H3 np3 s3 h3 => ?_)
      walk_at "sx"
      refine r_slD (h2.same s3) (Nat.le_of_lt hi) (fun p4 H4 np4 s4 h4 => ?_)
      refine r_catT (h3.same s4) h4 (by rw [List.length_take, List.length_drop]; omega) (fun p5 H5 np5 s5 h5 => ?_)
      have S := s3.trans (s4.trans s5)
      refine k p5 _ H5 ((F2.same (s3.trans s4)).ne np5).symm (F2.same S) (K02.trans (Keep.same S)) h5 (by simp; omega) fun s hs => ?_
      simp only [List.mem_append, List.mem_cons, List.not_mem_nil, or_false] at hs
      rcases hs with q | q
      · exact Nat.le_succ_of_le (sm s (List.mem_of_mem_take q))
      · exact Nat.le_succ_of_le (sm s (List.mem_of_mem_drop q))
    obtain ⟨y, hy⟩ : ∃ y, ls[i]? = some y := ⟨_, List.getElem?_eq_getElem hi⟩
    have ly : y.length ≤ m := sm y (List.mem_of_getElem? hy)
    have ay : ∀ {H : Hp} {Q : VK}, LsAt H l ls → Q (.str y) H → rIx K (.ref l) (.int (i : Int)) H Q := fun h q => r_ixL h (atI_nat (by rw [List.getElem?_map, hy]; rfl)) q
    walk_at "sx"
    refine i_2 (fun c => ?_) (fun c => ?_)
    · walk_at "sx"
      refine i_2 (fun c2 => ?_) (fun c2 => ?_)
      · obtain ⟨j, ej⟩ : ∃ j, i = j + 1 := ⟨i - 1, by omega⟩
        obtain ⟨z, hz⟩ : ∃ z, ls[j]? = some z := ⟨_, List.getElem?_eq_getElem (by omega)⟩
        have lz : z.length ≤ m := sm z (List.mem_of_getElem? hz)
        have e3 : (i : Int) - 1 = ((j : Nat) : Int) := by omega
        walk_at "sx"
        rw [e3]
        refine r_slT h2 (by omega) (fun p3 H3 np3 s3 h3 => ?_)
        walk_at "sx"
        refine ay (h2.same s3) ?_
        walk_at "sx"
        refine r_ixL (h2.same s3) (v := .str z) (by rw [e3]; exact atI_nat (by rw [List.getElem?_map, hz]; rfl)) ?_
        walk_at "sx"
        rename_i p4 np4 H4 s4 h4
        refine r_catT (h3.same s4) (zs := [y, z]) h4 (by rw [List.length_take]; simp; omega) (fun p5 H5 np5 s5 h5 => ?_)
        walk_at "sx"
        rw [e1]
        have S5 := s3.trans (s4.trans s5)
        refine r_slD (h2.same S5) hi (fun p6 H6 np6 s6 h6 => ?_)
        refine r_catT (h5.same s6) h6 (by simp; omega) (fun p7 H7 np7 s7 h7 => ?_)
        have S := S5.trans (s6.trans s7)
        refine k p7 _ H7 ((F2.same (S5.trans s6)).ne np7).symm (F2.same S) (K02.trans (Keep.same S)) h7 (by simp <;> omega) fun s hs => ?_
        simp only [List.mem_append, List.mem_cons, List.not_mem_nil, or_false] at hs
        rcases hs with (q | q | q) | q
        · exact Nat.le_succ_of_le (sm s (List.mem_of_mem_take q))
        · exact Nat.le_succ_of_le (by rw [q]; exact ly)
        · exact Nat.le_succ_of_le (by rw [q]; exact lz)
        · exact Nat.le_succ_of_le (sm s (List.mem_of_mem_drop q))
      · walk_at "sx"
        refine i_F (by omega) ?_
        walk_at "sx"
        refine i_F (by omega) ?_
        walk_at "sx"
        refine i_F (by omega) ?_
        walk_at "sx"
        refine i_F (by omega) ?_
        walk_at "sx"
        refine i_F (by omega) ?_
        walk_at "sx"
        refine i_F (by omega) ?_
        walk_at "sx"
        exact ⟨a, l, ls, m, i, rfl, F2, la, h2, hi, sz, sm, m1, m2, fun p ls' H3 pa F3 K3 h3 l3 b3 => k p ls' H3 pa F3 (K02.trans K3) h3 (by omega) b3⟩
    walk_at "sx"
    refine i_2 (fun c => ?_) (fun c => ?_)
    · walk_at "sx"
      refine r_slT h2 (Nat.le_of_lt hi) (fun p3 H3 np3 s3 h3 => ?_)
      walk_at "sx"
      refine ⟨a, rfl, F2.same s3, fun o H4 F4 K4 lo => ?_⟩
      have h3' : LsAt H4 p3 _ := K4 _ _ (F2.ne np3).symm h3
      have h24 : LsAt H4 l ls := K4 _ _ la (h2.same s3)
      have K04 : Keep a H H4 := K02.trans ((Keep.same s3).trans K4)
      walk_at "sx"
      rename_i p4 np4 H5 s5 h5
      refine r_catT (h3'.same s5) (zs := [o]) h5 (by simp; omega) (fun p6 H6 np6 s6 h6 => ?_)
      walk_at "sx"
      refine r_slD (h24.same (s5.trans s6)) (Nat.le_of_lt hi) (fun p7 H7 np7 s7 h7 => ?_)
      refine r_catT (h6.same s7) h7 (by simp; omega) (fun p8 H8 np8 s8 h8 => ?_)
      have S := s5.trans (s6.trans (s7.trans s8))
      refine k p8 _ H8 ((F4.same (s5.trans (s6.trans s7))).ne np8).symm (F4.same S) (K04.trans (Keep.same S)) h8 (by simp; omega) fun s hs => ?_
      simp only [List.mem_append, List.mem_cons, List.not_mem_nil, or_false] at hs
      rcases hs with (q | q) | q
      · exact Nat.le_succ_of_le (sm s (List.mem_of_mem_take q))
      · rw [q]; omega
      · exact Nat.le_succ_of_le (sm s (List.mem_of_mem_drop q))
    walk_at "sx"
    refine i_2 (fun c => ?_) (fun c => ?_)
    · walk_at "sx"
      refine r_slT h2 (Nat.le_of_lt hi) (fun p3 H3 np3 s3 h3 => ?_)
      walk_at "sx"
      rw [e1]
      refine r_slD (h2.same s3) hi (fun p4 H4 np4 s4 h4 => ?_)
      refine r_catT (h3.same s4) h4 (by simp; omega) (fun p5 H5 np5 s5 h5 => ?_)
      have S5 := s3.trans (s4.trans s5)
      walk_at "sx"
      refine ay (h2.same S5) ?_
      walk_at "sx"
      rename_i p6 np6 H6 s6 h6
      refine r_catT (h5.same s6) (zs := [y]) h6 (by simp; omega) (fun p7 H7 np7 s7 h7 => ?_)
      have S := S5.trans (s6.trans s7)
      refine k p7 _ H7 ((F2.same (S5.trans s6)).ne np7).symm (F2.same S) (K02.trans (Keep.same S)) h7 (by simp <;> omega) fun s hs => ?_
      simp only [List.mem_append, List.mem_cons, List.not_mem_nil, or_false] at hs
      rcases hs with (q | q) | q
      · exact Nat.le_succ_of_le (sm s (List.mem_of_mem_take q))
      · exact Nat.le_succ_of_le (sm s (List.mem_of_mem_drop q))
      · exact Nat.le_succ_of_le (by rw [q]; exact ly)
    walk_at "sx"
    refine i_2 (fun c => ?_) (fun c => ?_)
    · walk_at "sx"
      refine ay h2 ?_
      walk_at "sx"
      rename_i p3 np3 H3 s3 h3
      refine r_slT (h2.same s3) (Nat.le_of_lt hi) (fun p4 H4 np4 s4 h4 => ?_)
      have h3' : LsAt H3 p3 [y] := h3
      refine r_catT (h3'.same s4) h4 (by simp; omega) (fun p5 H5 np5 s5 h5 => ?_)
      have S5 := s3.trans (s4.trans s5)
      walk_at "sx"
      rw [e1]
      refine r_slD (h2.same S5) hi (fun p6 H6 np6 s6 h6 => ?_)
      refine r_catT (h5.same s6) h6 (by simp; omega) (fun p7 H7 np7 s7 h7 => ?_)
      have S := S5.trans (s6.trans s7)
      refine k p7 _ H7 ((F2.same (S5.trans s6)).ne np7).symm (F2.same S) (K02.trans (Keep.same S)) h7 (by simp <;> omega) fun s hs => ?_
      simp only [List.mem_append, List.mem_cons, List.not_mem_nil, or_false] at hs
      rcases hs with (q | q) | q
      · exact Nat.le_succ_of_le (by rw [q]; exact ly)
      · exact Nat.le_succ_of_le (sm s (List.mem_of_mem_take q))
      · exact Nat.le_succ_of_le (sm s (List.mem_of_mem_drop q))
    walk_at "sx"
    refine i_2 (fun c => ?_) (fun c => ?_)
    · obtain ⟨z, hz⟩ : ∃ z, ls[0]? = some z := ⟨_, List.getElem?_eq_getElem l0⟩
      have lz : z.length ≤ m := sm z (List.mem_of_getElem? hz)
      walk_at "sx"
      refine r_ixL h2 (v := .str z) (atI_nat (j := 0) (by rw [List.getElem?_map, hz]; rfl)) ?_
      walk_at "sx"
      rename_i p3 np3 H3 s3 h3
      have h3' : LsAt H3 p3 [Str.ofString "", Str.ofString " ", z] := h3
      clear h3
      refine c_take (F2.same s3) (by decide) (by decide) (fun d3 H4 l3 u3 F4 K4 => ?_)
      obtain ⟨j, rfl⟩ := Int.eq_ofNat_of_zero_le l3
      have h24 : LsAt H4 l ls := K4 _ _ la (h2.same s3)
      have h34 : LsAt H4 p3 _ := K4 _ _ (F2.ne np3).symm h3'
      have K04 : Keep a H H4 := K02.trans ((Keep.same s3).trans K4)
      obtain ⟨o, ho⟩ : ∃ o, [Str.ofString "", Str.ofString " ", z][j]? = some o := ⟨_, List.getElem?_eq_getElem (by simp; omega)⟩
      have lo : o.length ≤ m := by
        have := List.mem_of_getElem? ho
        simp only [List.mem_cons, List.not_mem_nil, or_false] at this
        rcases this with rfl | rfl | rfl
        · rw [show (Str.ofString "").length = 0 by decide +kernel]
          omega
        · rw [show (Str.ofString " ").length = 1 by decide +kernel]
          omega
        · exact lz
      refine r_ixL h34 (v := .str o) (atI_nat (by rw [List.getElem?_map, ho]; rfl)) ?_
      walk_at "sx"
      rename_i p5 np5 H5 s5 h5
      refine r_catT (h24.same s5) (zs := [o]) h5 (by simp; omega) (fun p6 H6 np6 s6 h6 => ?_)
      have S := s5.trans s6
      refine k p6 _ H6 ((F4.same s5).ne np6).symm (F4.same S) (K04.trans (Keep.same S)) h6 (by simp <;> omega) fun s hs => ?_
      simp only [List.mem_append, List.mem_cons, List.not_mem_nil, or_false] at hs
      rcases hs with q | q
      · exact Nat.le_succ_of_le (sm s q)
      · rw [q]; omega
    walk_at "sx"
    refine i_2 (fun c => ?_) (fun c => ?_)
    · walk_at "sx"
      refine ⟨a, rfl, F2, fun o H4 F4 K4 lo => ?_⟩
      have h24 : LsAt H4 l ls := K4 _ _ la h2
      have K04 : Keep a H H4 := K02.trans K4
      walk_at "sx"
      rename_i p4 np4 H5 s5 h5
      have h5' : LsAt H5 p4 [o] := h5
      refine r_slD (i := 1) (h24.same s5) (by omega) (fun p6 H6 np6 s6 h6 => ?_)
      refine r_catT (h5'.same s6) h6 (by simp; omega) (fun p7 H7 np7 s7 h7 => ?_)
      have S := s5.trans (s6.trans s7)
      refine k p7 _ H7 ((F4.same (s5.trans s6)).ne np7).symm (F4.same S) (K04.trans (Keep.same S)) h7 (by simp <;> omega) fun s hs => ?_
      simp only [List.mem_append, List.mem_cons, List.not_mem_nil, or_false] at hs
      rcases hs with q | q
      · rw [q]; omega
      · exact Nat.le_succ_of_le (sm s (List.mem_of_mem_drop q))
    walk_at "sx"
    refine i_2 (fun c => ?_) (fun c => ?_)
    · walk_at "sx"
      rw [e1]
      refine r_slT h2 hi (fun p3 H3 np3 s3 h3 => ?_)
      exact k p3 _ H3 (F2.ne np3).symm (F2.same s3) (K02.trans (Keep.same s3)) h3 (by rw [List.length_take]; omega) fun s hs => Nat.le_succ_of_le (sm s (List.mem_of_mem_take hs))
    walk_at "sx"
    exact ⟨a, l, ls, m, i, rfl, F2, la, h2, hi, sz, sm, m1, m2, fun p ls' H3 pa F3 K3 h3 l3 b3 => k p ls' H3 pa F3 (K02.trans K3) h3 (by omega) b3⟩
end
end K09

set_option Elab.async false
set_option linter.all false
set_option maxRecDepth 100000
set_option maxHeartbeats 4000000
namespace K09
open PySem L2 Sx TL
local macro_rules | `(tactic| walk_at "cond") => `(tactic| first
  | assumption
  | decide
  | exact c_mul_r (by first | decide | omega) (by first | decide | omega)
  | exact c_mul_l (by first | decide | omega) (by first | decide | omega)
  | exact c_div (by first | decide | omega) (by first | decide | omega)
  | exact c_pow (by first | decide | omega) (by first | decide | omega) (by first | decide | omega)
  | omega)
local macro_rules | `(tactic| walk_at "ne") => `(tactic| first
  | assumption
  | (refine Ne.symm ?_; assumption)
  | (refine' Flow.ne ?nh ?nn; (case nn => assumption); (case nh => walk_at "fl"))
  | (refine Ne.symm ?_; refine' Flow.ne ?nh ?nn; (case nn => assumption); (case nh => walk_at "fl"))
  | (refine' ne_of_none ?nh ?nn; (case nn => assumption); (case nh => walk_at "at"))
  | (refine Ne.symm ?_; refine' ne_of_none ?nh ?nn; (case nn => assumption); (case nh => walk_at "at")))
local macro_rules | `(tactic| walk_at "at") => `(tactic| first
  | assumption
  | (refine Same.up (by assumption) ?_; walk_at "at")
  | (refine Keep.up (by assumption) (by walk_at "ne") ?_; walk_at "at"))
local macro_rules | `(tactic| walk_at "fl") => `(tactic| first
  | assumption
  | (refine Flow.same (by assumption) ?_; walk_at "fl")
  | (refine Flow.keep (by assumption) (by walk_at "ne") ?_; walk_at "fl"))
local macro_rules | `(tactic| walk_at "fr") => `(tactic| first
  | assumption
  | (refine same_free (by assumption) ?_; walk_at "fr")
  | (refine Keep.free (by assumption) (by walk_at "ne") ?_; walk_at "fr"))
local macro_rules | `(tactic| walk_at "kp") => `(tactic| first
  | assumption
  | exact Keep.refl _ _
  | (refine Keep.trans ?_ (by assumption); walk_at "kp")
  | (refine Keep.trans ?_ (Keep.same (by assumption)); walk_at "kp"))
local macro_rules | `(tactic| walk_at "sm") => `(tactic| first
  | assumption
  | exact L2.Same.refl _
  | (refine L2.Same.trans ?_ (by assumption); walk_at "sm"))
local macro_rules | `(tactic| walk_at "sz") => `(tactic| first | exact Nat.le_of_ble_eq_true rfl | omega)
local macro_rules | `(tactic| walk_at "new") => `(tactic| (intro p np; generalize hE : upd _ p _ = H2; have s2 := new_same np hE; have h2 := new_at hE; clear hE))
local macro_rules | `(tactic| walk_at "newx") => `(tactic| (intro e d na nd hda; generalize hE : upd (upd _ d _) e _ = H2; have s2 := newx_same na nd hE; have h2 := newx_at hE; have h3 := newx_d hda hE; clear hE))
local macro_rules | `(tactic| walk_at "s1") => `(tactic| first
  | with_reducible refine s_seq ?_
  | with_reducible refine s_asg ?_
  | with_reducible refine s_name ?_
  | with_reducible refine s_ret ?_
  | with_reducible refine s_c ?_
  | ((with_reducible refine' s_var ?hv ?_); (case hv => rfl))
  | with_reducible refine s_op ?_
  | with_reducible refine s_un ?_
  | with_reducible refine s_ifS ?_
  | with_reducible refine s_cb ?_
  | with_reducible refine s_cons ?_
  | with_reducible refine s_nil ?_
  | with_reducible refine s_call ?_
  | with_reducible refine s_test ?_
  | with_reducible refine s_tB ?_
  | with_reducible refine s_bl ?_
  | with_reducible refine s_and ?_
  | with_reducible refine s_or ?_
  | with_reducible refine s_not ?_
  | with_reducible refine s_andV ?_
  | with_reducible refine s_orV ?_
  | with_reducible refine s_notV ?_
  | with_reducible refine s_blV ?_
  | with_reducible refine s_if ?_
  | with_reducible refine s_tup ?_
  | with_reducible refine s_lst ?_
  | with_reducible refine s_drop ?_
  | with_reducible refine s_next ?_
  | with_reducible refine s_sub ?_
  | with_reducible refine s_bm ?_
  | with_reducible refine s_callK ?_
  | with_reducible refine s_brk ?_
  | with_reducible refine s_cont ?_
  | with_reducible refine r_I0 ?_
  | with_reducible refine r_U ?_
  | with_reducible refine r_eqI ?_
  | with_reducible refine r_neI ?_
  | with_reducible refine r_isB ?_
  | with_reducible refine r_notB ?_
  | with_reducible refine i_t ?_
  | with_reducible refine i_f ?_
  | with_reducible refine i_nt ?_
  | with_reducible refine i_nf ?_
  | ((with_reducible refine' r_I ?hc ?_); (case hc => walk_at "cond"))
  | (with_reducible refine .inl ⟨_, rfl, ?_⟩)
  | (with_reducible refine ⟨_, rfl, ?_⟩)
  | ((with_reducible refine' r_ixL ?hx ?ha ?_); (case hx => walk_at "at"); (case ha => rfl))
  | ((with_reducible refine' r_ixT ?hx ?ha ?_); (case hx => walk_at "at"); (case ha => rfl))
  | ((with_reducible refine' r_setL ?hx ?ha ?_); (case hx => walk_at "at"); (case ha => rfl); intro H2 k2 h2; (try dsimp only [List.set, Int.toNat] at h2))
  | ((with_reducible refine' r_app ?hx ?hl ?_); (case hx => walk_at "at"); (case hl => first | exact Nat.lt_of_ble_eq_true rfl | omega); intro H2 k2 h2)
  | ((with_reducible refine' ty_list ?hx ?_); (case hx => walk_at "at"))
  | (refine And.intro (by (with_reducible show _ ≤ sizeLine); walk_at "sz") ?_; walk_at "new")
  | with_reducible refine s_exv ?_
  | walk_at "newx")
local macro_rules | `(tactic| walk_at "sx") => `(tactic| repeat (walk_at "s1"))
local macro_rules | `(tactic| walk_at "s2") => `(tactic| first
  | ((with_reducible refine' r_ixG ?hx ?hn ?_); (case hx => walk_at "at"); (case hn => omega))
  | ((with_reducible refine' r_ixGT ?hx ?hn ?_); (case hx => walk_at "at"); (case hn => omega))
  | (with_reducible refine ig_cons (fun hix => ?_) (fun hix => ?_))
  | ((with_reducible refine ig_nil ?_); omega)
  | ((with_reducible refine' i_T ?hc ?_); (case hc => omega))
  | ((with_reducible refine' i_F ?hc ?_); (case hc => omega))
  | (with_reducible refine i_2 (fun hc => ?_) (fun hc => ?_))
  | (with_reducible refine i_n2 (fun hc => ?_) (fun hc => ?_)))
local macro_rules | `(tactic| walk_at "go") => `(tactic| repeat' (first | walk_at "s1" | walk_at "s2"))

local macro_rules | `(tactic| walk_at "s1") => `(tactic| first
  | with_reducible refine s_chain ?_
  | with_reducible refine s_fldS ?_
  | with_reducible refine s_fld ?_
  | with_reducible refine s_dIn ?_
  | with_reducible refine s_dNotIn ?_
  | with_reducible refine s_sl ?_
  | with_reducible refine s_noPart ?_
  | with_reducible refine s_part ?_
  | with_reducible refine s_meth ?_
  | with_reducible refine s_make ?_)

local macro_rules | `(tactic| walk_at "s1") => `(tactic| first
  | with_reducible refine s_m1 ?_
  | with_reducible refine s_strE ?_
  | with_reducible refine s_js ?_
  | with_reducible refine s_js0 ?_
  | with_reducible refine s_fmt ?_)
theorem sumL_le {m : Nat} : ∀ ls : List Str, (∀ s ∈ ls, s.length ≤ m) → (ls.map (·.length)).sum ≤ ls.length * m
  | [], _ => by simp
  | s :: ls, h => by
    have a := h s (by simp)
    have b := sumL_le ls fun x hx => h x (by simp [hx])
    rw [List.map_cons, List.sum_cons, List.length_cons, Nat.succ_mul]
    omega
theorem joinN_le (y : Str) : ∀ parts : List Str, (Str.join y parts).length ≤ (parts.map (·.length)).sum + parts.length * y.length
  | [] => by
    rw [show Str.join y [] = Str.ofString "" from rfl, show (Str.ofString "").length = 0 by decide +kernel]
    omega
  | [x] => by
    show x.length ≤ _
    simp
  | x :: z :: r => by
    have ih := joinN_le y (z :: r)
    show (x ++ y ++ Str.join y (z :: r)).length ≤ _
    rw [app_len, app_len]
    simp only [List.map_cons, List.sum_cons, List.length_cons] at *
    rw [Nat.succ_mul]
    omega
theorem ls_flow {H : Hp} {p : Addr} {ls : List Str} (h : H p = some (.lst (ls.map V.str))) (f : Flow H p) : False := by
  obtain ⟨c, n, b, q, e⟩ := f
  rw [h] at e
  cases ls with
  | nil => simp at e
  | cons x xs => simp at e
section
variable {P : Program} {w : World} {K : PySem.W.Frag} {mg : Str → Option Value} {base : Heap} {A : Ad}
def spText : Sp := fun vs H Q _ => ∃ a, vs = [.ref a] ∧ Flow H a ∧ ∀ (t : Str) H', Flow H' a → Keep a H H' → t.length < 400 → Q (.str t) H'
theorem ok_text (T : Txt P K mg A) : FnOk P w K mg base CX0 5 A.a__law_text A.d__law_text ["flow"] spText := by
  refine T.F__law_text.ok sc__law_text (fun vs H Q E h => ?_) (fun cdv A' outer s H vs Q E hr h => ?_)
  · obtain ⟨a, rfl, _⟩ := h
    rfl
  · obtain ⟨a, rfl, hF, k⟩ := h
    have G__law_take := ok_take (w := w) (base := base) T
    have G__law_lines := ok_lines (w := w) (base := base) T
    have G__law_spoilt := ok_sp (w := w) (base := base) T
    refine ⟨_, (pss_cons (ps_set (i := 1) sc__law_text.nd rfl (Or.inl rfl) (pe_call G__law_lines (hr.mono (by decide)) rfl T.g__law_lines T.F__law_lines.kp (B__law_lines T) .nil pass0 (pa_cons (pv 0) pa_nil)))
  (pss_cons (ps_for PassesOwn.never rfl (pi_range1 rfl T.n_range (pa_cons (pe_call G__law_take (hr.mono (by decide)) rfl T.g__law_take T.F__law_take.kp (B__law_take T) .nil pass0 (pa_cons (pv 0) (pa_cons pe_int pa_nil))) pa_nil)) (pg_name (i := 2) sc__law_text.nd rfl (Or.inl rfl))
  (pss_one (ps_if (pt_cmpR op_gt (pe_callB call_len (by rfl) T.n_len (by decide +kernel) (pa_cons (pv 1) pa_nil)) pe_int (nomark _)) (pss_one (ps_set (i := 1) sc__law_text.nd rfl (Or.inl rfl) (pe_call G__law_spoilt (hr.mono (by decide)) rfl T.g__law_spoilt T.F__law_spoilt.kp (B__law_spoilt T) .nil pass0 (pa_cons (pv 0) (pa_cons (pv 1) pa_nil))))) pss_nil)))
  (pss_cons (ps_set (i := 3) sc__law_text.nd rfl (Or.inl rfl) (pe_join pe_str (pv 1)))
  (pss_cons (ps_if (pt_cmpR op_eq (pe_call G__law_take (hr.mono (by decide)) rfl T.g__law_take T.F__law_take.kp (B__law_take T) .nil pass0 (pa_cons (pv 0) (pa_cons pe_int pa_nil))) pe_int (nomark _)) (pss_one (ps_set (i := 3) sc__law_text.nd rfl (Or.inl rfl) (pe_slice sl_str (pv 3) po_none (po_some (pe_call G__law_take (hr.mono (by decide)) rfl T.g__law_take T.F__law_take.kp (B__law_take T) .nil pass0 (pa_cons (pv 0) (pa_cons (pe_op op_add (pe_callB call_len (by rfl) T.n_len (by decide +kernel) (pa_cons (pv 3) pa_nil)) pe_int) pa_nil))))))) pss_nil)
  (pss_one (ps_ret (pv 3))))))), ?_⟩
    walk_at "sx"
    refine ⟨a, rfl, hF, fun l ls H1 F1 K1 h1 sz sm => ?_⟩
    have la : l ≠ a := fun e => ls_flow h1 (e ▸ F1)
    have h1' : LsAt H1 l ls := h1
    clear h1
    walk_at "sx"
    unfold tFor iRng1
    walk_at "sx"
    refine c_take F1 (by decide) (by decide) (fun d2 H2 l2 u2 F2 K2 => ?_)
    obtain ⟨c, rfl⟩ := Int.eq_ofNat_of_zero_le l2
    have h2' : LsAt H2 l ls := K2 _ _ la h1'
    walk_at "sx"
    refine ⟨by omega, by omega, for_range (lo := 0) (n := c) (fun i σ H' => Flow H' a ∧ Keep a H H' ∧ ∃ (l : Addr) (ls : List Str) (v2 : Option V), l ≠ a ∧ (True → LsAt H' l ls) ∧ ls.length ≤ 17 + i ∧ (∀ s ∈ ls, s.length ≤ 13 + i) ∧ σ = [some (.ref a), some (.ref l), v2, none]) ?_ ?_ ?_⟩
    · exact ⟨F2, K1.trans K2, l, ls, none, la, fun _ => h2', by omega, sm, rfl⟩
    · rintro i σ H' hi ⟨F', K', l, ls, v2, la, hl, sz, sm, rfl⟩
      walk_at "sx"
      refine ⟨_, ls.length, rfl, .inl ⟨_, SqL.of (hl trivial), by rw [List.length_map]⟩, ?_⟩
      walk_at "sx"
      refine i_2 (fun c0 => ?_) (fun c0 => ?_)
      · have ne : ls ≠ [] := fun e => by rw [e] at c0; simp at c0
        walk_at "sx"
        refine ⟨a, l, ls, 13 + i, rfl, F', la, hl trivial, ne, by omega, sm, by omega, by omega, fun p ls' H3 pa F3 K3 h3 l3 b3 => ?_⟩
        refine s_name ?_
        exact ⟨F3, K'.trans K3, p, ls', _, pa, fun _ => h3, by omega, b3, rfl⟩
      · walk_at "sx"
        exact ⟨F', K', l, ls, _, la, hl, by omega, fun s hs => Nat.le_succ_of_le (sm s hs), rfl⟩
    · rintro σ H' ⟨F', K', l, ls, v2, la, hl, sz, sm, rfl⟩
      have jl : (Txt.join nl ls).length < 400 := by
        have a1 := joinN_le nl ls
        have a2 := sumL_le (m := 15) ls fun s hs => Nat.le_trans (sm s hs) (by omega)
        rw [show nl.length = 1 by decide +kernel] at a1
        rw [join_eq]
        omega
      have js : (ls.map (·.length)).sum + ls.length * nl.length ≤ 16777216 := by
        have a2 := sumL_le (m := 15) ls fun s hs => Nat.le_trans (sm s hs) (by omega)
        rw [show nl.length = 1 by decide +kernel]
        omega
      walk_at "sx"
      refine ⟨nl, l, ls, rfl, rfl, .inl (SqL.of (hl trivial)), js, ?_⟩
      generalize Txt.join nl ls = t at jl
      walk_at "sx"
      refine c_take F' (by decide) (by decide) (fun d4 H4 l4 u4 F4 K4 => ?_)
      have K04 : Keep a H H4 := K'.trans K4
      walk_at "sx"
      refine i_2 (fun c0 => ?_) (fun c0 => ?_)
      · walk_at "sx"
        refine ⟨_, t.length, rfl, ⟨by rw [sizeLine_eq]; omega, rfl⟩, ?_⟩
        walk_at "sx"
        refine c_take F4 (by omega) (by omega) (fun d5 H5 l5 u5 F5 K5 => ?_)
        refine ⟨_, rfl, t, rfl, by rw [sizeLine_eq]; omega, ?_⟩
        have lc := len_cut t none (some d5)
        generalize cutS t none (some d5) = t' at lc
        walk_at "sx"
        exact k t' H5 F5 (K04.trans K5) (by omega)
      · walk_at "sx"
        exact k t H4 F4 K04 jl
end
end K09

set_option Elab.async false
set_option linter.all false
set_option maxRecDepth 100000
set_option maxHeartbeats 4000000
namespace K09
open PySem L2 Sx
local macro_rules | `(tactic| walk_at "cond") => `(tactic| first
  | assumption
  | decide
  | exact c_mul_r (by first | decide | omega) (by first | decide | omega)
  | exact c_mul_l (by first | decide | omega) (by first | decide | omega)
  | exact c_div (by first | decide | omega) (by first | decide | omega)
  | exact c_pow (by first | decide | omega) (by first | decide | omega) (by first | decide | omega)
  | omega)
local macro_rules | `(tactic| walk_at "ne") => `(tactic| first
  | assumption
  | (refine Ne.symm ?_; assumption)
  | (refine' Flow.ne ?nh ?nn; (case nn => assumption); (case nh => walk_at "fl"))
  | (refine Ne.symm ?_; refine' Flow.ne ?nh ?nn; (case nn => assumption); (case nh => walk_at "fl"))
  | (refine' ne_of_none ?nh ?nn; (case nn => assumption); (case nh => walk_at "at"))
  | (refine Ne.symm ?_; refine' ne_of_none ?nh ?nn; (case nn => assumption); (case nh => walk_at "at")))
local macro_rules | `(tactic| walk_at "at") => `(tactic| first
  | assumption
  | (refine Same.up (by assumption) ?_; walk_at "at")
  | (refine Keep.up (by assumption) (by walk_at "ne") ?_; walk_at "at"))
local macro_rules | `(tactic| walk_at "fl") => `(tactic| first
  | assumption
  | (refine Flow.same (by assumption) ?_; walk_at "fl")
  | (refine Flow.keep (by assumption) (by walk_at "ne") ?_; walk_at "fl"))
local macro_rules | `(tactic| walk_at "fr") => `(tactic| first
  | assumption
  | (refine same_free (by assumption) ?_; walk_at "fr")
  | (refine Keep.free (by assumption) (by walk_at "ne") ?_; walk_at "fr"))
local macro_rules | `(tactic| walk_at "kp") => `(tactic| first
  | assumption
  | exact Keep.refl _ _
  | (refine Keep.trans ?_ (by assumption); walk_at "kp")
  | (refine Keep.trans ?_ (Keep.same (by assumption)); walk_at "kp"))
local macro_rules | `(tactic| walk_at "sm") => `(tactic| first
  | assumption
  | exact L2.Same.refl _
  | (refine L2.Same.trans ?_ (by assumption); walk_at "sm"))
local macro_rules | `(tactic| walk_at "sz") => `(tactic| first | exact Nat.le_of_ble_eq_true rfl | omega)
local macro_rules | `(tactic| walk_at "new") => `(tactic| (intro p np; generalize hE : upd _ p _ = H2; have s2 := new_same np hE; have h2 := new_at hE; clear hE))
local macro_rules | `(tactic| walk_at "newx") => `(tactic| (intro e d na nd hda; generalize hE : upd (upd _ d _) e _ = H2; have s2 := newx_same na nd hE; have h2 := newx_at hE; have h3 := newx_d hda hE; clear hE))
local macro_rules | `(tactic| walk_at "s1") => `(tactic| first
  | with_reducible refine s_seq ?_
  | with_reducible refine s_asg ?_
  | with_reducible refine s_name ?_
  | with_reducible refine s_ret ?_
  | with_reducible refine s_c ?_
  | ((with_reducible refine' s_var ?hv ?_); (case hv => rfl))
  | with_reducible refine s_op ?_
  | with_reducible refine s_un ?_
  | with_reducible refine s_ifS ?_
  | with_reducible refine s_cb ?_
  | with_reducible refine s_cons ?_
  | with_reducible refine s_nil ?_
  | with_reducible refine s_call ?_
  | with_reducible refine s_test ?_
  | with_reducible refine s_tB ?_
  | with_reducible refine s_bl ?_
  | with_reducible refine s_and ?_
  | with_reducible refine s_or ?_
  | with_reducible refine s_not ?_
  | with_reducible refine s_andV ?_
  | with_reducible refine s_orV ?_
  | with_reducible refine s_notV ?_
  | with_reducible refine s_blV ?_
  | with_reducible refine s_if ?_
  | with_reducible refine s_tup ?_
  | with_reducible refine s_lst ?_
  | with_reducible refine s_drop ?_
  | with_reducible refine s_next ?_
  | with_reducible refine s_sub ?_
  | with_reducible refine s_bm ?_
  | with_reducible refine s_callK ?_
  | with_reducible refine s_brk ?_
  | with_reducible refine s_cont ?_
  | with_reducible refine r_I0 ?_
  | with_reducible refine r_U ?_
  | with_reducible refine r_eqI ?_
  | with_reducible refine r_neI ?_
  | with_reducible refine r_isB ?_
  | with_reducible refine r_notB ?_
  | with_reducible refine i_t ?_
  | with_reducible refine i_f ?_
  | with_reducible refine i_nt ?_
  | with_reducible refine i_nf ?_
  | ((with_reducible refine' r_I ?hc ?_); (case hc => walk_at "cond"))
  | (with_reducible refine .inl ⟨_, rfl, ?_⟩)
  | (with_reducible refine ⟨_, rfl, ?_⟩)
  | ((with_reducible refine' r_ixL ?hx ?ha ?_); (case hx => walk_at "at"); (case ha => rfl))
  | ((with_reducible refine' r_ixT ?hx ?ha ?_); (case hx => walk_at "at"); (case ha => rfl))
  | ((with_reducible refine' r_setL ?hx ?ha ?_); (case hx => walk_at "at"); (case ha => rfl); intro H2 k2 h2; (try dsimp only [List.set, Int.toNat] at h2))
  | ((with_reducible refine' r_app ?hx ?hl ?_); (case hx => walk_at "at"); (case hl => first | exact Nat.lt_of_ble_eq_true rfl | omega); intro H2 k2 h2)
  | ((with_reducible refine' ty_list ?hx ?_); (case hx => walk_at "at"))
  | (refine And.intro (by (with_reducible show _ ≤ sizeLine); walk_at "sz") ?_; walk_at "new")
  | with_reducible refine s_exv ?_
  | walk_at "newx")
local macro_rules | `(tactic| walk_at "sx") => `(tactic| repeat (walk_at "s1"))
local macro_rules | `(tactic| walk_at "s2") => `(tactic| first
  | ((with_reducible refine' r_ixG ?hx ?hn ?_); (case hx => walk_at "at"); (case hn => omega))
  | ((with_reducible refine' r_ixGT ?hx ?hn ?_); (case hx => walk_at "at"); (case hn => omega))
  | (with_reducible refine ig_cons (fun hix => ?_) (fun hix => ?_))
  | ((with_reducible refine ig_nil ?_); omega)
  | ((with_reducible refine' i_T ?hc ?_); (case hc => omega))
  | ((with_reducible refine' i_F ?hc ?_); (case hc => omega))
  | (with_reducible refine i_2 (fun hc => ?_) (fun hc => ?_))
  | (with_reducible refine i_n2 (fun hc => ?_) (fun hc => ?_)))
local macro_rules | `(tactic| walk_at "go") => `(tactic| repeat' (first | walk_at "s1" | walk_at "s2"))

local macro_rules | `(tactic| walk_at "s1") => `(tactic| first
  | with_reducible refine s_chain ?_
  | with_reducible refine s_fldS ?_
  | with_reducible refine s_fld ?_
  | with_reducible refine s_dIn ?_
  | with_reducible refine s_dNotIn ?_
  | with_reducible refine s_sl ?_
  | with_reducible refine s_noPart ?_
  | with_reducible refine s_part ?_
  | with_reducible refine s_meth ?_
  | with_reducible refine s_make ?_)

section
variable {P : Program} {w : World} {K : PySem.W.Frag} {mg : Str → Option Value} {base : Heap} {A : Ad}
def spLaw (K : PySem.W.Frag) : Sp := fun vs H Q _ => ∃ (a : Addr) (ns : List Int), vs = [.ref a] ∧ SqL K H a (ns.map V.int) ∧ ns.length ≤ 63 ∧ ∀ H', Q (.bl true) H'
theorem ok_law (T : Txt P K mg A) : FnOk P w K mg base CX0 12 A.a_law A.d_law ["script"] (spLaw K) := by
  refine T.F_law.ok sc_law (fun vs H Q E h => ?_) (fun cdv A' outer s H vs Q E hr h => ?_)
  · obtain ⟨a, ns, rfl, _⟩ := h
    rfl
  · obtain ⟨l, ns, rfl, hl, hn, k⟩ := h
    have G__law_flow := ok_flow (w := w) (base := base) T
    have G__law_text := ok_text (w := w) (base := base) T
    have G__law_asked := ok_ask (w := w) (base := base) T
    refine ⟨_, (pss_cons (ps_setLc (i := 1) (own := [("k", 4)]) (g := (gName 4)) (by rfl) sc_law.nd rfl rfl (sw_true rfl rfl rfl (by decide +kernel)) (pi_range1 rfl T.n_range (pa_cons pe_int pa_nil)) (blkOk_by (own := [("k", 4)]) (N := ["script", "asked", "turn", "text", "k"]) (sc := defScope s_law) (by decide +kernel)) (fun _ _ _ _ _ => (pg_name (i := 4) sc_law.nd rfl (Or.inl rfl))) (fun _ _ _ _ _ => pts_nil) (fun _ _ _ _ _ => (pe_call G__law_text (hr.mono (by decide)) rfl T.g__law_text T.F__law_text.kp (B__law_text T) .nil pass0 (pa_cons (pe_call G__law_flow (hr.mono (by decide)) rfl T.g__law_flow T.F__law_flow.kp (B__law_flow T) .nil pass0 (pa_cons (pv 0) (pa_cons (pv 4) pa_nil))) pa_nil))))
  (pss_cons (ps_try_thru0 (pss_one (ps_for PassesOwn.never rfl (pi_range1 rfl T.n_range (pa_cons pe_int pa_nil)) (pg_name (i := 2) sc_law.nd rfl (Or.inl rfl))
  (pss_one (ps_for PassesOwn.never rfl (pi_list (pv 1)) (pg_name (i := 3) sc_law.nd rfl (Or.inl rfl))
  (pss_one (ps_if (pt_not (pt_val (pe_call G__law_asked (hr.mono (by decide)) rfl T.g__law_asked T.F__law_asked.kp (B__law_asked T) .nil pass0 (pa_cons (pv 3) pa_nil)))) (pss_one (ps_ret pe_bl)) pss_nil)))))))
  (pss_one (ps_ret pe_bl)))), ?_⟩
    walk_at "sx"
    refine ⟨_, rfl, by decide, by decide, fun D hD => lc_range (lo := 0) (n := 6) (fun i H' => Same H H' ∧ ∃ ts : List Str, H' D = some (.lst (ts.map V.str)) ∧ ts.length = i ∧ ∀ t ∈ ts, t.length < 400) ⟨Same.new hD, [], upd_same, rfl, fun t (h : t ∈ []) => by cases h⟩ ?_ ?_⟩
    · rintro i H' hi ⟨s', ts, hd, lt, hs⟩
      refine s_name ⟨rfl, ?_⟩
      refine s_yes (i_t ?_)
      walk_at "sx"
      refine c_flow (by omega) (s'.seq hl) fun f H1 n1 s1 F1 => ?_
      walk_at "sx"
      refine ⟨f, rfl, F1, fun t H2 F2 K2 lt2 => ?_⟩
      have s2 : Same H' H2 := Keep.toSame s1 n1 K2
      have h2 := s2 _ _ hd
      refine ⟨_, h2, by rw [List.length_map, lt, sizeLine_eq]; omega, Sx.Same.put (s'.trans s2) hD, ts ++ [t], ?_, by rw [List.length_append, lt]; rfl, fun y hy => ?_⟩
      · rw [upd_same, List.map_append]
        rfl
      · rcases List.mem_append.mp hy with q | q
        · exact hs y q
        · rw [List.mem_singleton.mp q]
          exact lt2
    · rintro H1 ⟨s1, ts, hd, lt, hs⟩
      have hd1 : True → H1 D = some (.lst (ts.map V.str)) := fun _ => hd
      clear hd
      walk_at "sx"
      refine ⟨_, rfl, by decide, by decide, for_range (lo := 0) (n := 2) (fun i σ H' => Same H1 H' ∧ ∃ v2 v3 v4 : Option V, σ = [some (.ref l), some (.ref D), v2, v3, v4]) ⟨L2.Same.refl _, _, _, _, rfl⟩ ?_ ?_⟩
      · rintro i σ H' hi ⟨s', v2, v3, v4, rfl⟩
        walk_at "sx"
        refine ⟨_, rfl, D, rfl, ⟨_, SqL.of (s' _ _ (hd1 trivial))⟩, for_list (K := K) (a := D) (xs := ts.map V.str) (fun j σ H2 => Same H1 H2 ∧ ∃ v3 v4 : Option V, σ = [some (.ref l), some (.ref D), some (.int (0 + (i : Int))), v3, v4]) ⟨s', _, _, rfl⟩ (fun j σ H2 _ h => SqL.of (h.1 _ _ (hd1 trivial))) ?_ ?_⟩
        · rintro j x σ H2 hx ⟨s2, v3, v4, rfl⟩
          obtain ⟨t, ht, rfl⟩ : ∃ t, ts[j]? = some t ∧ V.str t = x := by
            rw [List.getElem?_map] at hx
            exact Option.map_eq_some_iff.mp hx
          walk_at "sx"
          refine ⟨t, rfl, hs t (List.mem_of_getElem? ht), fun H3 s3 => ?_⟩
          walk_at "sx"
          exact ⟨s2.trans s3, _, _, rfl⟩
        · rintro σ H2 ⟨s2, v3, v4, rfl⟩
          walk_at "sx"
          exact ⟨s2, _, _, _, rfl⟩
      · rintro σ H' ⟨s', v2, v3, v4, rfl⟩
        walk_at "sx"
        exact k H'
end
abbrev sI_InvalidText : Stmt := inClass (top 9) 0
theorem all_mk {l : PySem.W.OpenLaw} {w : World} {K : PySem.W.Frag} {h : Heap} {mg : Str → Option Value} {fa : Addr} (X : K.In h) (G : h.Ns mainGlobals mg) (hfa : mg "law" = some (.ref fa))
    {C_Lines : Addr} {C_Rules : Addr} {f0 : Addr} {od0 an0 : Option Addr} {sl0 : Array (Option Value)} {oc0 kV0 dc0 pm0 cd0 ct0 : Value} {f1 : Addr} {od1 an1 : Option Addr} {sl1 : Array (Option Value)} {oc1 kV1 dc1 pm1 cd1 ct1 : Value} {f2 : Addr} {od2 an2 : Option Addr} {sl2 : Array (Option Value)} {oc2 kV2 dc2 pm2 cd2 ct2 : Value} {f3 : Addr} {od3 an3 : Option Addr} {sl3 : Array (Option Value)} {oc3 kV3 dc3 pm3 cd3 ct3 : Value} {f4 : Addr} {od4 an4 : Option Addr} {sl4 : Array (Option Value)} {oc4 kV4 dc4 pm4 cd4 ct4 : Value} {f5 : Addr} {od5 an5 : Option Addr} {sl5 : Array (Option Value)} {oc5 kV5 dc5 pm5 cd5 ct5 : Value} {f6 : Addr} {od6 an6 : Option Addr} {sl6 : Array (Option Value)} {oc6 kV6 dc6 pm6 cd6 ct6 : Value} {f7 : Addr} {od7 an7 : Option Addr} {sl7 : Array (Option Value)} {oc7 kV7 dc7 pm7 cd7 ct7 : Value} {f8 : Addr} {od8 an8 : Option Addr} {sl8 : Array (Option Value)} {oc8 kV8 dc8 pm8 cd8 ct8 : Value} {f9 : Addr} {od9 an9 : Option Addr} {sl9 : Array (Option Value)} {oc9 kV9 dc9 pm9 cd9 ct9 : Value} {f10 : Addr} {od10 an10 : Option Addr} {sl10 : Array (Option Value)} {oc10 kV10 dc10 pm10 cd10 ct10 : Value} {f11 : Addr} {od11 an11 : Option Addr} {sl11 : Array (Option Value)} {oc11 kV11 dc11 pm11 cd11 ct11 : Value} {f12 : Addr} {od12 an12 : Option Addr} {sl12 : Array (Option Value)} {oc12 kV12 dc12 pm12 cd12 ct12 : Value} {f13 : Addr} {od13 an13 : Option Addr} {sl13 : Array (Option Value)} {oc13 kV13 dc13 pm13 cd13 ct13 : Value} {f14 : Addr} {od14 an14 : Option Addr} {sl14 : Array (Option Value)} {oc14 kV14 dc14 pm14 cd14 ct14 : Value} {f15 : Addr} {od15 an15 : Option Addr} {sl15 : Array (Option Value)} {oc15 kV15 dc15 pm15 cd15 ct15 : Value} {f16 : Addr} {od16 an16 : Option Addr} {sl16 : Array (Option Value)} {oc16 kV16 dc16 pm16 cd16 ct16 : Value} {f17 : Addr} {od17 an17 : Option Addr} {sl17 : Array (Option Value)} {oc17 kV17 dc17 pm17 cd17 ct17 : Value} {f18 : Addr} {od18 an18 : Option Addr} {sl18 : Array (Option Value)} {oc18 kV18 dc18 pm18 cd18 ct18 : Value} {f19 : Addr} {od19 an19 : Option Addr} {sl19 : Array (Option Value)} {oc19 kV19 dc19 pm19 cd19 ct19 : Value} {f20 : Addr} {od20 an20 : Option Addr} {sl20 : Array (Option Value)} {oc20 kV20 dc20 pm20 cd20 ct20 : Value} {f21 : Addr} {od21 an21 : Option Addr} {sl21 : Array (Option Value)} {oc21 kV21 dc21 pm21 cd21 ct21 : Value} {f22 : Addr} {od22 an22 : Option Addr} {sl22 : Array (Option Value)} {oc22 kV22 dc22 pm22 cd22 ct22 : Value} {f23 : Addr} {od23 an23 : Option Addr} {sl23 : Array (Option Value)} {oc23 kV23 dc23 pm23 cd23 ct23 : Value} {f24 : Addr} {od24 an24 : Option Addr} {sl24 : Array (Option Value)} {oc24 kV24 dc24 pm24 cd24 ct24 : Value} {f25 : Addr} {od25 an25 : Option Addr} {sl25 : Array (Option Value)} {oc25 kV25 dc25 pm25 cd25 ct25 : Value} {f26 : Addr} {od26 an26 : Option Addr} {sl26 : Array (Option Value)} {oc26 kV26 dc26 pm26 cd26 ct26 : Value} {f27 : Addr} {od27 an27 : Option Addr} {sl27 : Array (Option Value)} {oc27 kV27 dc27 pm27 cd27 ct27 : Value} {f28 : Addr} {od28 an28 : Option Addr} {sl28 : Array (Option Value)} {oc28 kV28 dc28 pm28 cd28 ct28 : Value} {f29 : Addr} {od29 an29 : Option Addr} {sl29 : Array (Option Value)} {oc29 kV29 dc29 pm29 cd29 ct29 : Value} {C_InvalidText I_InvalidText : Addr} {nm_InvalidText q_InvalidText : Str} {N_InvalidText : Addr} {bs_InvalidText bm_InvalidText sub_InvalidText : List Value} {sn_InvalidText : List Str} {ab_InvalidText : Bool} {col_InvalidText : Option Bool} {dd_InvalidText : Option Addr} {k0_InvalidText k1_InvalidText k2_InvalidText k3_InvalidText k5_InvalidText : Option Value} {oi_InvalidText ci_InvalidText pi_InvalidText di_InvalidText : Value} {oo_InvalidText ai_InvalidText : Option Addr} {ca_InvalidText cc_InvalidText : Addr} {si2_InvalidText sj_InvalidText sk_InvalidText : Array (Option Value)} {cl1_InvalidText cl2_InvalidText : Value} {cd1_InvalidText cd2_InvalidText : Option Addr} {vs_InvalidText : Array Value} {tf_InvalidText : Tok} {file_InvalidText : Str} {t_MOST_POINTS : Tok} {t_NO_VALUES : Tok} {t_RULE : Tok} {C_GuessError : Addr}
    (a0 : PySem.W.nsIn K mainGlobals "is_an_integer" = some (some (.ref f0)))
    (l0 : K.lookup f0 = some ⟨oc0, od0, .func (PySem.W.fnOf "is_an_integer" "is_an_integer" (defArgs s_is_an_integer) (defBody s_is_an_integer) (defScope s_is_an_integer) .none kV0 dc0 pm0 an0 cd0 ct0), sl0⟩)
    (c0 : PySem.W.codeIn K cd0 "is_an_integer" = true)
    (k0 : PySem.W.keepIn K (.ref f0) = true)
    (a1 : PySem.W.nsIn K mainGlobals "is_number" = some (some (.ref f1)))
    (l1 : K.lookup f1 = some ⟨oc1, od1, .func (PySem.W.fnOf "is_number" "is_number" (defArgs s_is_number) (defBody s_is_number) (defScope s_is_number) .none kV1 dc1 pm1 an1 cd1 ct1), sl1⟩)
    (c1 : PySem.W.codeIn K cd1 "is_number" = true)
    (k1 : PySem.W.keepIn K (.ref f1) = true)
    (a2 : PySem.W.nsIn K mainGlobals "is_value" = some (some (.ref f2)))
    (l2 : K.lookup f2 = some ⟨oc2, od2, .func (PySem.W.fnOf "is_value" "is_value" (defArgs s_is_value) (defBody s_is_value) (defScope s_is_value) .none kV2 dc2 pm2 an2 cd2 ct2), sl2⟩)
    (c2 : PySem.W.codeIn K cd2 "is_value" = true)
    (k2 : PySem.W.keepIn K (.ref f2) = true)
    (a3 : PySem.W.findIn K (.ref C_Lines) "__init__" = some (some (.ref f3)))
    (l3 : K.lookup f3 = some ⟨oc3, od3, .func (PySem.W.fnOf "__init__" "Lines.__init__" (defArgs s_Lines____init__) (defBody s_Lines____init__) (defScope s_Lines____init__) .none kV3 dc3 pm3 an3 cd3 ct3), sl3⟩)
    (c3 : PySem.W.codeIn K cd3 "Lines.__init__" = true)
    (k3 : PySem.W.keepIn K (.ref f3) = true)
    (a4 : PySem.W.findIn K (.ref C_Lines) "ended" = some (some (.ref f4)))
    (l4 : K.lookup f4 = some ⟨oc4, od4, .func (PySem.W.fnOf "ended" "Lines.ended" (defArgs s_Lines__ended) (defBody s_Lines__ended) (defScope s_Lines__ended) .none kV4 dc4 pm4 an4 cd4 ct4), sl4⟩)
    (c4 : PySem.W.codeIn K cd4 "Lines.ended" = true)
    (k4 : PySem.W.keepIn K (.ref f4) = true)
    (a5 : PySem.W.findIn K (.ref C_Lines) "ahead" = some (some (.ref f5)))
    (l5 : K.lookup f5 = some ⟨oc5, od5, .func (PySem.W.fnOf "ahead" "Lines.ahead" (defArgs s_Lines__ahead) (defBody s_Lines__ahead) (defScope s_Lines__ahead) .none kV5 dc5 pm5 an5 cd5 ct5), sl5⟩)
    (c5 : PySem.W.codeIn K cd5 "Lines.ahead" = true)
    (k5 : PySem.W.keepIn K (.ref f5) = true)
    (a6 : PySem.W.findIn K (.ref C_Lines) "take" = some (some (.ref f6)))
    (l6 : K.lookup f6 = some ⟨oc6, od6, .func (PySem.W.fnOf "take" "Lines.take" (defArgs s_Lines__take) (defBody s_Lines__take) (defScope s_Lines__take) .none kV6 dc6 pm6 an6 cd6 ct6), sl6⟩)
    (c6 : PySem.W.codeIn K cd6 "Lines.take" = true)
    (k6 : PySem.W.keepIn K (.ref f6) = true)
    (a7 : PySem.W.findIn K (.ref C_Lines) "place" = some (some (.ref f7)))
    (l7 : K.lookup f7 = some ⟨oc7, od7, .func (PySem.W.fnOf "place" "Lines.place" (defArgs s_Lines__place) (defBody s_Lines__place) (defScope s_Lines__place) .none kV7 dc7 pm7 an7 cd7 ct7), sl7⟩)
    (c7 : PySem.W.codeIn K cd7 "Lines.place" = true)
    (k7 : PySem.W.keepIn K (.ref f7) = true)
    (a8 : PySem.W.nsIn K mainGlobals "is_row" = some (some (.ref f8)))
    (l8 : K.lookup f8 = some ⟨oc8, od8, .func (PySem.W.fnOf "is_row" "is_row" (defArgs s_is_row) (defBody s_is_row) (defScope s_is_row) .none kV8 dc8 pm8 an8 cd8 ct8), sl8⟩)
    (c8 : PySem.W.codeIn K cd8 "is_row" = true)
    (k8 : PySem.W.keepIn K (.ref f8) = true)
    (a9 : PySem.W.nsIn K mainGlobals "are_rows" = some (some (.ref f9)))
    (l9 : K.lookup f9 = some ⟨oc9, od9, .func (PySem.W.fnOf "are_rows" "are_rows" (defArgs s_are_rows) (defBody s_are_rows) (defScope s_are_rows) .none kV9 dc9 pm9 an9 cd9 ct9), sl9⟩)
    (c9 : PySem.W.codeIn K cd9 "are_rows" = true)
    (k9 : PySem.W.keepIn K (.ref f9) = true)
    (a10 : PySem.W.findIn K (.ref C_Rules) "__init__" = some (some (.ref f10)))
    (l10 : K.lookup f10 = some ⟨oc10, od10, .func (PySem.W.fnOf "__init__" "Rules.__init__" (defArgs s_Rules____init__) (defBody s_Rules____init__) (defScope s_Rules____init__) .none kV10 dc10 pm10 an10 cd10 ct10), sl10⟩)
    (c10 : PySem.W.codeIn K cd10 "Rules.__init__" = true)
    (k10 : PySem.W.keepIn K (.ref f10) = true)
    (a11 : PySem.W.nsIn K mainGlobals "points_line" = some (some (.ref f11)))
    (l11 : K.lookup f11 = some ⟨oc11, od11, .func (PySem.W.fnOf "points_line" "points_line" (defArgs s_points_line) (defBody s_points_line) (defScope s_points_line) .none kV11 dc11 pm11 an11 cd11 ct11), sl11⟩)
    (c11 : PySem.W.codeIn K cd11 "points_line" = true)
    (k11 : PySem.W.keepIn K (.ref f11) = true)
    (a12 : PySem.W.nsIn K mainGlobals "size_told" = some (some (.ref f12)))
    (l12 : K.lookup f12 = some ⟨oc12, od12, .func (PySem.W.fnOf "size_told" "size_told" (defArgs s_size_told) (defBody s_size_told) (defScope s_size_told) .none kV12 dc12 pm12 an12 cd12 ct12), sl12⟩)
    (c12 : PySem.W.codeIn K cd12 "size_told" = true)
    (k12 : PySem.W.keepIn K (.ref f12) = true)
    (a13 : PySem.W.nsIn K mainGlobals "row_told" = some (some (.ref f13)))
    (l13 : K.lookup f13 = some ⟨oc13, od13, .func (PySem.W.fnOf "row_told" "row_told" (defArgs s_row_told) (defBody s_row_told) (defScope s_row_told) .none kV13 dc13 pm13 an13 cd13 ct13), sl13⟩)
    (c13 : PySem.W.codeIn K cd13 "row_told" = true)
    (k13 : PySem.W.keepIn K (.ref f13) = true)
    (a14 : PySem.W.nsIn K mainGlobals "rules_ahead" = some (some (.ref f14)))
    (l14 : K.lookup f14 = some ⟨oc14, od14, .func (PySem.W.fnOf "rules_ahead" "rules_ahead" (defArgs s_rules_ahead) (defBody s_rules_ahead) (defScope s_rules_ahead) .none kV14 dc14 pm14 an14 cd14 ct14), sl14⟩)
    (c14 : PySem.W.codeIn K cd14 "rules_ahead" = true)
    (k14 : PySem.W.keepIn K (.ref f14) = true)
    (a15 : PySem.W.nsIn K mainGlobals "read_rules" = some (some (.ref f15)))
    (l15 : K.lookup f15 = some ⟨oc15, od15, .func (PySem.W.fnOf "read_rules" "read_rules" (defArgs s_read_rules) (defBody s_read_rules) (defScope s_read_rules) .none kV15 dc15 pm15 an15 cd15 ct15), sl15⟩)
    (c15 : PySem.W.codeIn K cd15 "read_rules" = true)
    (k15 : PySem.W.keepIn K (.ref f15) = true)
    (a16 : PySem.W.nsIn K mainGlobals "_law_flow" = some (some (.ref f16)))
    (l16 : K.lookup f16 = some ⟨oc16, od16, .func (PySem.W.fnOf "_law_flow" "_law_flow" (defArgs s__law_flow) (defBody s__law_flow) (defScope s__law_flow) .none kV16 dc16 pm16 an16 cd16 ct16), sl16⟩)
    (c16 : PySem.W.codeIn K cd16 "_law_flow" = true)
    (k16 : PySem.W.keepIn K (.ref f16) = true)
    (a17 : PySem.W.nsIn K mainGlobals "_law_take" = some (some (.ref f17)))
    (l17 : K.lookup f17 = some ⟨oc17, od17, .func (PySem.W.fnOf "_law_take" "_law_take" (defArgs s__law_take) (defBody s__law_take) (defScope s__law_take) .none kV17 dc17 pm17 an17 cd17 ct17), sl17⟩)
    (c17 : PySem.W.codeIn K cd17 "_law_take" = true)
    (k17 : PySem.W.keepIn K (.ref f17) = true)
    (a18 : PySem.W.nsIn K mainGlobals "_law_lines" = some (some (.ref f18)))
    (l18 : K.lookup f18 = some ⟨oc18, od18, .func (PySem.W.fnOf "_law_lines" "_law_lines" (defArgs s__law_lines) (defBody s__law_lines) (defScope s__law_lines) .none kV18 dc18 pm18 an18 cd18 ct18), sl18⟩)
    (c18 : PySem.W.codeIn K cd18 "_law_lines" = true)
    (k18 : PySem.W.keepIn K (.ref f18) = true)
    (a19 : PySem.W.nsIn K mainGlobals "_law_sign" = some (some (.ref f19)))
    (l19 : K.lookup f19 = some ⟨oc19, od19, .func (PySem.W.fnOf "_law_sign" "_law_sign" (defArgs s__law_sign) (defBody s__law_sign) (defScope s__law_sign) .none kV19 dc19 pm19 an19 cd19 ct19), sl19⟩)
    (c19 : PySem.W.codeIn K cd19 "_law_sign" = true)
    (k19 : PySem.W.keepIn K (.ref f19) = true)
    (a20 : PySem.W.nsIn K mainGlobals "_law_odd" = some (some (.ref f20)))
    (l20 : K.lookup f20 = some ⟨oc20, od20, .func (PySem.W.fnOf "_law_odd" "_law_odd" (defArgs s__law_odd) (defBody s__law_odd) (defScope s__law_odd) .none kV20 dc20 pm20 an20 cd20 ct20), sl20⟩)
    (c20 : PySem.W.codeIn K cd20 "_law_odd" = true)
    (k20 : PySem.W.keepIn K (.ref f20) = true)
    (a21 : PySem.W.nsIn K mainGlobals "_law_spoilt_line" = some (some (.ref f21)))
    (l21 : K.lookup f21 = some ⟨oc21, od21, .func (PySem.W.fnOf "_law_spoilt_line" "_law_spoilt_line" (defArgs s__law_spoilt_line) (defBody s__law_spoilt_line) (defScope s__law_spoilt_line) .none kV21 dc21 pm21 an21 cd21 ct21), sl21⟩)
    (c21 : PySem.W.codeIn K cd21 "_law_spoilt_line" = true)
    (k21 : PySem.W.keepIn K (.ref f21) = true)
    (a22 : PySem.W.nsIn K mainGlobals "_law_spoilt" = some (some (.ref f22)))
    (l22 : K.lookup f22 = some ⟨oc22, od22, .func (PySem.W.fnOf "_law_spoilt" "_law_spoilt" (defArgs s__law_spoilt) (defBody s__law_spoilt) (defScope s__law_spoilt) .none kV22 dc22 pm22 an22 cd22 ct22), sl22⟩)
    (c22 : PySem.W.codeIn K cd22 "_law_spoilt" = true)
    (k22 : PySem.W.keepIn K (.ref f22) = true)
    (a23 : PySem.W.nsIn K mainGlobals "_law_text" = some (some (.ref f23)))
    (l23 : K.lookup f23 = some ⟨oc23, od23, .func (PySem.W.fnOf "_law_text" "_law_text" (defArgs s__law_text) (defBody s__law_text) (defScope s__law_text) .none kV23 dc23 pm23 an23 cd23 ct23), sl23⟩)
    (c23 : PySem.W.codeIn K cd23 "_law_text" = true)
    (k23 : PySem.W.keepIn K (.ref f23) = true)
    (a24 : PySem.W.nsIn K mainGlobals "_law_figures" = some (some (.ref f24)))
    (l24 : K.lookup f24 = some ⟨oc24, od24, .func (PySem.W.fnOf "_law_figures" "_law_figures" (defArgs s__law_figures) (defBody s__law_figures) (defScope s__law_figures) .none kV24 dc24 pm24 an24 cd24 ct24), sl24⟩)
    (c24 : PySem.W.codeIn K cd24 "_law_figures" = true)
    (k24 : PySem.W.keepIn K (.ref f24) = true)
    (a25 : PySem.W.nsIn K mainGlobals "_law_read" = some (some (.ref f25)))
    (l25 : K.lookup f25 = some ⟨oc25, od25, .func (PySem.W.fnOf "_law_read" "_law_read" (defArgs s__law_read) (defBody s__law_read) (defScope s__law_read) .none kV25 dc25 pm25 an25 cd25 ct25), sl25⟩)
    (c25 : PySem.W.codeIn K cd25 "_law_read" = true)
    (k25 : PySem.W.keepIn K (.ref f25) = true)
    (a26 : PySem.W.nsIn K mainGlobals "_law_same_rows" = some (some (.ref f26)))
    (l26 : K.lookup f26 = some ⟨oc26, od26, .func (PySem.W.fnOf "_law_same_rows" "_law_same_rows" (defArgs s__law_same_rows) (defBody s__law_same_rows) (defScope s__law_same_rows) .none kV26 dc26 pm26 an26 cd26 ct26), sl26⟩)
    (c26 : PySem.W.codeIn K cd26 "_law_same_rows" = true)
    (k26 : PySem.W.keepIn K (.ref f26) = true)
    (a27 : PySem.W.nsIn K mainGlobals "_law_is_integer" = some (some (.ref f27)))
    (l27 : K.lookup f27 = some ⟨oc27, od27, .func (PySem.W.fnOf "_law_is_integer" "_law_is_integer" (defArgs s__law_is_integer) (defBody s__law_is_integer) (defScope s__law_is_integer) .none kV27 dc27 pm27 an27 cd27 ct27), sl27⟩)
    (c27 : PySem.W.codeIn K cd27 "_law_is_integer" = true)
    (k27 : PySem.W.keepIn K (.ref f27) = true)
    (a28 : PySem.W.nsIn K mainGlobals "_law_asked" = some (some (.ref f28)))
    (l28 : K.lookup f28 = some ⟨oc28, od28, .func (PySem.W.fnOf "_law_asked" "_law_asked" (defArgs s__law_asked) (defBody s__law_asked) (defScope s__law_asked) .none kV28 dc28 pm28 an28 cd28 ct28), sl28⟩)
    (c28 : PySem.W.codeIn K cd28 "_law_asked" = true)
    (k28 : PySem.W.keepIn K (.ref f28) = true)
    (a29 : PySem.W.nsIn K mainGlobals "law" = some (some (.ref f29)))
    (l29 : K.lookup f29 = some ⟨oc29, od29, .func (PySem.W.fnOf "law" "law" (defArgs s_law) (defBody s_law) (defScope s_law) .none kV29 dc29 pm29 an29 cd29 ct29), sl29⟩)
    (c29 : PySem.W.codeIn K cd29 "law" = true)
    (k29 : PySem.W.keepIn K (.ref f29) = true)
    (gC_Lines : PySem.W.nsIn K mainGlobals "Lines" = some (some (.ref C_Lines)))
    (pg_Lines : PySem.W.plainGet K C_Lines Str.empty = true)
    (hd_Lines : PySem.W.hasDictIn K C_Lines = true)
    (po_Lines : PySem.W.plainOver K C_Lines = true)
    (sa_Lines : PySem.W.findIn K (.ref C_Lines) "__setattr__" = some (some (.builtin "object.__setattr__")))
    (mk_Lines : PySem.W.makesIn K C_Lines = true)
    (kC_Lines : PySem.W.keepIn K (.ref C_Lines) = true)
    (fn_Lines___init__ : PySem.W.isFn K (.ref f3) = true)
    (fn_Lines_ended : PySem.W.isFn K (.ref f4) = true)
    (fn_Lines_ahead : PySem.W.isFn K (.ref f5) = true)
    (fn_Lines_take : PySem.W.isFn K (.ref f6) = true)
    (fn_Lines_place : PySem.W.isFn K (.ref f7) = true)
    (no_Lines_text : PySem.W.findIn K (.ref C_Lines) "text" = some none)
    (no_Lines__lines : PySem.W.findIn K (.ref C_Lines) "_lines" = some none)
    (no_Lines__taken : PySem.W.findIn K (.ref C_Lines) "_taken" = some none)
    (no_Lines__at : PySem.W.findIn K (.ref C_Lines) "_at" = some none)
    (is_Lines : PySem.W.subIn K (.ref C_Lines) (.ref C_Lines) = some true)
    (mo_Lines : PySem.W.mroIn K C_Lines (.type "object") = some true)
    (co_Lines : PySem.W.findIn K (.ref C_Lines) "__class__" = some (some (.builtin "object.__class__")))
    (nint_Lines : PySem.W.subIn K (.ref C_Lines) (.type "int") = some false)
    (nbool_Lines : PySem.W.subIn K (.ref C_Lines) (.type "bool") = some false)
    (ntuple_Lines : PySem.W.subIn K (.ref C_Lines) (.type "tuple") = some false)
    (nstr_Lines : PySem.W.subIn K (.ref C_Lines) (.type "str") = some false)
    (nlist_Lines : PySem.W.subIn K (.ref C_Lines) (.type "list") = some false)
    (gC_Rules : PySem.W.nsIn K mainGlobals "Rules" = some (some (.ref C_Rules)))
    (pg_Rules : PySem.W.plainGet K C_Rules Str.empty = true)
    (hd_Rules : PySem.W.hasDictIn K C_Rules = true)
    (po_Rules : PySem.W.plainOver K C_Rules = true)
    (sa_Rules : PySem.W.findIn K (.ref C_Rules) "__setattr__" = some (some (.builtin "object.__setattr__")))
    (mk_Rules : PySem.W.makesIn K C_Rules = true)
    (kC_Rules : PySem.W.keepIn K (.ref C_Rules) = true)
    (fn_Rules___init__ : PySem.W.isFn K (.ref f10) = true)
    (no_Rules_size : PySem.W.findIn K (.ref C_Rules) "size" = some none)
    (no_Rules_rows : PySem.W.findIn K (.ref C_Rules) "rows" = some none)
    (no_Rules__known : PySem.W.findIn K (.ref C_Rules) "_known" = some none)
    (is_Rules : PySem.W.subIn K (.ref C_Rules) (.ref C_Rules) = some true)
    (mo_Rules : PySem.W.mroIn K C_Rules (.type "object") = some true)
    (co_Rules : PySem.W.findIn K (.ref C_Rules) "__class__" = some (some (.builtin "object.__class__")))
    (nint_Rules : PySem.W.subIn K (.ref C_Rules) (.type "int") = some false)
    (nbool_Rules : PySem.W.subIn K (.ref C_Rules) (.type "bool") = some false)
    (ntuple_Rules : PySem.W.subIn K (.ref C_Rules) (.type "tuple") = some false)
    (nstr_Rules : PySem.W.subIn K (.ref C_Rules) (.type "str") = some false)
    (nlist_Rules : PySem.W.subIn K (.ref C_Rules) (.type "list") = some false)
    (gC_InvalidText : PySem.W.nsIn K mainGlobals "InvalidText" = some (some (.ref C_InvalidText)))
    (iC_InvalidText : PySem.W.findIn K (.ref C_InvalidText) "__init__" = some (some (.ref I_InvalidText)))
    (cl_InvalidText : K.lookup C_InvalidText = some (excClassObj nm_InvalidText q_InvalidText C_InvalidText N_InvalidText bs_InvalidText bm_InvalidText true sn_InvalidText sub_InvalidText ab_InvalidText col_InvalidText dd_InvalidText k0_InvalidText k1_InvalidText k2_InvalidText k3_InvalidText k5_InvalidText "ValueError.__new__"))
    (sa_InvalidText : PySem.W.findIn K (.ref C_InvalidText) "__setattr__" = some (some (.builtin "object.__setattr__")))
    (no_InvalidText : PySem.W.findIn K (.ref C_InvalidText) "text" = some none)
    (no2_InvalidText : PySem.W.findIn K (.ref C_InvalidText) "at" = some none)
    (tI_InvalidText : PySem.W.typeIn K (.ref I_InvalidText) = some (.type "function"))
    (kC_InvalidText : PySem.W.keepIn K (.ref C_InvalidText) = true)
    (ex_InvalidText : PySem.W.subIn K (.ref C_InvalidText) (.type "BaseException") = some true)
    (ve_InvalidText : PySem.W.subIn K (.ref C_InvalidText) (.type "ValueError") = some true)
    (ty_InvalidText : PySem.W.typeIn K (.ref C_InvalidText) = some (.type "type"))
    (ga_InvalidText : PySem.W.findIn K (.ref C_InvalidText) "__getattribute__" = some (some (.builtin "BaseException.__getattribute__")))
    (gg_InvalidText : PySem.W.findIn K (.ref C_InvalidText) "__getattr__" = some none)
    (hd_InvalidText : PySem.W.hasDictIn K C_InvalidText = true)
    (mr_InvalidText : PySem.W.mroIn K C_InvalidText (.ref C_InvalidText) = some true)
    (mo_InvalidText : PySem.W.mroIn K C_InvalidText (.type "object") = some true)
    (co_InvalidText : PySem.W.findIn K (.ref C_InvalidText) "__class__" = some (some (.builtin "object.__class__")))
    (nint_InvalidText : PySem.W.subIn K (.ref C_InvalidText) (.type "int") = some false)
    (nbool_InvalidText : PySem.W.subIn K (.ref C_InvalidText) (.type "bool") = some false)
    (ntuple_InvalidText : PySem.W.subIn K (.ref C_InvalidText) (.type "tuple") = some false)
    (nstr_InvalidText : PySem.W.subIn K (.ref C_InvalidText) (.type "str") = some false)
    (nlist_InvalidText : PySem.W.subIn K (.ref C_InvalidText) (.type "list") = some false)
    (si_InvalidText : PySem.W.ks_superIn K C_InvalidText C_InvalidText "__init__" = some (some (.builtin "ValueError.__init__")))
    (li_InvalidText : K.lookup I_InvalidText = some ⟨oi_InvalidText, oo_InvalidText, .func (PySem.W.ksFn "__init__" "InvalidText.__init__" (defArgs sI_InvalidText) (defBody sI_InvalidText) (defScope sI_InvalidText) .none .none di_InvalidText pi_InvalidText ai_InvalidText (.ref ca_InvalidText) ci_InvalidText cc_InvalidText), si2_InvalidText⟩)
    (ci2_InvalidText : PySem.W.codeIn K (.ref ca_InvalidText) "InvalidText.__init__" = true)
    (lc_InvalidText : K.lookup ca_InvalidText = some ⟨cl1_InvalidText, cd1_InvalidText, .fields vs_InvalidText, sj_InvalidText⟩)
    (fi_InvalidText : vs_InvalidText[2]? = some (.str file_InvalidText tf_InvalidText))
    (ff_InvalidText : ((l.prog.main.file : Str) == file_InvalidText) = true)
    (lx_InvalidText : K.lookup cc_InvalidText = some ⟨cl2_InvalidText, cd2_InvalidText, .cell (some (.ref C_InvalidText)), sk_InvalidText⟩)
    (zs : PySem.W.nsIn K mainGlobals "super" = some none)
    (op : PySem.W.nsIn K cStatics "thirdparty.any" = some none)
    (ht : (l.prog.main.scope.names.lookup ("super" : Str)).isSome = false)
    (sp1 : PySem.W.specialIn K (.builtin "object.__class__") "__get__" = some (some (.builtin "getset_descriptor.__get__")))
    (sp2 : PySem.W.takesIn K (.builtin "object.__class__") = some true)
    (z_abs : PySem.W.nsIn K mainGlobals "abs" = some none)
    (z_all : PySem.W.nsIn K mainGlobals "all" = some none)
    (z_bool : PySem.W.nsIn K mainGlobals "bool" = some none)
    (z_int : PySem.W.nsIn K mainGlobals "int" = some none)
    (z_isinstance : PySem.W.nsIn K mainGlobals "isinstance" = some none)
    (z_len : PySem.W.nsIn K mainGlobals "len" = some none)
    (z_list : PySem.W.nsIn K mainGlobals "list" = some none)
    (z_min : PySem.W.nsIn K mainGlobals "min" = some none)
    (z_range : PySem.W.nsIn K mainGlobals "range" = some none)
    (z_set : PySem.W.nsIn K mainGlobals "set" = some none)
    (z_sorted : PySem.W.nsIn K mainGlobals "sorted" = some none)
    (z_str : PySem.W.nsIn K mainGlobals "str" = some none)
    (z_tuple : PySem.W.nsIn K mainGlobals "tuple" = some none)
    (kc_MOST_POINTS : PySem.W.nsIn K mainGlobals "MOST_POINTS" = some (some (.int 8 t_MOST_POINTS)))
    (kc_NO_VALUES : PySem.W.nsIn K mainGlobals "NO_VALUES" = some (some (.str (Str.ofString "-") t_NO_VALUES)))
    (kc_RULE : PySem.W.nsIn K mainGlobals "RULE" = some (some (.str (Str.ofString "rule ") t_RULE)))
    (gC_GuessError : PySem.W.nsIn K mainGlobals "GuessError" = some (some (.ref C_GuessError)))
    (hd_GuessError : PySem.W.hasDictIn K C_GuessError = true)
    (ty_GuessError : PySem.W.typeIn K (.ref C_GuessError) = some (.type "type"))
    (su_InvalidText_GuessError : PySem.W.subIn K (.ref C_InvalidText) (.ref C_GuessError) = some true)
    (rv_InvalidText : PySem.HandSPX.refsVE bm_InvalidText = true) (sb_InvalidText : PySem.W.subIn K (.ref C_InvalidText) (.ref C_InvalidText) = some true)
    : ∃ fd : FuncData, (∀ (s : Shared) (v : Value), BindsTo s fd ⟨[v], []⟩ [("script", v)]) ∧ ∀ base : Heap, K.In base → base.Ns mainGlobals mg → FnOk l.prog w K mg base CX0 12 fa fd ["script"] (spLaw K) := by
  have e := hfa.symm.trans (PySem.W.mg_of X G a29)
  cases e
  have gs : mg "super" = none := PySem.W.mg_none_of X G zs
  have xt_InvalidText : PySem.SupY_text_at.XTxt l.prog K mg "InvalidText" C_InvalidText I_InvalidText := {
    gC := PySem.W.mg_of X G gC_InvalidText, nm := by decide +kernel, sup := gs, cls := ⟨_, _, _, _, _, _, _, _, _, _, _, _, _, _, _, cl_InvalidText, by assumption⟩, sa := sa_InvalidText, noN := no_InvalidText, noM := no2_InvalidText, iC := iC_InvalidText, tC := tI_InvalidText, kC := kC_InvalidText, exC := ex_InvalidText, veC := ve_InvalidText, tyC := ty_InvalidText
    te := PySem.W.exm_ref ex_InvalidText hd_InvalidText ty_InvalidText sb_InvalidText, xf := ⟨ga_InvalidText, gg_InvalidText, ex_InvalidText, hd_InvalidText⟩, sIn := si_InvalidText, opq := op, mro := mr_InvalidText, htop := ht
    fn := ⟨_, _, _, _, _, _, _, _, _, _, _, _, _, _, _, _, _, _, _, _, _, _, _, _, _, _, _, _, _, _, _, _, _, _, _, _, _, _, li_InvalidText, ci2_InvalidText, by decide +kernel, lc_InvalidText, fi_InvalidText, ff_InvalidText, lx_InvalidText⟩ }
  let A : Ad := ⟨f0, (PySem.W.fnOf "is_an_integer" "is_an_integer" (defArgs s_is_an_integer) (defBody s_is_an_integer) (defScope s_is_an_integer) .none kV0 dc0 pm0 an0 cd0 ct0), f1, (PySem.W.fnOf "is_number" "is_number" (defArgs s_is_number) (defBody s_is_number) (defScope s_is_number) .none kV1 dc1 pm1 an1 cd1 ct1), f2, (PySem.W.fnOf "is_value" "is_value" (defArgs s_is_value) (defBody s_is_value) (defScope s_is_value) .none kV2 dc2 pm2 an2 cd2 ct2), f3, (PySem.W.fnOf "__init__" "Lines.__init__" (defArgs s_Lines____init__) (defBody s_Lines____init__) (defScope s_Lines____init__) .none kV3 dc3 pm3 an3 cd3 ct3), f4, (PySem.W.fnOf "ended" "Lines.ended" (defArgs s_Lines__ended) (defBody s_Lines__ended) (defScope s_Lines__ended) .none kV4 dc4 pm4 an4 cd4 ct4), f5, (PySem.W.fnOf "ahead" "Lines.ahead" (defArgs s_Lines__ahead) (defBody s_Lines__ahead) (defScope s_Lines__ahead) .none kV5 dc5 pm5 an5 cd5 ct5), f6, (PySem.W.fnOf "take" "Lines.take" (defArgs s_Lines__take) (defBody s_Lines__take) (defScope s_Lines__take) .none kV6 dc6 pm6 an6 cd6 ct6), f7, (PySem.W.fnOf "place" "Lines.place" (defArgs s_Lines__place) (defBody s_Lines__place) (defScope s_Lines__place) .none kV7 dc7 pm7 an7 cd7 ct7), f8, (PySem.W.fnOf "is_row" "is_row" (defArgs s_is_row) (defBody s_is_row) (defScope s_is_row) .none kV8 dc8 pm8 an8 cd8 ct8), f9, (PySem.W.fnOf "are_rows" "are_rows" (defArgs s_are_rows) (defBody s_are_rows) (defScope s_are_rows) .none kV9 dc9 pm9 an9 cd9 ct9), f10, (PySem.W.fnOf "__init__" "Rules.__init__" (defArgs s_Rules____init__) (defBody s_Rules____init__) (defScope s_Rules____init__) .none kV10 dc10 pm10 an10 cd10 ct10), f11, (PySem.W.fnOf "points_line" "points_line" (defArgs s_points_line) (defBody s_points_line) (defScope s_points_line) .none kV11 dc11 pm11 an11 cd11 ct11), f12, (PySem.W.fnOf "size_told" "size_told" (defArgs s_size_told) (defBody s_size_told) (defScope s_size_told) .none kV12 dc12 pm12 an12 cd12 ct12), f13, (PySem.W.fnOf "row_told" "row_told" (defArgs s_row_told) (defBody s_row_told) (defScope s_row_told) .none kV13 dc13 pm13 an13 cd13 ct13), f14, (PySem.W.fnOf "rules_ahead" "rules_ahead" (defArgs s_rules_ahead) (defBody s_rules_ahead) (defScope s_rules_ahead) .none kV14 dc14 pm14 an14 cd14 ct14), f15, (PySem.W.fnOf "read_rules" "read_rules" (defArgs s_read_rules) (defBody s_read_rules) (defScope s_read_rules) .none kV15 dc15 pm15 an15 cd15 ct15), f16, (PySem.W.fnOf "_law_flow" "_law_flow" (defArgs s__law_flow) (defBody s__law_flow) (defScope s__law_flow) .none kV16 dc16 pm16 an16 cd16 ct16), f17, (PySem.W.fnOf "_law_take" "_law_take" (defArgs s__law_take) (defBody s__law_take) (defScope s__law_take) .none kV17 dc17 pm17 an17 cd17 ct17), f18, (PySem.W.fnOf "_law_lines" "_law_lines" (defArgs s__law_lines) (defBody s__law_lines) (defScope s__law_lines) .none kV18 dc18 pm18 an18 cd18 ct18), f19, (PySem.W.fnOf "_law_sign" "_law_sign" (defArgs s__law_sign) (defBody s__law_sign) (defScope s__law_sign) .none kV19 dc19 pm19 an19 cd19 ct19), f20, (PySem.W.fnOf "_law_odd" "_law_odd" (defArgs s__law_odd) (defBody s__law_odd) (defScope s__law_odd) .none kV20 dc20 pm20 an20 cd20 ct20), f21, (PySem.W.fnOf "_law_spoilt_line" "_law_spoilt_line" (defArgs s__law_spoilt_line) (defBody s__law_spoilt_line) (defScope s__law_spoilt_line) .none kV21 dc21 pm21 an21 cd21 ct21), f22, (PySem.W.fnOf "_law_spoilt" "_law_spoilt" (defArgs s__law_spoilt) (defBody s__law_spoilt) (defScope s__law_spoilt) .none kV22 dc22 pm22 an22 cd22 ct22), f23, (PySem.W.fnOf "_law_text" "_law_text" (defArgs s__law_text) (defBody s__law_text) (defScope s__law_text) .none kV23 dc23 pm23 an23 cd23 ct23), f24, (PySem.W.fnOf "_law_figures" "_law_figures" (defArgs s__law_figures) (defBody s__law_figures) (defScope s__law_figures) .none kV24 dc24 pm24 an24 cd24 ct24), f25, (PySem.W.fnOf "_law_read" "_law_read" (defArgs s__law_read) (defBody s__law_read) (defScope s__law_read) .none kV25 dc25 pm25 an25 cd25 ct25), f26, (PySem.W.fnOf "_law_same_rows" "_law_same_rows" (defArgs s__law_same_rows) (defBody s__law_same_rows) (defScope s__law_same_rows) .none kV26 dc26 pm26 an26 cd26 ct26), f27, (PySem.W.fnOf "_law_is_integer" "_law_is_integer" (defArgs s__law_is_integer) (defBody s__law_is_integer) (defScope s__law_is_integer) .none kV27 dc27 pm27 an27 cd27 ct27), f28, (PySem.W.fnOf "_law_asked" "_law_asked" (defArgs s__law_asked) (defBody s__law_asked) (defScope s__law_asked) .none kV28 dc28 pm28 an28 cd28 ct28), fa, (PySem.W.fnOf "law" "law" (defArgs s_law) (defBody s_law) (defScope s_law) .none kV29 dc29 pm29 an29 cd29 ct29), C_InvalidText, I_InvalidText, C_Lines, C_Rules, t_MOST_POINTS, t_NO_VALUES, t_RULE, C_GuessError⟩
  have T : Txt l.prog K mg A := ⟨PySem.W.mg_of X G a0, fun_mk (st := s_is_an_integer) l0 c0 k0, PySem.W.mg_of X G a1, fun_mk (st := s_is_number) l1 c1 k1, PySem.W.mg_of X G a2, fun_mk (st := s_is_value) l2 c2 k2, fun_mk (st := s_Lines____init__) l3 c3 k3, fun_mk (st := s_Lines__ended) l4 c4 k4, fun_mk (st := s_Lines__ahead) l5 c5 k5, fun_mk (st := s_Lines__take) l6 c6 k6, fun_mk (st := s_Lines__place) l7 c7 k7, PySem.W.mg_of X G a8, fun_mk (st := s_is_row) l8 c8 k8, PySem.W.mg_of X G a9, fun_mk (st := s_are_rows) l9 c9 k9, fun_mk (st := s_Rules____init__) l10 c10 k10, PySem.W.mg_of X G a11, fun_mk (st := s_points_line) l11 c11 k11, PySem.W.mg_of X G a12, fun_mk (st := s_size_told) l12 c12 k12, PySem.W.mg_of X G a13, fun_mk (st := s_row_told) l13 c13 k13, PySem.W.mg_of X G a14, fun_mk (st := s_rules_ahead) l14 c14 k14, PySem.W.mg_of X G a15, fun_mk (st := s_read_rules) l15 c15 k15, PySem.W.mg_of X G a16, fun_mk (st := s__law_flow) l16 c16 k16, PySem.W.mg_of X G a17, fun_mk (st := s__law_take) l17 c17 k17, PySem.W.mg_of X G a18, fun_mk (st := s__law_lines) l18 c18 k18, PySem.W.mg_of X G a19, fun_mk (st := s__law_sign) l19 c19 k19, PySem.W.mg_of X G a20, fun_mk (st := s__law_odd) l20 c20 k20, PySem.W.mg_of X G a21, fun_mk (st := s__law_spoilt_line) l21 c21 k21, PySem.W.mg_of X G a22, fun_mk (st := s__law_spoilt) l22 c22 k22, PySem.W.mg_of X G a23, fun_mk (st := s__law_text) l23 c23 k23, PySem.W.mg_of X G a24, fun_mk (st := s__law_figures) l24 c24 k24, PySem.W.mg_of X G a25, fun_mk (st := s__law_read) l25 c25 k25, PySem.W.mg_of X G a26, fun_mk (st := s__law_same_rows) l26 c26 k26, PySem.W.mg_of X G a27, fun_mk (st := s__law_is_integer) l27 c27 k27, PySem.W.mg_of X G a28, fun_mk (st := s__law_asked) l28 c28 k28, PySem.W.mg_of X G a29, fun_mk (st := s_law) l29 c29 k29, xt_InvalidText, ⟨⟨ga_InvalidText, gg_InvalidText, ex_InvalidText, hd_InvalidText, co_InvalidText, sp1, sp2, mo_InvalidText⟩, nint_InvalidText, nbool_InvalidText, ntuple_InvalidText, nstr_InvalidText, nlist_InvalidText⟩, PySem.W.mg_of X G gC_Lines, ⟨⟨pg_Lines, hd_Lines, po_Lines, sa_Lines⟩, co_Lines, sp1, sp2, mo_Lines, is_Lines, nint_Lines, nbool_Lines, ntuple_Lines, nstr_Lines, nlist_Lines⟩, ⟨mk_Lines, a3, fn_Lines___init__, kC_Lines⟩, no_Lines_text, no_Lines__lines, no_Lines__taken, no_Lines__at, ⟨a4, fn_Lines_ended, k4⟩, ⟨a5, fn_Lines_ahead, k5⟩, ⟨a6, fn_Lines_take, k6⟩, ⟨a7, fn_Lines_place, k7⟩, PySem.W.mg_of X G gC_Rules, ⟨⟨pg_Rules, hd_Rules, po_Rules, sa_Rules⟩, co_Rules, sp1, sp2, mo_Rules, is_Rules, nint_Rules, nbool_Rules, ntuple_Rules, nstr_Rules, nlist_Rules⟩, ⟨mk_Rules, a10, fn_Rules___init__, kC_Rules⟩, no_Rules_size, no_Rules_rows, no_Rules__known, PySem.W.mg_none_of X G z_abs, PySem.W.mg_none_of X G z_all, PySem.W.mg_none_of X G z_bool, PySem.W.mg_none_of X G z_int, PySem.W.mg_none_of X G z_isinstance, PySem.W.mg_none_of X G z_len, PySem.W.mg_none_of X G z_list, PySem.W.mg_none_of X G z_min, PySem.W.mg_none_of X G z_range, PySem.W.mg_none_of X G z_set, PySem.W.mg_none_of X G z_sorted, PySem.W.mg_none_of X G z_str, PySem.W.mg_none_of X G z_tuple, PySem.W.mg_of X G kc_MOST_POINTS, PySem.W.mg_of X G kc_NO_VALUES, PySem.W.mg_of X G kc_RULE, PySem.W.mg_of X G gC_GuessError, Sx.kit_own hd_GuessError ty_GuessError su_InvalidText_GuessError⟩
  exact ⟨PySem.W.fnOf "law" "law" (defArgs s_law) (defBody s_law) (defScope s_law) .none kV29 dc29 pm29 an29 cd29 ct29, fun s v => .of_eq rfl, fun base _ _ => ok_law T⟩
theorem walk {l : PySem.W.OpenLaw} {q : Program} {loose : List Str} {XP : (Str → Option Value) → Heap → Prop} {YP : World → Heap → Prop} {d : DefRec} {K : Params → PySem.W.Frag} (hn : l.most = some 63) (hdf : d.params.defaults = [])
    (hY : ∀ (w : World) (h : Heap), YP w h → (K w.params).In h)
    (F : ∀ (w : World) (mg : Str → Option Value) (fa : Addr) (h : Heap), (K w.params).In h → h.Ns mainGlobals mg → mg d.name = some (.ref fa) →
      ∃ fd : FuncData, (∀ (s : Shared) (u : Value), BindsTo s fd ⟨[u], []⟩ [("script", u)]) ∧ ∀ base : Heap, (K w.params).In base → base.Ns mainGlobals mg → FnOk l.prog w (K w.params) mg base CX0 12 fa fd ["script"] (spLaw (K w.params))) :
    PySem.W.WalkO q loose XP YP l.row.toRowW d [] (fun f vs => PySem.call f vs) :=
  L2.walk_of (n := 63) (k := 12) (x := "script") (CX := fun _ => CX0) (sp := fun w => spLaw (K w.params)) hn (by decide) hdf ⟨rfl, by decide, by decide⟩ hY F (fun _ _ a ns hl _ hS => ⟨a, ns, rfl, hS, hl, fun _ => rfl⟩) fun _ _ _ _ _ z => z
end K09

set_option Elab.async false
set_option linter.all false
set_option maxRecDepth 100000
open PySem PySem.W PyProof.Rows
set_option maxRecDepth 100000 in
set_option maxHeartbeats 0 in
theorem PySem.Challenge.cw_nextguess_k09_texts_read_holds : PySem.Challenge.rw_nextguess_k09_texts_read.Holds := by
  w_on; o_law; k_head; (case hw => w_witness2)
  k_fill
  refine K09.walk (l := PySem.Challenge.rw_nextguess_k09_texts_read) rfl rfl (fun w h Y => PySem.W.kIn_of Y) ?F
  case F =>
    intro w mg fa h KX G hmg
    refine' K09.all_mk KX G hmg ?a0 ?l0 ?c0 ?k0 ?a1 ?l1 ?c1 ?k1 ?a2 ?l2 ?c2 ?k2 ?a3 ?l3 ?c3 ?k3 ?a4 ?l4 ?c4 ?k4 ?a5 ?l5 ?c5 ?k5 ?a6 ?l6 ?c6 ?k6 ?a7 ?l7 ?c7 ?k7 ?a8 ?l8 ?c8 ?k8 ?a9 ?l9 ?c9 ?k9 ?a10 ?l10 ?c10 ?k10 ?a11 ?l11 ?c11 ?k11 ?a12 ?l12 ?c12 ?k12 ?a13 ?l13 ?c13 ?k13 ?a14 ?l14 ?c14 ?k14 ?a15 ?l15 ?c15 ?k15 ?a16 ?l16 ?c16 ?k16 ?a17 ?l17 ?c17 ?k17 ?a18 ?l18 ?c18 ?k18 ?a19 ?l19 ?c19 ?k19 ?a20 ?l20 ?c20 ?k20 ?a21 ?l21 ?c21 ?k21 ?a22 ?l22 ?c22 ?k22 ?a23 ?l23 ?c23 ?k23 ?a24 ?l24 ?c24 ?k24 ?a25 ?l25 ?c25 ?k25 ?a26 ?l26 ?c26 ?k26 ?a27 ?l27 ?c27 ?k27 ?a28 ?l28 ?c28 ?k28 ?a29 ?l29 ?c29 ?k29 ?gC_Lines ?pg_Lines ?hd_Lines ?po_Lines ?sa_Lines ?mk_Lines ?kC_Lines ?fn_Lines___init__ ?fn_Lines_ended ?fn_Lines_ahead ?fn_Lines_take ?fn_Lines_place ?no_Lines_text ?no_Lines__lines ?no_Lines__taken ?no_Lines__at ?is_Lines ?mo_Lines ?co_Lines ?nint_Lines ?nbool_Lines ?ntuple_Lines ?nstr_Lines ?nlist_Lines ?gC_Rules ?pg_Rules ?hd_Rules ?po_Rules ?sa_Rules ?mk_Rules ?kC_Rules ?fn_Rules___init__ ?no_Rules_size ?no_Rules_rows ?no_Rules__known ?is_Rules ?mo_Rules ?co_Rules ?nint_Rules ?nbool_Rules ?ntuple_Rules ?nstr_Rules ?nlist_Rules ?gC_InvalidText ?iC_InvalidText ?cl_InvalidText ?sa_InvalidText ?no_InvalidText ?no2_InvalidText ?tI_InvalidText ?kC_InvalidText ?ex_InvalidText ?ve_InvalidText ?ty_InvalidText ?ga_InvalidText ?gg_InvalidText ?hd_InvalidText ?mr_InvalidText ?mo_InvalidText ?co_InvalidText ?nint_InvalidText ?nbool_InvalidText ?ntuple_InvalidText ?nstr_InvalidText ?nlist_InvalidText ?si_InvalidText ?li_InvalidText ?ci2_InvalidText ?lc_InvalidText ?fi_InvalidText ?ff_InvalidText ?lx_InvalidText ?zs ?op ?ht ?sp1 ?sp2 ?z_abs ?z_all ?z_bool ?z_int ?z_isinstance ?z_len ?z_list ?z_min ?z_range ?z_set ?z_sorted ?z_str ?z_tuple ?kc_MOST_POINTS ?kc_NO_VALUES ?kc_RULE ?gC_GuessError ?hd_GuessError ?ty_GuessError ?su_InvalidText_GuessError ?rv_InvalidText ?sb_InvalidText
    (case gC_Lines => k_is)
    (case gC_Rules => k_is)
    (case gC_InvalidText => k_is)
    (case kc_MOST_POINTS => k_is)
    (case kc_NO_VALUES => k_is)
    (case kc_RULE => k_is)
    (case gC_GuessError => k_is)
    (case a0 => k_is)
    (case l0 => k_is)
    (case c0 => k_is)
    (case k0 => k_is)
    (case a1 => k_is)
    (case l1 => k_is)
    (case c1 => k_is)
    (case k1 => k_is)
    (case a2 => k_is)
    (case l2 => k_is)
    (case c2 => k_is)
    (case k2 => k_is)
    (case a3 => k_is)
    (case l3 => k_is)
    (case c3 => k_is)
    (case k3 => k_is)
    (case a4 => k_is)
    (case l4 => k_is)
    (case c4 => k_is)
    (case k4 => k_is)
    (case a5 => k_is)
    (case l5 => k_is)
    (case c5 => k_is)
    (case k5 => k_is)
    (case a6 => k_is)
    (case l6 => k_is)
    (case c6 => k_is)
    (case k6 => k_is)
    (case a7 => k_is)
    (case l7 => k_is)
    (case c7 => k_is)
    (case k7 => k_is)
    (case a8 => k_is)
    (case l8 => k_is)
    (case c8 => k_is)
    (case k8 => k_is)
    (case a9 => k_is)
    (case l9 => k_is)
    (case c9 => k_is)
    (case k9 => k_is)
    (case a10 => k_is)
    (case l10 => k_is)
    (case c10 => k_is)
    (case k10 => k_is)
    (case a11 => k_is)
    (case l11 => k_is)
    (case c11 => k_is)
    (case k11 => k_is)
    (case a12 => k_is)
    (case l12 => k_is)
    (case c12 => k_is)
    (case k12 => k_is)
    (case a13 => k_is)
    (case l13 => k_is)
    (case c13 => k_is)
    (case k13 => k_is)
    (case a14 => k_is)
    (case l14 => k_is)
    (case c14 => k_is)
    (case k14 => k_is)
    (case a15 => k_is)
    (case l15 => k_is)
    (case c15 => k_is)
    (case k15 => k_is)
    (case a16 => k_is)
    (case l16 => k_is)
    (case c16 => k_is)
    (case k16 => k_is)
    (case a17 => k_is)
    (case l17 => k_is)
    (case c17 => k_is)
    (case k17 => k_is)
    (case a18 => k_is)
    (case l18 => k_is)
    (case c18 => k_is)
    (case k18 => k_is)
    (case a19 => k_is)
    (case l19 => k_is)
    (case c19 => k_is)
    (case k19 => k_is)
    (case a20 => k_is)
    (case l20 => k_is)
    (case c20 => k_is)
    (case k20 => k_is)
    (case a21 => k_is)
    (case l21 => k_is)
    (case c21 => k_is)
    (case k21 => k_is)
    (case a22 => k_is)
    (case l22 => k_is)
    (case c22 => k_is)
    (case k22 => k_is)
    (case a23 => k_is)
    (case l23 => k_is)
    (case c23 => k_is)
    (case k23 => k_is)
    (case a24 => k_is)
    (case l24 => k_is)
    (case c24 => k_is)
    (case k24 => k_is)
    (case a25 => k_is)
    (case l25 => k_is)
    (case c25 => k_is)
    (case k25 => k_is)
    (case a26 => k_is)
    (case l26 => k_is)
    (case c26 => k_is)
    (case k26 => k_is)
    (case a27 => k_is)
    (case l27 => k_is)
    (case c27 => k_is)
    (case k27 => k_is)
    (case a28 => k_is)
    (case l28 => k_is)
    (case c28 => k_is)
    (case k28 => k_is)
    (case a29 => k_is)
    (case l29 => k_is)
    (case c29 => k_is)
    (case k29 => k_is)
    (case pg_Lines => k_is)
    (case hd_Lines => k_is)
    (case po_Lines => k_is)
    (case sa_Lines => k_is)
    (case mk_Lines => k_is)
    (case kC_Lines => k_is)
    (case fn_Lines___init__ => k_is)
    (case fn_Lines_ended => k_is)
    (case fn_Lines_ahead => k_is)
    (case fn_Lines_take => k_is)
    (case fn_Lines_place => k_is)
    (case no_Lines_text => k_is)
    (case no_Lines__lines => k_is)
    (case no_Lines__taken => k_is)
    (case no_Lines__at => k_is)
    (case is_Lines => k_is)
    (case mo_Lines => k_is)
    (case co_Lines => k_is)
    (case nint_Lines => k_is)
    (case nbool_Lines => k_is)
    (case ntuple_Lines => k_is)
    (case nstr_Lines => k_is)
    (case nlist_Lines => k_is)
    (case pg_Rules => k_is)
    (case hd_Rules => k_is)
    (case po_Rules => k_is)
    (case sa_Rules => k_is)
    (case mk_Rules => k_is)
    (case kC_Rules => k_is)
    (case fn_Rules___init__ => k_is)
    (case no_Rules_size => k_is)
    (case no_Rules_rows => k_is)
    (case no_Rules__known => k_is)
    (case is_Rules => k_is)
    (case mo_Rules => k_is)
    (case co_Rules => k_is)
    (case nint_Rules => k_is)
    (case nbool_Rules => k_is)
    (case ntuple_Rules => k_is)
    (case nstr_Rules => k_is)
    (case nlist_Rules => k_is)
    (case iC_InvalidText => k_is)
    (case cl_InvalidText => k_is)
    (case sa_InvalidText => k_is)
    (case no_InvalidText => k_is)
    (case no2_InvalidText => k_is)
    (case tI_InvalidText => k_is)
    (case kC_InvalidText => k_is)
    (case ex_InvalidText => k_is)
    (case ve_InvalidText => k_is)
    (case ty_InvalidText => k_is)
    (case ga_InvalidText => k_is)
    (case gg_InvalidText => k_is)
    (case hd_InvalidText => k_is)
    (case mr_InvalidText => k_is)
    (case mo_InvalidText => k_is)
    (case co_InvalidText => k_is)
    (case nint_InvalidText => k_is)
    (case nbool_InvalidText => k_is)
    (case ntuple_InvalidText => k_is)
    (case nstr_InvalidText => k_is)
    (case nlist_InvalidText => k_is)
    (case si_InvalidText => (first | ks_is | k_is))
    (case li_InvalidText => k_is)
    (case ci2_InvalidText => k_is)
    (case lc_InvalidText => k_is)
    (case fi_InvalidText => (first | rfl | decide +kernel))
    (case ff_InvalidText => (first | rfl | decide +kernel))
    (case lx_InvalidText => k_is)
    (case zs => k_is)
    (case op => k_is)
    (case ht => (first | rfl | decide +kernel))
    (case sp1 => k_is)
    (case sp2 => k_is)
    (case z_abs => k_is)
    (case z_all => k_is)
    (case z_bool => k_is)
    (case z_int => k_is)
    (case z_isinstance => k_is)
    (case z_len => k_is)
    (case z_list => k_is)
    (case z_min => k_is)
    (case z_range => k_is)
    (case z_set => k_is)
    (case z_sorted => k_is)
    (case z_str => k_is)
    (case z_tuple => k_is)
    (case hd_GuessError => k_is)
    (case ty_GuessError => k_is)
    (case su_InvalidText_GuessError => k_is)
    (case rv_InvalidText => (first | decide +kernel | rfl | k_is))
    (case sb_InvalidText => k_is)
