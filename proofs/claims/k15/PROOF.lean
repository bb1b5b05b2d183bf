import PyProof.Rows.All
import Wide.All
import OpenK.AllK
import Wide.FinOn
import KE.KExcSuper
import HandS.ForMost
import HandS.ForExc
import HandS.ExcInit
import HandS.ExcSuper
import HandS.ExcField
import HandS.ExcIs
import HandS.HotCalls
import HandS.IsInst
import HandS.Gcd
import HandS.Wide
import HandS.Style
import HandS.DictComp
import HandS.TupSets
import PyProof.WalksMore
import HandS.SortOrd
import HandS.OwnEq
import OpenK.KOps
import HandS.TupAny
import HandS.Small
import HandS.SortInts
import HandS.Walk
import KE.GoesEnum
import KE.GoesMore
import HandS.SetBool
import HandS.SetKeys
import PyProof.Draws
import PyProof.ZipIter
import PyProof.JoinWalk
import PyProof.ListRange
import PyProof.TupleIter
import HandS.Conv
import KE.KDictCopyH
import HandS.Dict
import KE.KMathGC
import HandS.TupLen
import HandS.Call
import HandS.Deep
import PySem.Challenge.RW_nextguess_k15_whole_sandwich
set_option Elab.async false
set_option linter.all false
set_option maxRecDepth 100000
set_option maxHeartbeats 2000000
/-! An own exception class under a class under ValueError, whose __init__ is: super().__init__("text"); self.f = f. -/
namespace PySem
namespace SupX_value
open PySem.W PySem.Calls PyProof.Rows PySem.HandSPX
/-! ### the text of such an __init__ -/
def iA (p1 p2 : Pos) : Arguments := { posonlyargs := [], args := [{ arg := "self", annotation := none, pos := p1 }, { arg := "value", annotation := none, pos := p2 }], vararg := none, kwonlyargs := [], kw_defaults := [], kwarg := none, defaults := [] }
def iB (m : Str) (k : Nat) (p0 p1 p2 p3 p4 p5 q1 q2 q3 q4 : Pos) : List Stmt :=
  [.Expr (.Call (.Attribute (.Call (.Name "super" p0) [] [] p1) "__init__" p2) [.Constant (.str m) k p3] [] p4) p5,
   .Assign [.Attribute (.Name "self" q1) "value" q2] (.Name "value" q3) q4]
def iS : Scope := { kind := .function, names := [(PySem.Str.ofString "self", .local), (PySem.Str.ofString "value", .local), (PySem.Str.ofString "__class__", .free), (PySem.Str.ofString "super", .globalImplicit)], isGenerator := false, isCoroutine := false, more := [] }
/-- what the written part says of such a class at C, its __init__ at fI -/
structure XTxt (P : Program) (K : Frag) (mg : Str → Option Value) (x : Str) (C fI : Addr) : Prop where
  gC : mg x = some (.ref C)
  nm : (x == ("__debug__" : Str)) = false
  sup : mg "super" = none
  cls : ∃ nm q N bs bm sn sub ab col dd k0 k1 k2 k3 k5, K.lookup C = some (excClassObj nm q C N bs bm true sn sub ab col dd k0 k1 k2 k3 k5 "ValueError.__new__") ∧ refsVE bm = true
  sa : findIn K (.ref C) "__setattr__" = some (some (.builtin "object.__setattr__"))
  noN : findIn K (.ref C) "value" = some none
  iC : findIn K (.ref C) "__init__" = some (some (.ref fI))
  tC : typeIn K (.ref fI) = some (.type "function")
  kC : keepIn K (.ref C) = true
  exC : subIn K (.ref C) (.type "BaseException") = some true
  veC : subIn K (.ref C) (.type "ValueError") = some true
  tyC : typeIn K (.ref C) = some (.type "type")
  te : exmOne K (.ref C) (.ref C) = some true
  xf : L2.XfC K C
  sIn : ks_superIn K C C "__init__" = some (some (.builtin "ValueError.__init__"))
  opq : nsIn K cStatics "thirdparty.any" = some none
  mro : mroIn K C (.ref C) = some true
  htop : (P.main.scope.names.lookup ("super" : Str)).isSome = false
  fn : ∃ (oc : Value) (od : Option Addr) (doc pm : Value) (an : Option Addr) (cda cc : Addr) (ct : Value) (osl : Array (Option Value)) (qual m : Str) (k : Nat) (r1 r2 p0 p1 p2 p3 p4 p5 q1 q2 q3 q4 : Pos)
      (ccl cl : Value) (cdd cld : Option Addr) (ccs csl : Array (Option Value)) (vs : Array Value) (file : Str) (tf : Tok),
    K.lookup fI = some ⟨oc, od, .func (ksFn "__init__" qual (iA r1 r2) (iB m k p0 p1 p2 p3 p4 p5 q1 q2 q3 q4) iS .none .none doc pm an (.ref cda) ct cc), osl⟩ ∧ codeIn K (.ref cda) qual = true ∧ (p2.endLine == p4.line) = true ∧
    K.lookup cda = some ⟨ccl, cdd, .fields vs, ccs⟩ ∧ vs[2]? = some (.str file tf) ∧ ((P.main.file : Str) == file) = true ∧ K.lookup cc = some ⟨cl, cld, .cell (some (.ref C)), csl⟩
/-- what __init__ leaves of a fresh exception at x -/
structure InitEnd (h h' : Heap) (x C dx : Addr) (v : Value) : Prop where
  keep : ∀ b o, b ≠ x → h.get? b = some o → h'.get? b = some o
  obj : ∃ t1 : Addr, h'.get? x = some { cls := .ref C, dict := some dx, data := .fields #[.ref t1, .none, .none, .none, .bool false, .none] }
  dbig : h.objs.size ≤ dx
  dne : dx ≠ x
  ns : h'.Ns1 dx (fun y => if y = "value" then some v else none)
theorem kept_but {K : Frag} {h h' : Heap} {x : Addr} (X : K.In h) (hx : K.lookup x = none) (k : ∀ b o, b ≠ x → h.get? b = some o → h'.get? b = some o) : K.In h' := fun a o e =>
  k a o (fun z => by rw [z, hx] at e; cases e) (X a o e)
theorem two_size (v : Value) : [v].length ≤ sizeLine := by
  rw [sizeLine_eq]
  exact (by decide : 1 ≤ 16777216)
section
variable {prog : Program} {w : World} {A : Around} {E : Value → Shared → Prop} {h : Heap} {g : Array GenState} {d : Drawn} {t : Nat} {os : OsState}
variable {nm q : Str} {C N : Addr} {bs bm : List Value} {hdct : Bool} {sn : List Str} {sub : List Value} {ab : Bool} {col : Option Bool} {dd : Option Addr} {k0 k1 k2 k3 k5 : Option Value}
/-- the bound ValueError.__init__, called -/
theorem call_bw {u e t0 : Addr} {rest : List Value} {Q : Value → Shared → Prop}
    (hC : h.get? C = some (excClassObj nm q C N bs bm hdct sn sub ab col dd k0 k1 k2 k3 k5 "ValueError.__new__")) (he : h.get? e = some (excO C t0)) (hu : h.get? u = some (kxs_mw "ValueError.__init__" e)) (hrest : rest.length ≤ sizeLine)
    (hq : ∀ h' t1, (∀ b o, b ≠ e → h.get? b = some o → h'.get? b = some o) → h'.get? e = some (excO C t1) → Q .none ⟨h', g, d, t, os⟩) :
    wpAny (model prog w) A (call (.ref u) rest) Q E ⟨h, g, d, t, os⟩ := by
  refine wpAny_call (codeAny_of_tree ?_)
  show wpAny _ A.in1 (callAny (.ref u) ⟨rest, []⟩) _ _ _
  simp only [callAny]
  refine wpAny_bind (wpAny_load hu ?_)
  simp only [kxs_mw, show (Value.type "method-wrapper" == Value.type "method" || Value.type "method-wrapper" == Value.type "builtin_function_or_method" || Value.type "method-wrapper" == Value.type "method-wrapper") = true by decide, if_true]
  refine W.KFB.if_so (by decide) ?_
  refine wpAny_bind (ESX.check_bound F.excBase_ValueError hC he rfl ?_)
  refine wpAny_bind (wpAny_pure (wpAny_pure ?_))
  refine ⟨Code.quiet_builtin _ (by decide +kernel), codeAny_builtin F.excBase_ValueError.initEntry ?_⟩
  rw [Around.under_plainId F.excBase_ValueError.init.plain _]
  wp_walk
  refine hq _ h.objs.size (fun b o hb ho => ?_) ?_
  · rw [Heap.get?_update_other _ _ (Ne.symm hb)]
    exact Heap.get?_push_of_some _ ho
  · rw [Heap.get?_update_self _ (Heap.get?_push_of_some _ he) rfl]
    rfl
end
section
variable {prog : Program} {w : World} {A : Around} {R : Result → Shared → Prop} {s : Shared} {K : Frag} {mg : Str → Option Value} {x : Str} {C fI : Addr}
theorem sup_init (T : XTxt prog K mg x C fI) {e t0 : Addr} {v : Value} (X : K.In s.heap) (hlim : s.heap.NoLimit) (hg : s.heap.Ns mainGlobals mg) (hb : ∃ mb, s.heap.Ns builtinsNs mb ∧ ∀ y : Str, y ≠ "__name__" → mb y = bootBuiltins y)
    (hx : s.heap.get? e = some (excO C t0)) (hnx : K.lookup e = none) (hroom : A.depth < recursionLimit)
    (hq : ∀ h' tk dx, InitEnd s.heap h' e C dx v → R (.ok (.ret .none)) { s with heap := h', toks := tk }) :
    codeAny (model prog w) A (.call (.ref fI) ⟨[.ref e, v], []⟩) R s := by
  obtain ⟨oc, od, doc, pm, an, cda, cc, ct, osl, qual, m, k, r1, r2, p0, p1, p2, p3, p4, p5, q1, q2, q3, q4, ccl, cl, cdd, cld, ccs, csl, vs, file, tf, ho, hcd, hln, hcode, hvs, hfile, hcell⟩ := T.fn
  obtain ⟨nm, q, N, bs, bm, sn, sub, ab, col, dd, k0, k1, k2, k3, k5, hC, hbm⟩ := T.cls
  obtain ⟨mb, hb1, hb2⟩ := hb
  have hcl : clsIn K C = some { name := nm, bases := bs, mro := .ref C :: bm, ns := N, qualname := q, hasDict := true, slotNames := sn, subclasses := sub, abstract := ab, collection := col, hasDel := false } := by unfold clsIn; rw [hC] <;> rfl
  refine ks_codeAny_call_defAt (fd := ksFn "__init__" qual (iA r1 r2) (iB m k p0 p1 p2 p3 p4 p5 q1 q2 q3 q4) iS .none .none doc pm an (.ref cda) ct cc) (body := iB m k p0 p1 p2 p3 p4 p5 q1 q2 q3 q4) (binds := [("self", .ref e), ("value", v)])
    hroom (X _ _ ho) rfl hlim (codeRec_of X hcd) rfl (BindsTo.of_eq ?_) ?_ ?_ (fun h₁ hns hk₁ => ?_) rfl rfl rfl
  · first | rfl | with_unfolding_all rfl
  · intro y hy
    have hy2 : y ∈ [(PySem.Str.ofString "self", NameKind.local), (PySem.Str.ofString "value", .local), (PySem.Str.ofString "__class__", .free), (PySem.Str.ofString "super", .globalImplicit)] := hy
    simp only [List.mem_cons, List.not_mem_nil, or_false] at hy2
    rcases hy2 with rfl | rfl | rfl | rfl <;> intro z <;> cases z
  · intro y hy
    simp only [List.mem_cons, List.not_mem_nil, or_false] at hy
    rcases hy with rfl | rfl <;> rfl
  -- the frame: self, the field's value
  have X₁ : K.In h₁ := X.keeps hk₁
  have hx₁ := hk₁ _ _ hx
  have hC₁ := X₁ _ _ hC
  show _root_.PySem.wpAt _ _ _ (execs (iB m k p0 p1 p2 p3 p4 p5 q1 q2 q3 q4) _) _ _ _
  refine ks_wpAt_execs_cons (ks_wpAt_Expr_any (ks_wpAt_MethodCall (pl := (do return (← importBound (.Call (.Name "super" p0) [] [] p1) (callEnv
          (ksFn "__init__" qual (iA r1 r2) (iB m k p0 p1 p2 p3 p4 p5 q1 q2 q3 q4) iS .none .none doc pm an (.ref cda) ct cc) s.heap.objs.size fI)).getD true)) ?_ ?he) rfl rfl)
  case he =>
    rw [eval]
    unfold methodCall methodCallPos
    simp only [hln, Bool.or_true, if_true, pure_bind]
    rfl
  refine ks_wpAt_super_base (f := fI) (cc := cda) rfl rfl (by decide +kernel) rfl (X₁ _ _ ho) rfl rfl rfl (X₁ _ _ hcode) rfl hvs hfile T.htop ?_
  refine ks_loadName_global rfl rfl (loadGlobal_builtin (hg.keeps hk₁) T.sup (hb1.keeps hk₁) ((hb2 _ (by decide +kernel)).trans (show bootBuiltins "super" = some (.type "super") by first | rfl | decide +kernel | kernel_rfl)) ⟨rfl, ?_⟩)
  refine wpAny_loadName_free rfl rfl rfl ⟨_, X₁ _ _ hcell, rfl⟩ ?_
  refine wpAny_loadName_local (v := .ref e) rfl rfl hns (by rfl) ?_
  refine ks_wpAny_isType_cls hC₁ rfl ⟨rfl, ?_⟩
  refine ks_wpAny_call_super hC₁ rfl hx₁ rfl (fun c z => nomatch z) (looks_mroIn X₁ T.mro) (fun h₂ e₂ k₂ => ?_)
  have X₂ : K.In h₂ := X₁.keeps k₂
  have hx₂ := k₂ _ _ hx₁
  have hC₂ := X₂ _ _ hC
  have I₂ : InstAt h₂ e (excO C t0) C none := ⟨hx₂, rfl, rfl, trivial⟩
  have hI : Looks (model prog w) h₂ (isInstance (.ref e) (.type "ValueError")) true := I₂.type.andThen (looks_subIn X₂ T.veC)
  have hsi : alongIn K "__init__" (((Value.ref C :: bm).dropWhile (· != .ref C)).drop 1) = some (some (.builtin "ValueError.__init__")) := by
    have z := T.sIn
    unfold ks_superIn at z
    rw [hcl] at z
    exact z
  have hmro : Looks (model prog w) h₂ (mroOf (.ref C)) (Value.ref C :: bm) := fun A' Q' E' s' k' q' => wpAny_bind ((looks_clsIn X₂ hcl) A' _ E' s' k' (wpAny_pure q'))
  refine kxs_getMethod kxs_ValueError e₂ (looks_opaque X₂ T.opq) hmro rfl X₂ hsi hI (ks_ne X₂ I₂ hcl) (by decide +kernel) ?_
  have hu : (h₂.push (kxs_mw "ValueError.__init__" e)).get? h₂.objs.size = some (kxs_mw "ValueError.__init__" e) := by heap_get
  have k₃ : ∀ b o, h₂.get? b = some o → (h₂.push (kxs_mw "ValueError.__init__" e)).get? b = some o := fun b o z => Heap.get?_push_of_some _ z
  refine kxs_callWith (i := "ValueError.__init__") (x := e) (by rfl) ?_
  refine evalArgs_plain (spliced_cons ?_)
  show wpAny _ _ (eval (.Constant (.str m) k p3) _) _ _ _
  refine Constant_str (spliced_nil ⟨hu, ?_⟩)
  refine call_bw (k₃ _ _ hC₂) (k₃ _ _ hx₂) hu (two_size _) (fun h₄ t4 k₄ hx₄ => ?_)
  have k₅ : ∀ b o, b ≠ e → s.heap.get? b = some o → h₄.get? b = some o := fun b o z y => k₄ b o z (k₃ _ _ (k₂ _ _ (hk₁ _ _ y)))
  have X₄ : K.In h₄ := kept_but (X₂.keeps k₃) hnx k₄
  have hLe : s.heap.objs.size ≠ e := Nat.ne_of_gt (Heap.lt_size hx)
  have hns₄ : h₄.Ns s.heap.objs.size (fun y => List.lookup y ([(("self" : Str), Value.ref e), (("value" : Str), v)] : List (Str × Value)).reverse) := by
    obtain ⟨oL, es, ep, hL, r⟩ := hns
    exact ⟨oL, es, ep, k₄ _ _ hLe (k₃ _ _ (k₂ _ _ hL)), r⟩
  show wpAt _ _ _ (execs [.Assign [.Attribute (.Name "self" q1) "value" q2] (.Name "value" q3) q4] _) _ _ _
  refine wpAt_of_wpAny (wpAny_execs_cons (plainObj_wpAny_Assign_Attribute ?_))
  refine ESX.ldL (v := v) hns₄ (by rfl) (ESX.ldL (v := .ref e) hns₄ (by rfl) ?_)
  refine set_plain X₄ (ox := excO C t4) (od := none) ⟨hx₄, rfl, rfl, trivial⟩ T.sa ?_
  refine exc_osa X₄ hx₄ hcl (show refsVE (.ref C :: bm) = true from hbm) rfl T.noN (fun h₆ tk₆ dx k₆ dn dne hx₆ hn₆ => ?_)
  refine wpAny_execs_nil (hq h₆ tk₆ dx ⟨fun b o hb y => k₆ b o hb (k₅ b o hb y), ⟨t4, hx₆⟩, ?_, dne, hn₆⟩)
  have z : s.heap.objs.size < h₄.objs.size := hns₄.lt
  exact Nat.le_of_lt (Nat.lt_of_lt_of_le z dn)
/-- a made exception -/
structure OwnMade (h h' : Heap) (e C d : Addr) (v : Value) : Prop where
  keep : ∀ b o, h.get? b = some o → h'.get? b = some o
  new : h.objs.size ≤ e
  obj : ∃ t1 : Addr, h'.get? e = some { cls := .ref C, dict := some d, data := .fields #[.ref t1, .none, .none, .none, .bool false, .none] }
  dbig : h.objs.size ≤ d
  dne : d ≠ e
  ns : h'.Ns1 d (fun y => if y = "value" then some v else none)
theorem sup_made (T : XTxt prog K mg x C fI) {v : Value} (X : K.In s.heap) (hlim : s.heap.NoLimit) (hg : s.heap.Ns mainGlobals mg) (hb : ∃ mb, s.heap.Ns builtinsNs mb ∧ ∀ y : Str, y ≠ "__name__" → mb y = bootBuiltins y) (hroom : A.depth + 1 < recursionLimit)
    (hq : ∀ h' tk e d, OwnMade s.heap h' e C d v → R (.ok (.ret (.ref e))) { s with heap := h', toks := tk }) :
    codeAny (model prog w) A (.call (.ref C) ⟨[v], []⟩) R s := by
  obtain ⟨nm, q, N, bs, bm, sn, sub, ab, col, dd, k0, k1, k2, k3, k5, hC, hbm⟩ := T.cls
  obtain ⟨mb, hb1, hb2⟩ := hb
  obtain ⟨hp, g, dr, tk, os⟩ := s
  have k : ∀ b o, hp.get? b = some o → ((hp.push (kdv_tup [v])).push (excO C hp.objs.size)).get? b = some o := fun b o e => Heap.get?_push_of_some _ (Heap.get?_push_of_some _ e)
  have hget : ((hp.push (kdv_tup [v])).push (excO C hp.objs.size)).get? (hp.objs.size + 1) = some (excO C hp.objs.size) := by heap_get
  have hnx : K.lookup (hp.objs.size + 1) = none := by
    cases e : K.lookup (hp.objs.size + 1) with
    | none => rfl
    | some o =>
      have z : hp.get? (hp.objs.size + 1) = some o := X _ _ e
      exact absurd (Nat.lt_of_succ_lt (Heap.lt_size z)) (Nat.lt_irrefl _)
  refine call_own F.excBase_ValueError (fun X => refsVE_contains X bm hbm) (X _ _ hC) (looks_findIn X T.iC) (fun self => bind_fn X self T.tC) (two_size v) ?_
  refine sup_init (s := ⟨(hp.push (kdv_tup [v])).push (excO C hp.objs.size), g, dr, tk, os⟩) T (X.keeps k) (hlim.keeps k) (hg.keeps k) ⟨mb, hb1.keeps k, hb2⟩ hget hnx ?_ fun h' tk' dx M => ?_
  · show A.depth + 1 < recursionLimit
    exact hroom
  · obtain ⟨k', hx, dn, dne, hns⟩ := M
    have old : ∀ b o, hp.get? b = some o → h'.get? b = some o := fun b o e => k' b o (Nat.ne_of_lt (Nat.lt_succ_of_lt (Heap.lt_size e))) (k b o e)
    have z : hp.objs.size + 1 + 1 ≤ dx := by
      first
        | (simpa only [Heap.size_push] using dn)
        | exact dn
        | (have q := dn; rw [Heap.size_push, Heap.size_push] at q; exact q)
    exact ⟨rfl, hq h' tk' (hp.objs.size + 1) dx ⟨old, Nat.le_succ _, hx, Nat.le_trans (Nat.le_trans (Nat.le_succ _) (Nat.le_succ _)) z, dne, hns⟩⟩
end
end SupX_value
end PySem

set_option Elab.async false
set_option linter.all false
set_option maxRecDepth 100000
set_option maxHeartbeats 2000000

namespace L2
open PySem PySem.Spec PyProof.Rows
theorem relO_one {f : Str} {v : V} {v' : Value} (r : RelV v v') (g : Str) : RelO (List.lookup g [(f, v)]) (if g = f then some v' else none) := by
  by_cases hw : g = f
  · subst hw
    rw [if_pos rfl]
    have q : List.lookup g [(g, v)] = some v := by simp [List.lookup]
    rw [q]
    exact r
  · rw [if_neg hw]
    have qw : (g == f) = false := by simpa using hw
    have q2 : List.lookup g [(f, v)] = none := by simp [List.lookup, qw]
    rw [q2]
    trivial
/-- C(e), an exception that is made -/
def tMkX (C : Addr) (f : Str) (ta : TA) : St → Hp → XK → Prop := fun σ H Q => ta σ H fun vs H1 => ∃ v, vs = [v] ∧ ∀ d, H1 d = none → Q (.ref C) (some d) (upd H1 d (.xd [(f, v)]))
/-- C(e) as a value: the exception at a, its dict at d -/
def tExV (C : Addr) (f : Str) (ta : TA) : TE := fun σ H Q => ta σ H fun vs H1 => ∃ v, vs = [v] ∧ ∀ a d, H1 a = none → H1 d = none → d ≠ a → Q (.ref a) (upd (upd H1 d (.xd [(f, v)])) a (exo a C (some d)))
end L2
namespace L2
namespace Sup_value
open PySem PySem.Spec PyProof.Rows PySem.SupX_value
section
variable {X : Cx} {C fI : Addr} {x : Str}
theorem gblt {pins : List (Addr × Obj)} {σ : St} {H : Hp} {s : Shared} (I : Inv X pins σ H s) : ∃ mb, s.heap.Ns builtinsNs mb ∧ ∀ y : Str, y ≠ "__name__" → mb y = bootBuiltins y := by
  obtain ⟨mb, h1, h2⟩ := I.mod.blt
  exact ⟨mb, h1.keeps I.bk, h2⟩
theorem pmk_sup {a : Expr} {ta : TA} {p pos : Pos} {k : Nat} (T : XTxt X.prog X.K X.mg x C fI) (hr : Room k X.A) (ha : PA X [a] ta) (hg : Gl X x := by rfl)
    (he : starEach (a :: []) X.env = (false, eval a X.env) :: starEach [] X.env := by rfl) (hpl : (backTo pos (starEach [] X.env)).any (·.1) = false := by rfl) :
    PMk X (.Call (.Name x p) [a] [] pos) (tMkX C "value" ta) := by
  intro pins s σ H Q I h
  refine wpAny_Call_Name_kw (ld_glob I hg T.gC ?_ T.nm)
  refine PySem.W.callWith_K (h₀ := X.base) I.ok.mod.kin T.kC (thn (ha.run pos pins s σ H _ I h) fun us s1 hh => ?_) he hpl
  obtain ⟨vs, H1, I1, r1, v, ev, q1⟩ := hh
  subst ev
  refine ⟨I1.kIn, ?_⟩
  cases r1 with
  | cons rv rn =>
    rename_i v' us'
    cases rn
    show wpAny _ _ (call (.ref C) [v']) _ _ _
    have hlim := I1.nolimit
    have hgl := I1.mod.glob.keeps I1.bk
    have hbl := gblt I1
    obtain ⟨hp, g, dr, tk, os⟩ := s1
    refine wpAny_call (sup_made T I1.kIn hlim hgl hbl (by have := hr.dp; omega) fun h' tk' e d M => ?_)
    show MkP X pins σ Q (.ref e) ⟨h', g, dr, tk', os⟩
    obtain ⟨t1, hoe⟩ := M.obj
    have hns := M.ns
    obtain ⟨G', g1, g2⟩ := restrict h' fun b => decide (b ≠ e)
    have gk : ∀ b, b ≠ e → G'.get? b = h'.get? b := fun b hb => g1 b (decide_eq_true hb)
    have ge : G'.get? e = none := g2 e (by simp)
    have old : ∀ b o, hp.get? b = some o → G'.get? b = some o := fun b o q => (gk b (Nat.ne_of_lt (Nat.lt_of_lt_of_le (Heap.lt_size q) M.new))).trans (M.keep b o q)
    have ob : ObjOk X.prog X.w (upd H1 d (.xd [(("value" : Str), v)])) G' d (.xd [(("value" : Str), v)]) :=
      ⟨_, hns.at (fun o q => (gk d M.dne).trans q), fun f => relO_one rv f⟩
    have J : Inv X pins σ (upd H1 d (.xd [(("value" : Str), v)])) ⟨G', g, dr, tk', os⟩ := I1.laid (t' := tk') old M.dbig ob
    refine ⟨e, _, _, ⟨G', g, dr, tk', os⟩, _, .ref C, some d, rfl, J, fun b o q => ?_, ge, hoe, ⟨rfl, rfl⟩, rfl, rfl, ?_, rfl, I1.bare, raises_own T.exC T.tyC, q1 d (I1.hok.fresh M.dbig)⟩
    · by_cases hb : b = e
      · have q' : G'.get? b = some o := q
        rw [hb, ge] at q'; cases q'
      · exact (gk b hb).symm.trans q
    · rw [upd_ne (Ne.symm M.dne)]
      exact I1.hok.fresh M.new
/-- raise C(e) -/
theorem ps_raiseSup {a : Expr} {ta : TA} {W : WX} {p pos pos2 : Pos} {k : Nat} (hc : X.calm = true) (T : XTxt X.prog X.K X.mg x C fI) (hr : Room k X.A) (tk : Takes X W) (ha : PA X [a] ta) (hg : Gl X x := by rfl)
    (he : starEach (a :: []) X.env = (false, eval a X.env) :: starEach [] X.env := by rfl) (hpl : (backTo pos (starEach [] X.env)).any (·.1) = false := by rfl) :
    PS X (.Raise (some (.Call (.Name x p) [a] [] pos)) none pos2) (fun _ σ H => tMkX C "value" ta σ H fun cls d H' => W cls d σ H') := ps_raise hc tk (pmk_sup T hr ha hg he hpl)
theorem pmk_supN {a : Expr} {ta : TA} {p pos : Pos} {k : Nat} (T : XTxt X.prog X.K X.mg x C fI) (hr : Room k X.A) (ha : PA X [a] ta) (hg : Gl X x := by rfl)
    (he : starEach (a :: []) X.env = (false, eval a X.env) :: starEach [] X.env := by rfl) (hpl : (backTo pos (starEach [] X.env)).any (·.1) = false := by rfl) :
    L2N.PMk X (.Call (.Name x p) [a] [] pos) (tMkX C "value" ta) := by
  intro pins s σ H Q I h
  refine wpAny_Call_Name_kw (ld_glob I hg T.gC ?_ T.nm)
  refine PySem.W.callWith_K (h₀ := X.base) I.ok.mod.kin T.kC (thn (ha.run pos pins s σ H _ I h) fun us s1 hh => ?_) he hpl
  obtain ⟨vs, H1, I1, r1, v, ev, q1⟩ := hh
  subst ev
  refine ⟨I1.kIn, ?_⟩
  cases r1 with
  | cons rv rn =>
    rename_i v' us'
    cases rn
    show wpAny _ _ (call (.ref C) [v']) _ _ _
    have hlim := I1.nolimit
    have hgl := I1.mod.glob.keeps I1.bk
    have hbl := gblt I1
    obtain ⟨hp, g, dr, tk, os⟩ := s1
    refine wpAny_call (sup_made T I1.kIn hlim hgl hbl (by have := hr.dp; omega) fun h' tk' e d M => ?_)
    show L2N.MkP X pins σ Q (.ref e) ⟨h', g, dr, tk', os⟩
    obtain ⟨t1, hoe⟩ := M.obj
    have hns := M.ns
    obtain ⟨G', g1, g2⟩ := restrict h' fun b => decide (b ≠ e)
    have gk : ∀ b, b ≠ e → G'.get? b = h'.get? b := fun b hb => g1 b (decide_eq_true hb)
    have ge : G'.get? e = none := g2 e (by simp)
    have old : ∀ b o, hp.get? b = some o → G'.get? b = some o := fun b o q => (gk b (Nat.ne_of_lt (Nat.lt_of_lt_of_le (Heap.lt_size q) M.new))).trans (M.keep b o q)
    have ob : ObjOk X.prog X.w (upd H1 d (.xd [(("value" : Str), v)])) G' d (.xd [(("value" : Str), v)]) :=
      ⟨_, hns.at (fun o q => (gk d M.dne).trans q), fun f => relO_one rv f⟩
    have J : Inv X pins σ (upd H1 d (.xd [(("value" : Str), v)])) ⟨G', g, dr, tk', os⟩ := I1.laid (t' := tk') old M.dbig ob
    refine ⟨e, _, _, ⟨G', g, dr, tk', os⟩, _, .ref C, some d, rfl, J, fun b o q => ?_, ge, hoe, ⟨rfl, rfl, fun vs e => by cases e; rfl⟩, rfl, rfl, ?_, rfl, I1.bare, raises_own T.exC T.tyC, q1 d (I1.hok.fresh M.dbig)⟩
    · by_cases hb : b = e
      · have q' : G'.get? b = some o := q
        rw [hb, ge] at q'; cases q'
      · exact (gk b hb).symm.trans q
    · rw [upd_ne (Ne.symm M.dne)]
      exact I1.hok.fresh M.new
/-- raise C(e) -/
theorem ps_raiseSupN {a : Expr} {ta : TA} {W : WX} {p pos pos2 : Pos} {k : Nat} (hc : X.calm = true) (T : XTxt X.prog X.K X.mg x C fI) (hr : Room k X.A) (tk : L2N.Takes X W) (ha : PA X [a] ta) (hg : Gl X x := by rfl)
    (he : starEach (a :: []) X.env = (false, eval a X.env) :: starEach [] X.env := by rfl) (hpl : (backTo pos (starEach [] X.env)).any (·.1) = false := by rfl) :
    PS X (.Raise (some (.Call (.Name x p) [a] [] pos)) none pos2) (fun _ σ H => tMkX C "value" ta σ H fun cls d H' => W cls d σ H')   := L2N.ps_raise hc tk (pmk_supN T hr ha hg he hpl)
/-- C(e) as a value -/
theorem pe_supV {a : Expr} {ta : TA} {p pos : Pos} {k : Nat} (T : XTxt X.prog X.K X.mg x C fI) (hr : Room k X.A) (ha : PA X [a] ta) (hg : Gl X x := by rfl)
    (he : starEach (a :: []) X.env = (false, eval a X.env) :: starEach [] X.env := by rfl) (hpl : (backTo pos (starEach [] X.env)).any (·.1) = false := by rfl) :
    PE X (.Call (.Name x p) [a] [] pos) (tExV C "value" ta) := by
  refine ⟨fun pins s σ H Q I h => ?_⟩
  refine wpAny_Call_Name_kw (ld_glob I hg T.gC ?_ T.nm)
  refine PySem.W.callWith_K (h₀ := X.base) I.ok.mod.kin T.kC (thn (ha.run pos pins s σ H _ I h) fun us s1 hh => ?_) he hpl
  obtain ⟨vs, H1, I1, r1, v, ev, q1⟩ := hh
  subst ev
  refine ⟨I1.kIn, ?_⟩
  cases r1 with
  | cons rv rn =>
    rename_i v' us'
    cases rn
    show wpAny _ _ (call (.ref C) [v']) _ _ _
    have hlim := I1.nolimit
    have hgl := I1.mod.glob.keeps I1.bk
    have hbl := gblt I1
    obtain ⟨hp, g, dr, tk, os⟩ := s1
    refine wpAny_call (sup_made T I1.kIn hlim hgl hbl (by have := hr.dp; omega) fun h' tk' e d M => ?_)
    obtain ⟨t1, hoe⟩ := M.obj
    have hne : H1 e = none := I1.hok.fresh M.new
    have hnd : H1 d = none := I1.hok.fresh M.dbig
    have nde : ∀ {b : Addr} {o : Obj}, hp.get? b = some o → b ≠ e := fun {b o} z => Nat.ne_of_lt (Nat.lt_of_lt_of_le (Heap.lt_size z) M.new)
    have ndd : ∀ {b : Addr} {o : Obj}, hp.get? b = some o → b ≠ d := fun {b o} z => Nat.ne_of_lt (Nat.lt_of_lt_of_le (Heap.lt_size z) M.dbig)
    have two : ∀ {b : Addr} {o : HO}, H1 b = some o → upd (upd H1 d (.xd [(("value" : Str), v)])) e (exo e C (some d)) b = some o := fun {b o} z => by
      rw [upd_ne (ne_of_none z hne), upd_ne (ne_of_none z hnd)]
      exact z
    have U : Un X.fs [] H1 (upd (upd H1 d (.xd [(("value" : Str), v)])) e (exo e C (some d))) hp h' := {
      keep := fun b u z _ _ _ => M.keep b u z
      slot := fun b u z _ _ _ => ⟨u.slots, M.keep b u z⟩
      free := fun b u z n _ => by rw [upd_ne (nde z), upd_ne (ndd z)]; exact n
      there := fun b u z _ => ⟨u, M.keep b u z⟩
      tups := fun b xs z => two z
      frzs := fun b u xs z => two z
      tbls := fun b ps z => ⟨#[], by rw [two z]; simp⟩ }
    have ok2 : HOk X.prog X.w (upd (upd H1 d (.xd [(("value" : Str), v)])) e (exo e C (some d))) h' := fun b o z => by
      by_cases hb : b = e
      · subst hb
        rw [upd_same] at z
        cases z
        exact exo_ok hoe
      · rw [upd_ne hb] at z
        by_cases hd : b = d
        · subst hd
          rw [upd_same] at z
          cases z
          exact ⟨_, M.ns, fun f => relO_one rv f⟩
        · rw [upd_ne hd] at z
          exact (I1.hok b o z).stay (fun c u _ q => M.keep c u q) (fun c q => two q) fun c xs q => two q
    have J2 : Inv X pins σ (upd (upd H1 d (.xd [(("value" : Str), v)])) e (exo e C (some d))) ⟨h', g, dr, tk', os⟩ := I1.un (t' := tk') U ok2
    exact ⟨.ref e, _, J2, rfl, q1 e d hne hnd M.dne⟩
end
end Sup_value
end L2

set_option Elab.async false
set_option linter.all false
set_option maxRecDepth 100000
set_option maxHeartbeats 4000000
namespace PySem.W
open PySem PySem.Spec PySem.Calls PyProof.Rows
section
variable {prog : Program} {w : World} {A : Around} {E : Value → Shared → Prop} {s : Shared} {K : Frag} {x D : Addr} {ox : Obj}
theorem findObj_dX {C : Addr} {odx : Option Obj} {name : Str} {a g : Value} (hc : (clsIn K C).isSome = true) (ha : findIn K (.ref C) name = some (some a)) (hg : specialIn K a "__get__" = some (some g)) (ht : takesIn K a = some true) : findObj K C odx name = some (.bind g a) := by
  obtain ⟨cd, hc⟩ := Option.isSome_iff_exists.mp hc
  unfold findObj
  rw [hc, Option.bind_some, ha, Option.bind_some]
  simp [hg, ht]
theorem kin_classX {odx : Option Obj} {Q : Option Value → Shared → Prop} (hga : findIn K (.ref D) "__getattribute__" = some (some (.builtin "BaseException.__getattribute__"))) (hgt : findIn K (.ref D) "__getattr__" = some none) (hsub : subIn K (.ref D) (.type "BaseException") = some true)
    (hdct : hasDictIn K D = true) (ha : findIn K (.ref D) "__class__" = some (some (.builtin "object.__class__")))
    (hn : specialIn K (.builtin "object.__class__") "__get__" = some (some (.builtin "getset_descriptor.__get__"))) (htk : takesIn K (.builtin "object.__class__") = some true) (hm : mroIn K D (.type "object") = some true)
    (X : K.In s.heap) (I : InstAt s.heap x ox D odx) (h : Q (some (.ref D)) { s with toks := s.toks + 1 }) : wpAny (model prog w) A (getAttr? (.ref x) "__class__") Q E s := by
  have hf : findObj K D odx "__class__" = some (.bind (.builtin "getset_descriptor.__get__") (.builtin "object.__class__")) := findObj_dX (by obtain ⟨cd, hc, _⟩ := any_some hdct; rw [hc]; rfl) ha hn htk
  obtain ⟨hp, g, d, t, os⟩ := s
  have L0 := I.type (M := model prog w)
  have L1 := looks_findIn (M := model prog w) X hga
  have L2 := looks_findIn (M := model prog w) X hgt
  have L3 := looks_find (M := model prog w) X I hf
  have sub : Looks (model prog w) hp (isInstance (.ref x) (.type "BaseException")) true := L0.andThen (looks_subIn X hsub)
  have hx0 : (false && onTheHeap (Value.builtin "BaseException.__getattribute__")) = false := rfl
  have hx2 : (Value.builtin "BaseException.__getattribute__" == Value.builtin "object.__getattribute__") = false := by decide +kernel
  have hx1 : (onTheHeap (Value.ref D) && Value.builtin "BaseException.__getattribute__" == Value.builtin "object.__getattribute__") = false := by rw [hx2]; rfl
  unfold getAttr? getAttrBy? getAttrBy
  refine wpAny_bind (wpAny_mkText (wpAny_bind (wpAny_attempt (wpAny_holding (wpAny_bind (L0.at (wpAny_bind (L1.at ?_))))))))
  show wpAny _ _ (if (onTheHeap (Value.ref D) && Value.builtin "BaseException.__getattribute__" == Value.builtin "object.__getattribute__") = true then _ else _) _ _ _
  rw [hx1, if_neg Bool.false_ne_true]
  unfold getAttrByItsOwn hookBefore
  refine wpAny_bind ?_
  rw [if_pos (show onTheHeap (Value.ref D) = true from rfl)]
  refine L2.at ?_
  refine wpAny_bind (wpAny_attempt (wpAny_holding ?_))
  unfold callGetattribute
  rw [hx0, if_neg Bool.false_ne_true]
  unfold boundAndCalled
  rw [PySem.F.excAttr_ValueError.ga.bind (.ref x)]
  refine wpAny_bind (wpAny_pure ?_)
  show wpAny _ _ (call (.builtin "BaseException.__getattribute__") [.ref x, .str "__class__" t]) _ _ _
  refine wpAny_call (codeAny_call_builtin PySem.F.excAttr_ValueError.ga.plain PySem.F.entry_bexc_ga ?_)
  refine @check_slot (model prog w) _ _ ⟨hp, g, d, t + 1, os⟩ "BaseException.__getattribute__" "BaseException" "__getattribute__" (.ref x) [.str "__class__" t] [] _ (by decide +kernel) (by decide +kernel) sub (PySem.F.args_bexc_ga (.ref x) (.str "__class__" t)) ?_
  unfold Builtin.«object.__getattribute__»
  refine wpAny_bind (wpAny_of_eq (a := ((Value.ref x : Value), [Value.str "__class__" t])) (by first | rfl | (simp only [slotArgs]; rfl)) ?_)
  refine wpAny_bind (wpAny_pure (wpAny_bind (L0.at (wpAny_bind (L3.at ?_)))))
  show wpAny _ _ (holding [Value.builtin "object.__class__"] (call (.builtin "getset_descriptor.__get__") [.builtin "object.__class__", .ref x, .ref D]) >>= ret) _ _ _
  refine wpAny_bind (wpAny_holding (wpAny_call (class_get (s := ⟨hp, g, d, t + 1, os⟩) (ox := ox) (od := odx) X I hm ?_)))
  refine wpAny_pure ?_
  show wpAny _ _ (handedOut (.ref D)) _ _ _
  rw [handedOut_of (v := .ref D) rfl]
  first
    | exact wpAny_pure (wpAny_pure h)
    | exact wpAny_pure h
    | exact wpAny_pure (wpAny_bind (wpAny_pure (wpAny_pure h)))
theorem kitx_excX {odx : Option Obj} (hga : findIn K (.ref D) "__getattribute__" = some (some (.builtin "BaseException.__getattribute__"))) (hgt : findIn K (.ref D) "__getattr__" = some none) (hsub : subIn K (.ref D) (.type "BaseException") = some true) (hdct : hasDictIn K D = true) (ha : findIn K (.ref D) "__class__" = some (some (.builtin "object.__class__")))
    (hn : specialIn K (.builtin "object.__class__") "__get__" = some (some (.builtin "getset_descriptor.__get__"))) (htk : takesIn K (.builtin "object.__class__") = some true) (hm : mroIn K D (.type "object") = some true) :
    KitX K (.ref x) (.ref D) (fun h => InstAt h x ox D odx) where
  ty := fun _ _ _ I => I.type
  it := fun _ _ X _ => by
    obtain ⟨cdD, hcD, _⟩ := any_some hdct
    unfold clsIn at hcD
    split at hcD
    · rename_i c' d' cd' sl' ho
      intro A' Q' E' s' k q
      unfold isType loadHead
      exact wpAny_bind (wpAny_loadPart (k _ _ (X _ _ ho)) (wpAny_pure q))
    · cases hcD
  ne := fun h tp dd its n sl X htp => by
    obtain ⟨cdD, hcD, _⟩ := any_some hdct
    refine Bool.eq_false_iff.mpr fun q => ?_
    have e : D = tp := Value.ref.inj (beq_iff_eq.mp q)
    subst e
    unfold clsIn at hcD
    split at hcD
    · rename_i c' d' cd' sl' ho
      have z := (X _ _ ho).symm.trans htp
      cases z
    · cases hcD
  ca := fun X I k => kin_classX hga hgt hsub hdct ha hn htk hm X I k
end
end PySem.W
namespace L2
open PySem PySem.Spec PyProof.Rows
/-- an exception object that stands, with its dict -/
def ExT (K : PySem.W.Frag) (H : Hp) (x : V) (t : Value) : Prop := ∃ (a C d : Addr) (fs : List (Str × V)), x = .ref a ∧ t = .ref C ∧ H a = some (exo a C (some d)) ∧ H d = some (.xd fs) ∧ ExcC K C
def KX (K : PySem.W.Frag) (H : Hp) (x : V) (t : Value) : Prop := TyX K H x t ∨ ExT K H x t
def rIsiV (K : PySem.W.Frag) : List V → Hp → VK → Prop := fun xs H Q => ∃ (x c : V) (t u : Value) (b : Bool), xs = [x, c] ∧ ClsV c u ∧ KX K H x t ∧ PySem.W.kitOne K t u = some b ∧ Q (.bl b) H
section
variable {X : Cx}
theorem call_isiV : CallR X (.builtin "isinstance") (rIsiV X.K) := by
  intro pins s σ H xs us Q I r h
  obtain ⟨x, c, t, u, b, rfl, k, ty, e, q⟩ := h
  obtain ⟨u1, u2, rfl, r1, r2⟩ := vals2 r
  have e2 := k.eq r2
  subst e2
  rcases ty with ty | ⟨a, C, d, fs, rfl, rfl, ha, hd, EC⟩
  · obtain ⟨P, Z, p, hx⟩ := kit_of I r1 ty
    exact PySem.W.kia_one Z I.kIn p e hx fun tk => ⟨.bl b, H, I.tok tk, rfl, q⟩
  · cases (show u1 = Value.ref a from r1)
    obtain ⟨t1, ho⟩ := exo_at I.hok ha
    obtain ⟨mA, ⟨od, es, ep, hod, _⟩, _⟩ := (show ObjOk X.prog X.w H s.heap d (.xd fs) from I.hok d _ hd)
    have J : PySem.W.InstAt s.heap a _ C (some od) := ⟨ho, rfl, rfl, hod⟩
    exact PySem.W.kia_one (PySem.W.kitx_excX EC.hg EC.hk EC.hs EC.hd EC.ha EC.hn EC.ht EC.hm) I.kIn J e (fun z => nomatch z) fun tk => ⟨.bl b, H, I.tok tk, rfl, q⟩
end
end L2

set_option Elab.async false
set_option linter.all false
set_option maxRecDepth 100000
set_option maxHeartbeats 2000000
namespace L2
open PySem PySem.Spec PyProof.Rows
section
variable {X : Cx} {CX : CXT} {k : Nat} {f C : Addr} {fd : FuncData} {ps ks : List Str} {sp : Sp} {E : XK} {x m : Str} {p pos : Pos} {kws : List Keyword} {tk : TA} {g : List Value → List Value → List Value} {gV : List V → List V → List V}
/-- f(k = v, ..): keywords alone -/
theorem pe_kw0 (F : FnOk X.prog X.w X.K X.mg X.base CX k f fd ps sp) (hr : Room k X.A) (hg : Gl X x) (hm : X.mg x = some (.ref f)) (hk : PySem.W.keepIn X.K (.ref f) = true) (hb : KBinds X.K fd ps ks g gV) (hx : Passes CX X E)
    (hkw : PK X kws tk) (hall : (backToKw pos (keywordEach kws X.env)).all (·.1.isSome) = true := by rfl) (hks : (backToKw pos (keywordEach kws X.env)).filterMap (·.1) = ks := by rfl) (hdb : (x == ("__debug__" : Str)) = false := by decide)
    (hpl : ((backTo pos (starEach [] X.env)).any (·.1) || (backToKw pos (keywordEach kws X.env)).any (·.1.isNone)) = false := by rfl) :
    PE X (.Call (.Name x p) [] kws pos) (tCallK sp gV E tNil tk) := by
  refine ⟨fun pins s σ H Q I h => ?_⟩
  refine wpAny_Call_Name_kw (ld_glob I hg hm ?_ hdb)
  refine PySem.W.callWith_KW0 (h₀ := X.base) I.ok.mod.kin hk hall (thn (hkw.run pos pins s σ H _ I h) fun ws s2 ⟨zs, H2, I2, rz, q2⟩ => ⟨I2.kIn, ?_⟩) hpl
  rw [hks]
  exact run_fnk (us := []) (vs := []) F hr hb hx I2 .nil rz q2
end
section
variable {X : Cx} {CX : CXT} {k : Nat} {f C : Addr} {fd : FuncData} {ps ks : List Str} {sp : Sp} {E : L2.St → XK} {x m : Str} {p pos : Pos} {kws : List Keyword} {tk : TA} {g : List Value → List Value → List Value} {gV : List V → List V → List V}
def tCallKS (sp : Sp) (gV : List V → List V → List V) (E : L2.St → XK) (tk : TA) : TE := fun σ H Q => tk σ H fun zs H2 => sp (gV [] zs) H2 Q (E σ)
/-- f(k = v, ..) that may raise, the wish at the caller's slots -/
theorem pe_kwS0 (F : FnOk X.prog X.w X.K X.mg X.base CX k f fd ps sp) (hr : Room k X.A) (hg : Gl X x) (hm : X.mg x = some (.ref f)) (hk : PySem.W.keepIn X.K (.ref f) = true) (hb : KBinds X.K fd ps ks g gV) (hx : ∀ σ, PassesAt CX X σ (E σ))
    (hkw : PK X kws tk) (hall : (backToKw pos (keywordEach kws X.env)).all (·.1.isSome) = true := by rfl) (hks : (backToKw pos (keywordEach kws X.env)).filterMap (·.1) = ks := by rfl) (hdb : (x == ("__debug__" : Str)) = false := by decide)
    (hpl : ((backTo pos (starEach [] X.env)).any (·.1) || (backToKw pos (keywordEach kws X.env)).any (·.1.isNone)) = false := by rfl) :
    PE X (.Call (.Name x p) [] kws pos) (tCallKS sp gV E tk) := by
  refine ⟨fun pins s σ H Q I h => ?_⟩
  refine wpAny_Call_Name_kw (ld_glob I hg hm ?_ hdb)
  refine PySem.W.callWith_KW0 (h₀ := X.base) I.ok.mod.kin hk hall (thn (hkw.run pos pins s σ H _ I h) fun ws s2 ⟨zs, H2, I2, rz, q2⟩ => ⟨I2.kIn, ?_⟩) hpl
  rw [hks]
  have r2 := hb.rel (vs := []) (us := []) .nil rz
  have hl : (g [] ws).length = ps.length := by rw [← r2.length]; exact F.len _ _ _ _ q2
  refine wpAny_call (codeAny_mono (F.run X.A X.stack s2 H2 ⟨[], ks.zip ws⟩ (g [] ws) (gV [] zs) Q (E σ) hr I2.env0 (hb.to s2 [] ws I2.kIn hl) r2 q2) fun r s' hq => ?_)
  cases r with
  | error e => exact hx σ pins H2 s2 e s' I2 hq
  | ok fl =>
    cases fl with
    | ret u => exact I2.after hq
    | next => exact False.elim hq
    | brk => exact False.elim hq
    | cont => exact False.elim hq
end
section
variable {X : Cx}
/-- // by any divisor but nought, not too long -/
def CDivV (_ j : Int) : Prop := j ≠ 0 ∧ j.natAbs.log2 < 9000
theorem op_fdivV : OpR X (binaryOp .FloorDiv) (rI CDivV fun i j => .int (i.fdiv j)) := opI fun _ _ _ _ _ _ _ hc q => floordiv_int hc.1 q (.inl (PyProof.noPylong_of_log2 hc.2))
end
end L2
namespace L2
open PySem PySem.Spec PyProof.Rows
theorem passN {X : Cx} : Passes (L2N.CX X.prog X.w) X E0 := fun _ _ _ _ _ _ _ h => by
  obtain ⟨_, _, _, _, _, _, _, _, _, _, _, _, z⟩ := h
  exact z.elim
theorem passH {X : Cx} {σ : L2.St} {E : XK} : PassesAt CX0 X σ E := fun _ _ _ _ _ _ h => h.elim
theorem takesN0 {X : Cx} : L2N.Takes X (fun _ _ _ _ => False) := fun _ _ x => by
  obtain ⟨_, _, _, _, _, _, _, _, _, _, _, _, _, _, _, _, z⟩ := x
  exact z.elim
theorem hotS {X : Cx} {a : Addr} {oe : Obj} {cls : Value} {d : Option Addr} {pn : List (Addr × Obj)} (hz : L2N.Zn cls d oe) (hf : ∃ vs, oe.data = .fields vs) : L2H.HotC (X.suite a ((a, oe) :: pn)) := by
  obtain ⟨vs, e⟩ := hf
  exact ⟨(a, oe), ⟨rfl, vs, e, hz.2.2 vs e⟩, List.mem_cons_self⟩
theorem roomS {X : Cx} {k : Nat} {a : Addr} {pn : List (Addr × Obj)} (r : Room k X.A) : L2H.RoomH k (X.suite a pn).A := ⟨r.dp, r.un⟩
section
variable {P : Program} {w : World} {K : PySem.W.Frag} {mg : Str → Option Value} {base : Heap}
/-- a def that may raise, the exception's context none -/
theorem Fun.okN {x qual : Str} {st : Stmt} {f : Addr} {fd : FuncData} {N ps : List Str} {k : Nat} {sp : Sp} (F : Fun K x qual st f fd) (S : FnScope N ps (defScope st)) (len : ∀ vs H Q E, sp vs H Q E → vs.length = ps.length)
    (hbody : ∀ (cdv : Value) (A : Around) (outer : List Env) (s : Shared) (H : Hp) (vs : List V) (Q : VK) (E : XK), Room k (A.deeper (envOfC qual (defScope st) s.heap.objs.size f cdv)) → sp vs H Q E →
      ∃ t, PSs (cxOf (L2N.CX P w) P w K mg base N qual (defScope st) f cdv A outer s H E) (defBody st) t ∧ t { nx := fun _ H' => Q .non H', rt := Q } (start N vs) H) : FnOk P w K mg base (L2N.CX P w) (k + 1) f fd ps sp := by
  obtain ⟨oc, od, kV, doc, pm, an, cdv, ct, osl, rfl, lk, hcd⟩ := F.ex
  exact fn_of lk hcd S len fun A outer s H vs Q E hr hsp => hbody cdv A outer s H vs Q E hr hsp
/-- a def called where an exception is handled -/
theorem Fun.okH {CX : CXT} {x qual : Str} {st : Stmt} {f : Addr} {fd : FuncData} {N ps : List Str} {k : Nat} {sp : Sp} (F : Fun K x qual st f fd) (S : FnScope N ps (defScope st)) (len : ∀ vs H Q E, sp vs H Q E → vs.length = ps.length)
    (hbody : ∀ (cdv : Value) (A : Around) (outer : List Env) (s : Shared) (H : Hp) (vs : List V) (Q : VK) (E : XK) (p : Addr × Obj), L2H.RoomH k (A.deeper (envOfC qual (defScope st) s.heap.objs.size f cdv)) → sp vs H Q E →
      ∃ t, PSs (L2H.cxH CX P w K mg base N qual (defScope st) f cdv A outer s H E p) (defBody st) t ∧ t { nx := fun _ H' => Q .non H', rt := Q } (start N vs) H) : L2H.FnH P w K mg base CX (k + 1) f fd ps sp := by
  obtain ⟨oc, od, kV, doc, pm, an, cdv, ct, osl, rfl, lk, hcd⟩ := F.ex
  exact L2H.fn_ofH lk hcd S len fun A outer s H vs Q E p _ hr hsp => hbody cdv A outer s H vs Q E p hr hsp
end
end L2
namespace Sx
open PySem L2
abbrev St := L2.St
theorem Same.up {H H' : Hp} {a : Addr} {o : HO} (e : Same H H') (h : H a = some o) : H' a = some o := e _ _ h
/-- all but what stands at a is as it was -/
def Keep (a : Addr) (H H' : Hp) : Prop := ∀ b o, b ≠ a → H b = some o → H' b = some o
theorem Keep.up {c : Addr} {H H' : Hp} {a : Addr} {o : HO} (e : Keep c H H') (n : a ≠ c) (h : H a = some o) : H' a = some o := e _ _ n h
theorem Keep.refl (a : Addr) (H : Hp) : Keep a H H := fun _ _ _ h => h
theorem Keep.trans {a : Addr} {H H1 H2 : Hp} (e : Keep a H H1) (f : Keep a H1 H2) : Keep a H H2 := fun b o n h => f b o n (e b o n h)
theorem Keep.same {a : Addr} {H H1 : Hp} (e : Same H H1) : Keep a H H1 := fun b o _ h => e b o h
theorem Keep.put {a : Addr} {H H1 : Hp} {o : HO} (e : Keep a H H1) : Keep a H (upd H1 a o) := fun b o n h => by
  rw [upd_ne n]
  exact e b o n h
theorem Same.new {H : Hp} {p : Addr} {o : HO} (h : H p = none) : Same H (upd H p o) := fun a u e => by
  rw [upd_ne (ne_of_none e h)]
  exact e
theorem Same.put {a : Addr} {H H1 : Hp} {o : HO} (e : Same H H1) (n : H a = none) : Same H (upd H1 a o) := fun b u h => by
  rw [upd_ne (ne_of_none h n)]
  exact e b u h
/-- a keeping but at a place that was free ahead -/
theorem Keep.toSame {a : Addr} {H H1 H2 : Hp} (e : Same H H1) (n : H a = none) (f : Keep a H1 H2) : Same H H2 := fun b o h => f b o (ne_of_none h n) (e b o h)
theorem Keep.free {a b : Addr} {H H' : Hp} (e : Keep a H H') (n : b ≠ a) (h : H' b = none) : H b = none := by
  cases q : H b with
  | none => rfl
  | some o =>
    rw [e b o n q] at h
    cases h
theorem same_free {H H' : Hp} (e : Same H H') {l : Addr} (h : H' l = none) : H l = none := L2.Same.free e h
section
variable {K : PySem.W.Frag} {σ : St} {H : Hp} {Q : VK} {D : Ends} {t u : TS} {te ta tb tx : TE} {tt tu : TT} {r : R2} {x y z v w : V} {nx : St → Hp → Prop} {xs ys : List V}
theorem s_seq (h : t { D with nx := u D } σ H) : tSeq t u D σ H := h
theorem s_next (h : D.nx σ H) : tNext D σ H := h
theorem s_brk (h : D.bk σ H) : tBreak D σ H := h
theorem s_cont (h : D.ct σ H) : tCont D σ H := h
theorem s_asg {g : TG} (h : te σ H fun x H1 => g x σ H1 D.nx) : tAsg te g D σ H := h
theorem s_name {i : Nat} (h : nx (σ.set i (some v)) H) : gName i v σ H nx := h
theorem s_drop (h : te σ H fun _ H1 => D.nx σ H1) : tDrop te D σ H := h
theorem s_ret (h : te σ H D.rt) : tRet te D σ H := h
theorem s_ifS (h : tt σ H fun b H1 => if b = true then t D σ H1 else u D σ H1) : tIfS tt t u D σ H := h
theorem s_var {i : Nat} (h : σ[i]? = some (some v)) (q : Q v H) : tVar i σ H Q := ⟨v, h, q⟩
theorem s_c (q : Q v H) : tC v σ H Q := q
theorem s_op (h : ta σ H fun x H1 => tb σ H1 fun y H2 => r x y H2 Q) : tOp r ta tb σ H Q := h
theorem s_un {r : V → Hp → VK → Prop} (h : ta σ H fun x H1 => r x H1 Q) : tUn r ta σ H Q := h
variable {R : Bool → Hp → Prop}
theorem s_test (h : te σ H fun x H' => ∃ k, x = .bl k ∧ R k H') : tTest te σ H R := h
theorem s_tB (h : te σ H fun x H' => ∃ k, x = .bl k ∧ R k H') : tB te σ H R := h
theorem s_tT (h : te σ H fun x H' => ∃ k, x = .bl k ∧ R k H') : tTest te σ H R := h
theorem s_bl {k : Bool} (h : R k H) : ∃ k', V.bl k = V.bl k' ∧ R k' H := ⟨k, rfl, h⟩
theorem s_and (h : tt σ H fun c H1 => if c = true then tu σ H1 R else R false H1) : tAnd tt tu σ H R := h
theorem s_or (h : tt σ H fun c H1 => if c = true then R true H1 else tu σ H1 R) : tOr tt tu σ H R := h
theorem s_not (h : tt σ H fun c H1 => R (!c) H1) : tNot tt σ H R := h
theorem s_andV (h : ta σ H fun x H1 => ∃ c, x = .bl c ∧ if c = true then tb σ H1 Q else Q (.bl false) H1) : tAndV ta tb σ H Q := h
theorem s_orV (h : ta σ H fun x H1 => ∃ c, x = .bl c ∧ if c = true then Q (.bl true) H1 else tb σ H1 Q) : tOrV ta tb σ H Q := h
theorem s_notV (h : ta σ H fun x H1 => ∃ c, x = .bl c ∧ Q (.bl (!c)) H1) : tNotV ta σ H Q := h
theorem s_blV {k : Bool} {P : Bool → Prop} (h : P k) : ∃ k', V.bl k = V.bl k' ∧ P k' := ⟨k, rfl, h⟩
theorem s_if (h : tt σ H fun c H1 => if c = true then ta σ H1 Q else tb σ H1 Q) : tIf tt ta tb σ H Q := h
theorem s_cb {r : List V → Hp → VK → Prop} {t : TA} (h : t σ H fun vs H1 => r vs H1 Q) : tCB r t σ H Q := h
theorem s_call {sp : Sp} {dvs : List V} {E : XK} {t : TA} (h : t σ H fun vs H1 => sp (vs ++ dvs) H1 Q E) : tCall sp dvs E t σ H Q := h
theorem s_callK {sp : Sp} {gV : List V → List V → List V} {E : XK} {t tk : TA} (h : t σ H fun vs H1 => tk σ H1 fun zs H2 => sp (gV vs zs) H2 Q E) : tCallK sp gV E t tk σ H Q := h
theorem s_nil {P : List V → Hp → Prop} (h : P [] H) : tNil σ H P := h
theorem s_cons {ta : TE} {tr : TA} {P : List V → Hp → Prop} (h : ta σ H fun x H1 => tr σ H1 fun xs H2 => P (x :: xs) H2) : tCons ta tr σ H P := h
theorem s_tup {t : TA} (h : t σ H fun xs H1 => xs.length ≤ sizeLine ∧ ∀ p, H1 p = none → Q (.ref p) (upd H1 p (.tup xs))) : tTup t σ H Q := h
theorem s_lst {t : TA} (h : t σ H fun xs H1 => xs.length ≤ sizeLine ∧ ∀ p, H1 p = none → Q (.ref p) (upd H1 p (.lst xs))) : tLst t σ H Q := h
theorem new_same {H H2 : Hp} {p : Addr} {o : HO} (n : H p = none) (e : upd H p o = H2) : Same H H2 := by
  subst e
  exact Same.new n
theorem new_at {H H2 : Hp} {p : Addr} {o : HO} (e : upd H p o = H2) : H2 p = some o := by
  subst e
  exact upd_same
theorem put_keep {H H2 : Hp} {p : Addr} {o : HO} (e : upd H p o = H2) : Keep p H H2 := by
  subst e
  exact Keep.put (Keep.refl p H)
theorem c_mul_r {i j : Int} (a : -(2 ^ 64) < j) (b : j < 2 ^ 64) : CMul i j := .inr ⟨a, b⟩
theorem c_mul_l {i j : Int} (a : -(2 ^ 64) < i) (b : i < 2 ^ 64) : CMul i j := .inl ⟨a, b⟩
theorem c_div {i j : Int} (a : 0 < j) (b : j < 1073741824) : CDiv i j := ⟨a, b⟩
theorem c_pow {i j : Int} (a : 0 ≤ j) (b : j ≤ 1000000) (c : i.natAbs < 2 ^ 64) : CPow i j := ⟨a, b, c⟩
-- operators on values
theorem r_I0 {g : Int → Int → V} {i j : Int} (q : Q (g i j) H) : rI0 g (.int i) (.int j) H Q := ⟨i, j, rfl, rfl, q⟩
theorem r_I {C : Int → Int → Prop} {g : Int → Int → V} {i j : Int} (c : C i j) (q : Q (g i j) H) : rI C g (.int i) (.int j) H Q := ⟨i, j, rfl, rfl, c, q⟩
theorem r_U {g : Int → V} {i : Int} (q : Q (g i) H) : rU g (.int i) H Q := ⟨i, rfl, q⟩
theorem r_eq (h : scal x y = true) (q : Q (.bl (decide (x = y))) H) : rEq x y H Q := ⟨h, q⟩
theorem r_ne (h : scal x y = true) (q : Q (.bl (!decide (x = y))) H) : rNe x y H Q := ⟨h, q⟩
theorem v_int_eq {i j : Int} : decide (V.int i = V.int j) = decide (i = j) := by
  by_cases h : i = j
  · rw [h]; simp
  · simp [h]
theorem r_eqI {i j : Int} (q : Q (.bl (decide (i = j))) H) : rEq (.int i) (.int j) H Q := ⟨rfl, by rw [v_int_eq]; exact q⟩
theorem r_neI {i j : Int} (q : Q (.bl (!decide (i = j))) H) : rNe (.int i) (.int j) H Q := ⟨rfl, by rw [v_int_eq]; exact q⟩
theorem r_isB {a b : Bool} (q : Q (.bl (decide (a = b))) H) : rIsB (.bl a) (.bl b) H Q := ⟨a, b, rfl, rfl, q⟩
theorem r_notB {a b : Bool} (q : Q (.bl (!decide (a = b))) H) : rNotB (.bl a) (.bl b) H Q := ⟨a, b, rfl, rfl, q⟩
theorem r_ixL {p : Addr} {i : Int} (h : H p = some (.lst xs)) (a : atI xs i = some v) (q : Q v H) : rIx K (.ref p) (.int i) H Q := .inl ⟨p, xs, i, v, rfl, rfl, SqL.of h, a, q⟩
theorem r_ixT {p : Addr} {i : Int} (h : H p = some (.tup xs)) (a : atI xs i = some v) (q : Q v H) : rIx K (.ref p) (.int i) H Q := .inr (.inl ⟨p, xs, i, v, rfl, rfl, SqT.of h, a, q⟩)
def IxG : List V → Int → (V → Prop) → Prop
  | [], _, _ => False
  | a :: r, i, P => (i = 0 → P a) ∧ (i ≠ 0 → IxG r (i - 1) P)
theorem ig_cons {a : V} {r : List V} {i : Int} {P : V → Prop} (h1 : i = 0 → P a) (h2 : i ≠ 0 → IxG r (i - 1) P) : IxG (a :: r) i P := ⟨h1, h2⟩
theorem ig_nil {i : Int} {P : V → Prop} (h : False) : IxG [] i P := h
theorem IxG.get : ∀ {xs : List V} {n : Nat} {P : V → Prop}, IxG xs (n : Int) P → ∃ v, xs[n]? = some v ∧ P v
  | [], _, _, h => h.elim
  | a :: r, 0, P, h => ⟨a, rfl, h.1 rfl⟩
  | a :: r, n + 1, P, h => by
    have h2 := h.2 (by omega)
    have e : ((n + 1 : Nat) : Int) - 1 = (n : Int) := by omega
    rw [e] at h2
    obtain ⟨v, h3, h4⟩ := IxG.get h2
    exact ⟨v, by simpa using h3, h4⟩
theorem r_ixG {p : Addr} {i : Int} (h : H p = some (.lst xs)) (hi : 0 ≤ i) (q : IxG xs i fun v => Q v H) : rIx K (.ref p) (.int i) H Q := by
  obtain ⟨n, rfl⟩ := Int.eq_ofNat_of_zero_le hi
  obtain ⟨v, h1, h2⟩ := IxG.get q
  exact .inl ⟨p, xs, _, v, rfl, rfl, SqL.of h, atI_nat h1, h2⟩
theorem r_ixGT {p : Addr} {i : Int} (h : H p = some (.tup xs)) (hi : 0 ≤ i) (q : IxG xs i fun v => Q v H) : rIx K (.ref p) (.int i) H Q := by
  obtain ⟨n, rfl⟩ := Int.eq_ofNat_of_zero_le hi
  obtain ⟨v, h1, h2⟩ := IxG.get q
  exact .inr (.inl ⟨p, xs, _, v, rfl, rfl, SqT.of h, atI_nat h1, h2⟩)
theorem r_ixS {p : Addr} {i : Int} (h : SqL K H p xs) (a : atI xs i = some v) (q : Q v H) : rIx K (.ref p) (.int i) H Q := .inl ⟨p, xs, i, v, rfl, rfl, h, a, q⟩
theorem r_setL {p : Addr} {i : Int} {j : Nat} {P : Hp → Prop} (h : H p = some (.lst xs)) (a : ixN xs.length i = some j) (q : ∀ H2, Keep p H H2 → H2 p = some (.lst (xs.set j v)) → P H2) : rSetL (.ref p) (.int i) v H P := ⟨p, xs, i, j, rfl, rfl, h, a, q _ (Keep.put (Keep.refl p H)) upd_same⟩
theorem s_sub {to ti : TE} {ts : TSet} (h : to σ H fun o H1 => ti σ H1 fun i H2 => ts o i v H2 fun H3 => nx σ H3) : gSub to ti ts v σ H nx := h
theorem r_app {p : Addr} (h : H p = some (.lst xs)) (l : xs.length < sizeLine) (q : ∀ H2, Keep p H H2 → H2 p = some (.lst (xs ++ [y])) → Q .non H2) : rAppend (.ref p) [y] H Q := ⟨p, xs, y, rfl, rfl, h, l, q _ (Keep.put (Keep.refl p H)) upd_same⟩
theorem s_bm {T : String} {r : V → List V → Hp → VK → Prop} {to : TE} {t : TA} (h : to σ H fun x H1 => tyV K T x H1 ∧ t σ H1 fun xs H2 => r x xs H2 Q) : tBM K T r to t σ H Q := h
theorem ty_list {p : Addr} {P : Prop} (h : H p = some (.lst xs)) (q : P) : tyV K "list" (.ref p) H ∧ P := ⟨.inl ⟨rfl, _, SqL.of h⟩, q⟩
theorem r_gcd {a b : Int} (q : Q (.int ((Nat.gcd a.natAbs b.natAbs : Nat) : Int)) H) : rGcd [.int a, .int b] H Q := ⟨a, b, rfl, q⟩
theorem r_all {p : Addr} {bs : List Bool} (h : H p = some (.lst (bs.map V.bl))) (q : Q (.bl (bs.all id)) H) : rAll K [.ref p] H Q := ⟨p, bs, rfl, SqL.of h, q⟩
theorem i_T {c : Prop} [Decidable c] {A B : Prop} (hc : c) (h : A) : if decide c = true then A else B := by
  rw [if_pos (decide_eq_true hc)]; exact h
theorem i_F {c : Prop} [Decidable c] {A B : Prop} (hc : ¬ c) (h : B) : if decide c = true then A else B := by
  rw [if_neg (by simp [hc])]; exact h
theorem i_2 {c : Prop} [Decidable c] {A B : Prop} (h1 : c → A) (h2 : ¬ c → B) : if decide c = true then A else B := by
  by_cases h : c
  · exact i_T h (h1 h)
  · exact i_F h (h2 h)
theorem i_n2 {c : Prop} [Decidable c] {A B : Prop} (h1 : ¬ c → A) (h2 : c → B) : if (!decide c) = true then A else B := by
  by_cases h : c
  · rw [if_neg (by simp [h])]; exact h2 h
  · rw [if_pos (by simp [h])]; exact h1 h
theorem i_b2 {b : Bool} {A B : Prop} (h1 : b = true → A) (h2 : b = false → B) : if b = true then A else B := by
  cases b
  · exact iteF (h2 rfl)
  · exact iteT (h1 rfl)
theorem i_nb2 {b : Bool} {A B : Prop} (h1 : b = false → A) (h2 : b = true → B) : if (!b) = true then A else B := by
  cases b
  · exact iteT (h1 rfl)
  · exact iteF (h2 rfl)
theorem i_t {A B : Prop} (h : A) : if true = true then A else B := iteT h
theorem i_f {A B : Prop} (h : B) : if false = true then A else B := iteF h
theorem i_nt {A B : Prop} (h : B) : if (!true) = true then A else B := iteF h
theorem i_nf {A B : Prop} (h : A) : if (!false) = true then A else B := iteT h
end
end Sx

set_option Elab.async false
set_option linter.all false
set_option maxRecDepth 100000
set_option maxHeartbeats 2000000
namespace Sx
open PySem L2
/-- what a class of errors is not -/
structure ExK (K : PySem.W.Frag) (C : Addr) : Prop where
  ec : ExcC K C
  ni : PySem.W.subIn K (.ref C) (.type "int") = some false
  nb : PySem.W.subIn K (.ref C) (.type "bool") = some false
  nt : PySem.W.subIn K (.ref C) (.type "tuple") = some false
  ns : PySem.W.subIn K (.ref C) (.type "str") = some false
  nl : PySem.W.subIn K (.ref C) (.type "list") = some false
/-- a value whose kind is known; every address of it is in B -/
inductive Kn (K : PySem.W.Frag) (H : Hp) (B : Addr → Prop) : V → Prop where
  | non : Kn K H B .non
  | bl (b : Bool) : Kn K H B (.bl b)
  | int (i : Int) : Kn K H B (.int i)
  | str (s : Str) : Kn K H B (.str s)
  | lst {p : Addr} {xs : List V} (h : H p = some (.lst xs)) (b : B p) : Kn K H B (.ref p)
  | tup {p : Addr} {xs : List V} (h : H p = some (.tup xs)) (b : B p) : Kn K H B (.ref p)
  | exc {a C d : Addr} {fs : List (Str × V)} (ha : H a = some (exo a C (some d))) (hd : H d = some (.xd fs)) (e : ExK K C) (ba : B a) (bd : B d) : Kn K H B (.ref a)
theorem Kn.up {K : PySem.W.Frag} {H H' : Hp} {B B' : Addr → Prop} {v : V} (k : Kn K H B v) (hB : ∀ b, B b → B' b) (hk : ∀ b o, B b → H b = some o → H' b = some o) : Kn K H' B' v := by
  cases k with
  | non => exact .non
  | bl b => exact .bl b
  | int i => exact .int i
  | str s => exact .str s
  | lst h b => exact .lst (hk _ _ b h) (hB _ b)
  | tup h b => exact .tup (hk _ _ b h) (hB _ b)
  | exc ha hd e ba bd => exact .exc (hk _ _ ba ha) (hk _ _ bd hd) e (hB _ ba) (hB _ bd)
def isI : V → Bool | .int _ => true | _ => false
def isB : V → Bool | .bl _ => true | _ => false
def isS : V → Bool | .str _ => true | _ => false
def tO : Option HO → Bool | some (.tup _) => true | _ => false
def lO : Option HO → Bool | some (.lst _) => true | _ => false
def isT (H : Hp) : V → Bool | .ref p => tO (H p) | _ => false
def isL (H : Hp) : V → Bool | .ref p => lO (H p) | _ => false
theorem isT_of {H : Hp} {p : Addr} {o : HO} (h : H p = some o) : isT H (.ref p) = tO (some o) := by
  show tO (H p) = _
  rw [h]
theorem isL_of {H : Hp} {p : Addr} {o : HO} (h : H p = some o) : isL H (.ref p) = lO (some o) := by
  show lO (H p) = _
  rw [h]
theorem isT_inv {H : Hp} {v : V} (h : isT H v = true) : ∃ p xs, v = .ref p ∧ H p = some (.tup xs) := by
  cases v with
  | ref p =>
    have h' : tO (H p) = true := h
    cases e : H p with
    | none =>
      rw [e] at h'
      cases h'
    | some o =>
      rw [e] at h'
      cases o with
      | tup xs => exact ⟨p, xs, rfl, e⟩
      | _ => cases h'
  | _ => cases h
section
variable {K : PySem.W.Frag} {H : Hp} {B : Addr → Prop} {v : V} {Q : VK}
theorem kit_exc {C : Addr} {T : String} {b : Bool} (h : PySem.W.subIn K (.ref C) (.type T) = some b) (m : PySem.W.kitMeta T = true) : PySem.W.kitOne K (.ref C) (.type T) = some b := by
  unfold PySem.W.kitOne
  rw [if_neg (by intro z; exact nomatch z)]
  show (if PySem.W.kitMeta T = true then PySem.W.subIn K (.ref C) (.type T) else none) = some b
  rw [if_pos m, h]
theorem isi_go {T n : String} {ty : Value} {b : Bool} (k : KX K H v ty) (e : PySem.W.kitOne K ty (.type T) = some b) (q : Q (.bl b) H) : rIsiV K [v, .ty T] H Q := ⟨v, .ty T, ty, .type T, b, rfl, .ty T, k, e, q⟩
theorem c_isiI (k : Kn K H B v) (q : Q (.bl (isI v || isB v)) H) : rIsiV K [v, .ty "int"] H Q := by
  cases k with
  | non => exact ⟨_, _, _, _, false, rfl, .ty _, .inl (.base .non), kit_ty (by decide +kernel), q⟩
  | bl b => exact ⟨_, _, _, _, true, rfl, .ty _, .inl (.base (.bl b)), kit_ty (by decide +kernel), q⟩
  | int i => exact ⟨_, _, _, _, true, rfl, .ty _, .inl (.base (.int i)), kit_ty (by decide +kernel), q⟩
  | str s => exact ⟨_, _, _, _, false, rfl, .ty _, .inl (.base (.str s)), kit_ty (by decide +kernel), q⟩
  | lst h _ => exact ⟨_, _, _, _, false, rfl, .ty _, .inl (.base (.lst h)), kit_ty (by decide +kernel), q⟩
  | tup h _ => exact ⟨_, _, _, _, false, rfl, .ty _, .inl (.base (.tup h)), kit_ty (by decide +kernel), q⟩
  | exc ha hd e _ _ => exact ⟨_, _, _, _, false, rfl, .ty _, .inr ⟨_, _, _, _, rfl, rfl, ha, hd, e.ec⟩, kit_exc e.ni (by decide +kernel), q⟩
theorem c_isiB (k : Kn K H B v) (q : Q (.bl (isB v)) H) : rIsiV K [v, .ty "bool"] H Q := by
  cases k with
  | non => exact ⟨_, _, _, _, false, rfl, .ty _, .inl (.base .non), kit_ty (by decide +kernel), q⟩
  | bl b => exact ⟨_, _, _, _, true, rfl, .ty _, .inl (.base (.bl b)), kit_ty (by decide +kernel), q⟩
  | int i => exact ⟨_, _, _, _, false, rfl, .ty _, .inl (.base (.int i)), kit_ty (by decide +kernel), q⟩
  | str s => exact ⟨_, _, _, _, false, rfl, .ty _, .inl (.base (.str s)), kit_ty (by decide +kernel), q⟩
  | lst h _ => exact ⟨_, _, _, _, false, rfl, .ty _, .inl (.base (.lst h)), kit_ty (by decide +kernel), q⟩
  | tup h _ => exact ⟨_, _, _, _, false, rfl, .ty _, .inl (.base (.tup h)), kit_ty (by decide +kernel), q⟩
  | exc ha hd e _ _ => exact ⟨_, _, _, _, false, rfl, .ty _, .inr ⟨_, _, _, _, rfl, rfl, ha, hd, e.ec⟩, kit_exc e.nb (by decide +kernel), q⟩
theorem c_isiS (k : Kn K H B v) (q : Q (.bl (isS v)) H) : rIsiV K [v, .ty "str"] H Q := by
  cases k with
  | non => exact ⟨_, _, _, _, false, rfl, .ty _, .inl (.base .non), kit_ty (by decide +kernel), q⟩
  | bl b => exact ⟨_, _, _, _, false, rfl, .ty _, .inl (.base (.bl b)), kit_ty (by decide +kernel), q⟩
  | int i => exact ⟨_, _, _, _, false, rfl, .ty _, .inl (.base (.int i)), kit_ty (by decide +kernel), q⟩
  | str s => exact ⟨_, _, _, _, true, rfl, .ty _, .inl (.base (.str s)), kit_ty (by decide +kernel), q⟩
  | lst h _ => exact ⟨_, _, _, _, false, rfl, .ty _, .inl (.base (.lst h)), kit_ty (by decide +kernel), q⟩
  | tup h _ => exact ⟨_, _, _, _, false, rfl, .ty _, .inl (.base (.tup h)), kit_ty (by decide +kernel), q⟩
  | exc ha hd e _ _ => exact ⟨_, _, _, _, false, rfl, .ty _, .inr ⟨_, _, _, _, rfl, rfl, ha, hd, e.ec⟩, kit_exc e.ns (by decide +kernel), q⟩
theorem c_isiT (k : Kn K H B v) (q : Q (.bl (isT H v)) H) : rIsiV K [v, .ty "tuple"] H Q := by
  cases k with
  | non => exact ⟨_, _, _, _, false, rfl, .ty _, .inl (.base .non), kit_ty (by decide +kernel), q⟩
  | bl b => exact ⟨_, _, _, _, false, rfl, .ty _, .inl (.base (.bl b)), kit_ty (by decide +kernel), q⟩
  | int i => exact ⟨_, _, _, _, false, rfl, .ty _, .inl (.base (.int i)), kit_ty (by decide +kernel), q⟩
  | str s => exact ⟨_, _, _, _, false, rfl, .ty _, .inl (.base (.str s)), kit_ty (by decide +kernel), q⟩
  | lst h _ => exact ⟨_, _, _, _, false, rfl, .ty _, .inl (.base (.lst h)), kit_ty (by decide +kernel), by rw [isT_of h] at q; exact q⟩
  | tup h _ => exact ⟨_, _, _, _, true, rfl, .ty _, .inl (.base (.tup h)), kit_ty (by decide +kernel), by rw [isT_of h] at q; exact q⟩
  | exc ha hd e _ _ => exact ⟨_, _, _, _, false, rfl, .ty _, .inr ⟨_, _, _, _, rfl, rfl, ha, hd, e.ec⟩, kit_exc e.nt (by decide +kernel), by rw [isT_of ha] at q; exact q⟩
theorem c_isiL (k : Kn K H B v) (q : Q (.bl (isL H v)) H) : rIsiV K [v, .ty "list"] H Q := by
  cases k with
  | non => exact ⟨_, _, _, _, false, rfl, .ty _, .inl (.base .non), kit_ty (by decide +kernel), q⟩
  | bl b => exact ⟨_, _, _, _, false, rfl, .ty _, .inl (.base (.bl b)), kit_ty (by decide +kernel), q⟩
  | int i => exact ⟨_, _, _, _, false, rfl, .ty _, .inl (.base (.int i)), kit_ty (by decide +kernel), q⟩
  | str s => exact ⟨_, _, _, _, false, rfl, .ty _, .inl (.base (.str s)), kit_ty (by decide +kernel), q⟩
  | lst h _ => exact ⟨_, _, _, _, true, rfl, .ty _, .inl (.base (.lst h)), kit_ty (by decide +kernel), by rw [isL_of h] at q; exact q⟩
  | tup h _ => exact ⟨_, _, _, _, false, rfl, .ty _, .inl (.base (.tup h)), kit_ty (by decide +kernel), by rw [isL_of h] at q; exact q⟩
  | exc ha hd e _ _ => exact ⟨_, _, _, _, false, rfl, .ty _, .inr ⟨_, _, _, _, rfl, rfl, ha, hd, e.ec⟩, kit_exc e.nl (by decide +kernel), by rw [isL_of ha] at q; exact q⟩
end
/-- a stream of draws stands at a -/
def Flow (H : Hp) (a : Addr) : Prop := ∃ (c n : Int) (b : Bool) (p : Int), H a = some (.lst [.int c, .int n, .bl b, .int p])
theorem Flow.up {H H' : Hp} {a : Addr} (f : Flow H a) (k : ∀ o, H a = some o → H' a = some o) : Flow H' a := by
  obtain ⟨c, n, b, p, h⟩ := f
  exact ⟨c, n, b, p, k _ h⟩
theorem Flow.same {H H' : Hp} {a : Addr} (e : Same H H') (f : Flow H a) : Flow H' a := f.up fun o h => e _ _ h
theorem Flow.keep {H H' : Hp} {a b : Addr} (e : Keep b H H') (n : a ≠ b) (f : Flow H a) : Flow H' a := f.up fun o h => e _ _ n h
theorem Flow.at {H : Hp} {a : Addr} (f : Flow H a) : ∃ o, H a = some o := by
  obtain ⟨c, n, b, p, h⟩ := f
  exact ⟨_, h⟩
theorem Flow.ne {H : Hp} {a b : Addr} (f : Flow H a) (n : H b = none) : a ≠ b := by
  obtain ⟨o, h⟩ := f.at
  exact ne_of_none h n
end Sx
namespace Sx
open PySem L2
def Mem (K : PySem.W.Frag) (H : Hp) (B : Addr → Prop) (x : V) : Prop := Kn K H B x ∧ ∀ n, x = .int n → n.natAbs < 2 ^ 190
def Val (K : PySem.W.Frag) (H : Hp) (B : Addr → Prop) (v : V) : Prop := Kn K H B v ∧ ∀ p xs, v = .ref p → H p = some (.tup xs) → ∀ x ∈ xs, Mem K H B x
section
variable {K : PySem.W.Frag} {H H' : Hp} {B B' : Addr → Prop} {v x : V} {xs : List V} {p a d C : Addr}
theorem Mem.up (k : Mem K H B x) (hB : ∀ b, B b → B' b) (hk : ∀ b o, B b → H b = some o → H' b = some o) : Mem K H' B' x := ⟨k.1.up hB hk, k.2⟩
theorem Val.up (k : Val K H B v) (hB : ∀ b, B b → B' b) (hk : ∀ b o, B b → H b = some o → H' b = some o) : Val K H' B' v := by
  refine ⟨k.1.up hB hk, fun p xs e h x hx => ?_⟩
  subst e
  cases k.1 with
  | lst g b =>
    rw [hk _ _ b g] at h
    cases h
  | tup g b =>
    have g' := hk _ _ b g
    rw [g'] at h
    cases h
    exact (k.2 p xs rfl g x hx).up hB hk
  | exc ha hd e ba bd =>
    rw [hk _ _ ba ha] at h
    cases h
theorem mem_int {n : Int} (h1 : -100000000000000 < n) (h2 : n < 100000000000000) : Mem K H B (.int n) := ⟨.int n, fun m e => by
  cases e
  have : (100000000000000 : Nat) < 2 ^ 190 := by decide
  omega⟩
theorem mem_kn (k : Kn K H B x) (h : isI x = false) : Mem K H B x := ⟨k, fun n e => by
  subst e
  cases h⟩
theorem mems_nil : ∀ x ∈ ([] : List V), Mem K H B x := fun x h => by cases h
theorem mems_cons (h1 : Mem K H B x) (h2 : ∀ y ∈ xs, Mem K H B y) : ∀ y ∈ x :: xs, Mem K H B y := fun y h => by
  rcases List.mem_cons.mp h with rfl | h
  · exact h1
  · exact h2 y h
theorem val_tup (h : H p = some (.tup xs)) (b : B p) (m : ∀ x ∈ xs, Mem K H B x) : Val K H B (.ref p) := ⟨.tup h b, fun q ys e g => by
  cases e
  rw [h] at g
  cases g
  exact m⟩
theorem val_lst (h : H p = some (.lst xs)) (b : B p) : Val K H B (.ref p) := ⟨.lst h b, fun q ys e g => by
  cases e
  rw [h] at g
  cases g⟩
theorem val_exc {fs : List (Str × V)} (ha : H a = some (exo a C (some d))) (hd : H d = some (.xd fs)) (e : ExK K C) (ba : B a) (bd : B d) : Val K H B (.ref a) := ⟨.exc ha hd e ba bd, fun q ys z g => by
  cases z
  rw [ha] at g
  cases g⟩
theorem val_flat (k : Kn K H B v) (h : ∀ p, v ≠ .ref p) : Val K H B v := ⟨k, fun q ys e _ => absurd e (h q)⟩
theorem newx_same {H2 : Hp} {o u : HO} (na : H a = none) (nd : H d = none) (e : upd (upd H d u) a o = H2) : Same H H2 := by
  subst e
  intro b z h
  rw [upd_ne (ne_of_none h na), upd_ne (ne_of_none h nd)]
  exact h
theorem newx_at {H2 : Hp} {o u : HO} (e : upd (upd H d u) a o = H2) : H2 a = some o := by
  subst e
  exact upd_same
theorem newx_d {H2 : Hp} {o u : HO} (n : d ≠ a) (e : upd (upd H d u) a o = H2) : H2 d = some u := by
  subst e
  rw [upd_ne n]
  exact upd_same
theorem s_exv {σ : St} {Q : VK} {f : Str} {ta : TA} (h : ta σ H fun vs H1 => ∃ v, vs = [v] ∧ ∀ a d, H1 a = none → H1 d = none → d ≠ a → Q (.ref a) (upd (upd H1 d (.xd [(f, v)])) a (exo a C (some d)))) : tExV C f ta σ H Q := h
end
end Sx

set_option Elab.async false
set_option linter.all false
set_option maxRecDepth 100000
set_option maxHeartbeats 2000000
/-! a dict comprehension whose dict may have tuples as keys -/
namespace L2
open PySem PySem.Spec PyProof.Rows
section
variable {X : Cx} {pins : List (Addr × Obj)} {σ : St} {H H' : Hp} {s : Shared} {E : Value → Shared → Prop} {D : Addr} {y v : V} {yv r : Value} {Q : Unit → Shared → Prop}
/-- the store of a comprehension, keys of both kinds -/
theorem dcp_put (hu : X.A.units < cLine) (I : Inv X pins σ H s) (g : DPut H D y v H') (ry : RelV y yv) (rv : RelV v r) (h : ∀ s', Inv X pins σ H' s' → Q () s') :
    wpAny (model X.prog X.w) X.A (dictSet D yv r) Q E s := by
  rcases g with ⟨kvs, k, eD, rfl, lz, rfl⟩ | ⟨kvs, k, b, eD, rfl, eb, lz, rfl⟩
  · exact d_dictSet I eD lz ry rv h
  · obtain rfl : yv = Value.ref b := ry
    obtain ⟨z1, ns, xs, rl, ok⟩ := dt_of I.hok eD
    have l1 : (putK kvs k v).length ≤ sizeLine := Nat.le_trans (length_putK kvs k v) lz
    have l2 : xs.length ≤ sizeLine := by
      rw [← rl.length]
      exact z1
    refine wpAny_dictSet_heap (hsz := l2) (knd := tupleKind (mixKind X.prog X.w)) hu (key_of I.hok eb) ok fun hh ⟨q, es, ep, k1, k2, k3, k4, _, k5⟩ sb => h _ (d_write I (by rw [eD]; trivial) sb ⟨q, k1⟩ ?_)
    exact ⟨l1, ns, _, (rl.put k eb rv).keeps fun c ys ec => (upd_ne (ne_of ec eD fun e => nomatch e)).trans ec, q, es, ep, k1, k2, k3, k4, k5⟩
end
section
variable {X : Cx}
/-- {k: v for target in iter if ..}: u0 says which keys are coming -/
def tDcP (u0 : HO) (wi : TI) (g : TG) (tt : TT) (tk tv : TE) (vs : List Nat) : TE := fun σ H Q => wi σ H fun J H1 => ∀ D, H1 D = none →
  ∃ W : Nat → Nat → Hp → Prop, (∃ m, W 0 m (upd H1 D u0)) ∧ ∀ i m H2, W i m H2 → (J.stop i H2 ∧ Q (.ref D) H2) ∨
    (J.go i H2 ∧ ∃ Nx : Hp → Prop, (∀ H', Nx H' → ∃ m', m' < m ∧ W (i + 1) m' H') ∧ ∀ x H3, J.yld i H2 x H3 → g x (wipe σ vs) H3 fun σ2 H4 => wipe σ2 vs = wipe σ vs ∧ tt σ2 H4 fun b H5 =>
      if b = true then tk σ2 H5 fun y H6 => tv σ2 H6 fun z H7 => ∃ H8, DPut H7 D y z H8 ∧ Nx H8 else Nx H5)
/-- the two beginnings -/
def Dc0 (u0 : HO) : Prop := u0 = .dK [] ∨ u0 = .dT []
theorem Dc0.new {u0 : HO} (z : Dc0 u0) {P : Program} {w : World} {H : Hp} (h : Heap) (hb : sysModules < h.objs.size) : ObjOk P w H (h.push { cls := .type "dict", data := .dict #[] }) h.objs.size u0 := by
  rcases z with rfl | rfl
  · exact dk_empty h hb
  · exact dt_empty h hb

/-- what a comprehension's parts answer, whatever block they stand in -/
structure DcParts (X : Cx) (scope : Scope) (tg kx vx : Expr) (ifs : List Expr) (g : TG) (tt : TT) (tk tv : TE) : Prop where
  tgt : ∀ (s : Shared) (H : Hp) (C : Addr) (cl : List (Str × Addr)) (fp : List Addr), PG (X.blk s H scope (compEnvC scope cl C X.env) fp) tg g
  tst : ∀ (s : Shared) (H : Hp) (C : Addr) (cl : List (Str × Addr)) (fp : List Addr), PTs (X.blk s H scope (compEnvC scope cl C X.env) fp) ifs tt
  key : ∀ (s : Shared) (H : Hp) (C : Addr) (cl : List (Str × Addr)) (fp : List Addr), PE (X.blk s H scope (compEnvC scope cl C X.env) fp) kx tk
  val : ∀ (s : Shared) (H : Hp) (C : Addr) (cl : List (Str × Addr)) (fp : List Addr), PE (X.blk s H scope (compEnvC scope cl C X.env) fp) vx tv
/-- a dict comprehension, its value used as use says -/
theorem dcp_core {pins : List (Addr × Obj)} {s : Shared} {σ : St} {H : Hp} {Q : VK} {u0 : HO} {kx vx tg iter : Expr} {ifs : List Expr} {scope : Scope} {own : List (Str × Nat)} {pos pos' : Pos} {wi : TI} {g : TG} {tt : TT} {tk tv : TE} {use : Option (Value → Sem Unit)} {Qf : Value → Shared → Prop} (z0 : Dc0 u0) (hu : X.A.units < cLine) (hc : X.calm = true) (hN : X.N.Nodup)
    (I : Inv X pins σ H s) (hi : PI X tg iter wi) (ok : BlkOk X.N X.env.scope scope own) (parts : DcParts X scope tg kx vx ifs g tt tk tv) (hs : ∀ x, foldedSetIterable iter X.env x = pure x) (want : tDcP u0 wi g tt tk tv (own.map (·.2)) σ H Q)
    (ends : ∀ D C s' m H', Inv X pins σ H' s' → Q (.ref D) H' → s'.heap.Ns C m → FpOk X pins H' C → compPost (model X.prog X.w) X.A X.xe use Qf (.ref D) C (.ok .next) s') :
    wpAny (model X.prog X.w) X.A (comprehension (.DictComp kx vx [⟨tg, iter, ifs, 0⟩] scope pos) scope X.env pos' newDict false (eval iter X.env) use) Qf X.xe s := by
  have cells : ∀ y ∈ scope.names, y.2 = .free → ∃ c, X.env.cells.lookup y.1 = some c := fun y hy e =>
    (ok.free y hy e).elim (fun k => I.ok.has _ (.inl k)) fun k => I.ok.has _ (.inr k)
  refine wpAny_comprehension_free (use := use) rfl hs (closure_ok cells) ok.kind (fun y hy e => (ok.uniq y hy).trans (by rw [e])) ?_
  refine thn (hi.run pins s σ H _ I want) fun xv s1 hx => thn hx fun itv s2 ⟨it, fp, tn, J, H2, e, I2, T, st2, f2, rest⟩ => ?_
  subst e
  refine wpAny_newObj_type (newEnv_comp ?_)
  obtain ⟨D, hD⟩ : ∃ D, D = s2.heap.objs.size := ⟨_, rfl⟩
  rw [← hD]
  obtain ⟨W, ⟨m0, start⟩, turns⟩ := rest D (I2.hok.fresh (Nat.le_of_eq hD.symm))
  -- behind the making of the dict
  obtain ⟨s3, hs3⟩ : ∃ s3 : Shared, s3 = { s2 with heap := s2.heap.push { cls := .type "dict", data := .dict #[] } } := ⟨_, rfl⟩
  have heap3 : s3.heap = s2.heap.push { cls := .type "dict", data := .dict #[] } := by rw [hs3]
  have grows : ∀ b o, s2.heap.get? b = some o → s3.heap.get? b = some o := fun b o e => by
    rw [heap3]
    exact Heap.get?_push_of_some _ e
  have I3 : Inv X pins σ (upd H2 D u0) s3 := by
    rw [hs3]
    refine I2.laid (t' := s2.toks) (fun b o e => Heap.get?_push_of_some _ e) (Nat.le_of_eq hD.symm) ?_
    rw [hD]
    exact z0.new s2.heap I2.big
  have lows : ∀ b ∈ fp, b < s2.heap.objs.size := fun b hb => (T.obj _ _ st2 b hb).elim fun o h => Heap.lt_size h.1
  have frees : ∀ b ∈ fp, FpOk X pins (upd H2 D u0) b ∧ b < s3.heap.objs.size := fun b hb => by
    have l := lows b hb
    have n : b ≠ D := fun e => Nat.lt_irrefl _ (by rw [e, hD] at l; exact l)
    refine ⟨⟨by rw [upd_ne n]; exact (f2 b hb).1, (f2 b hb).2⟩, ?_⟩
    rw [heap3, Heap.size_push]
    exact Nat.lt_succ_of_lt l
  have st3 : tn 0 s3.heap := T.keep _ _ _ st2 fun b _ o e => grows b o e
  obtain ⟨C, hC⟩ : ∃ C, C = s3.heap.objs.size := ⟨_, rfl⟩
  obtain ⟨cl, hcl⟩ : ∃ cl, cl = cellsFrom (C + 1) scope.names (cloFrom X.env.cells scope.names []) := ⟨_, rfl⟩
  obtain ⟨H3, hH3⟩ : ∃ H3, H3 = upd H2 D u0 := ⟨_, rfl⟩
  have I4 := block_start I3 ok hN frees
  rw [← hC, ← hcl, ← hH3] at I4
  rw [← hH3] at I3 frees start
  have pg := parts.tgt s3 H3 C cl fp
  have pt := parts.tst s3 H3 C cl fp
  have pk := parts.key s3 H3 C cl fp
  have pv := parts.val s3 H3 C cl fp
  rw [← hs3, ← hC, ← hcl]
  obtain ⟨ce, hce⟩ : ∃ ce, ce = compEnvC scope cl C X.env := ⟨_, rfl⟩
  have locals : ce.locals = C := by rw [hce]; rfl
  rw [← hce] at I4 pg pt pk pv
  show codeAny _ _ (.compStart (.DictComp kx vx [⟨tg, iter, ifs, 0⟩] scope pos) 0 (.ref it) (.ref D) (compEnvC scope cl C X.env)) (compPost (model X.prog X.w) X.A X.xe use Qf (.ref D) C) { s3 with heap := pushCells (s3.heap.push { cls := .type "dict", data := .dict #[] }) scope.names }
  rw [← hce]
  obtain ⟨s4, hs4⟩ : ∃ s4 : Shared, s4 = { s3 with heap := pushCells (s3.heap.push { cls := .type "dict", data := .dict #[] }) scope.names } := ⟨_, rfl⟩
  rw [← hs4] at I4 ⊢
  have st4 : tn 0 s4.heap := T.keep _ _ _ st3 fun b _ o e => by
    rw [hs4]
    exact pushCells_keeps _ _ _ _ (Heap.get?_push_of_some _ e)
  -- what the walk reads stays what it was
  have still : ∀ {τ : St} {H' : Hp} {s' : Shared}, Inv (X.blk s3 H3 scope ce fp) [] τ H' s' → (∀ b ∈ fp, H' b = none) → ∀ b ∈ fp, FpOk (X.blk s3 H3 scope ce fp) [] H' b := by
    exact fun I' no b hb => ⟨no b hb, (I'.ok.exf b hb).1, I'.ok.exfs b hb, .inl hb, fun x c e => (I'.ok.exf b hb).2 x c e, fun p hp => absurd (show p ∈ ([] : List (Addr × Obj)) ++ [] from hp) (by simp)⟩
  -- behind the block
  have back : ∀ {τ : St} {H' : Hp} {s' : Shared}, Inv (X.blk s3 H3 scope ce fp) [] τ H' s' → Inv X pins σ H' s' ∧ (∃ m, s'.heap.Ns C m) ∧ FpOk X pins H' C := by
    intro τ H' s' I'
    have n : H' C = none := by rw [← locals]; exact I'.free
    obtain ⟨m, ns, _⟩ := I'.loc
    refine ⟨I3.call' (ch := fp) I'.os I'.base I'.hok I'.bare fun b hb => ⟨(frees b hb).1.2.2.2.1, (frees b hb).1.2.1, (frees b hb).1.2.2.2.2.1, (frees b hb).1.2.2.2.2.2⟩, ⟨m, ?_⟩, I3.fpOk (Nat.le_of_eq hC.symm) n⟩
    rw [← locals]
    exact ns
  have loop : codeAny (model X.prog X.w) X.A (.compLoop (.DictComp kx vx [⟨tg, iter, ifs, 0⟩] scope pos) 0 (.ref it) (.ref D) ce) (compPost (model X.prog X.w) X.A X.xe use Qf (.ref D) C) s4 := by
    refine compLoop_anyD (fun n s' => ∃ i H', W i n H' ∧ tn i s'.heap ∧ (∀ b ∈ fp, H' b = none) ∧ Inv (X.blk s3 H3 scope ce fp) [] (wipe σ (own.map (·.2))) H' s') ?_ m0 ⟨0, H3, start, st4, fun b hb => (frees b hb).1.1, I4⟩
    rintro n s5 ⟨i, H5, w5, st5, n5, I5⟩
    rcases turns i n H5 w5 with ⟨halt, won⟩ | ⟨go, Nx, next, turn⟩
    · refine thnF (T.done (X.blk s3 H3 scope ce fp) rfl rfl rfl hc i [] s5 _ H5 (fun _ _ => False) I5 (still I5 n5) st5 halt) fun r s6 ⟨hr, I6⟩ => ?_
      subst hr
      obtain ⟨J6, ⟨m, ns⟩, f6⟩ := back I6
      exact ends D C s6 m H5 J6 won ns f6
    · refine thnF (T.item (X.blk s3 H3 scope ce fp) rfl rfl rfl hc i [] s5 _ H5 (fun _ _ => False) I5 (still I5 n5) st5 go) fun r s6 ⟨u, hr, h6⟩ => ?_
      subst hr
      refine thnF h6 fun _ s7 ⟨x, H7, I7, r7, y7, st7, n7⟩ => ?_
      obtain ⟨pl, hpl⟩ : ∃ pl, pl = pinsAt fp s7.heap := ⟨_, rfl⟩
      have P7 : Inv (X.blk s3 H3 scope ce fp) ([] ++ pl) (wipe σ (own.map (·.2))) H7 s7 := by
        rw [hpl]
        exact I7.pinned (still I7 n7) (T.obj _ _ st7)
      -- a turn that is over
      have over : ∀ {τ : St} {s' : Shared} {H' : Hp}, wipe τ (own.map (·.2)) = wipe σ (own.map (·.2)) → Inv (X.blk s3 H3 scope ce fp) ([] ++ pl) τ H' s' → Nx H' →
          ∃ m, m < n ∧ ∃ i H', W i m H' ∧ tn i s'.heap ∧ (∀ b ∈ fp, H' b = none) ∧ Inv (X.blk s3 H3 scope ce fp) [] (wipe σ (own.map (·.2))) H' s' := by
        intro τ s' H' same I' nx
        obtain ⟨m', lt, w'⟩ := next H' nx
        have there : ∀ b ∈ fp, ∀ o, s7.heap.get? b = some o → s'.heap.get? b = some o ∧ H' b = none := fun b hb o e => by
          have z := I'.pin (b, o) (List.mem_append_right _ (List.mem_append_right _ (by rw [hpl]; exact mem_pinsAt hb e)))
          exact ⟨z.1, z.2.1⟩
        refine ⟨m', lt, i + 1, H', w', T.keep _ _ _ st7 fun b hb o e => (there b hb o e).1, fun b hb => (T.obj _ _ st7 b hb).elim fun o h => (there b hb o h.1).2, ?_⟩
        refine (I'.unpinned (pins := [])).weak (by rw [← same, wipe_length]) fun j v e => ?_
        rw [← same] at e
        exact (wipe_some e).1
      refine thnF (pg.run _ s7 _ H7 x u _ P7 r7 (turn x H7 y7)) fun _ s8 ⟨τ, H8, I8, same, q8⟩ => ?_
      refine thnF (pt.run _ s8 τ H8 _ I8 q8) fun b s9 ⟨H9, I9, q9⟩ => ?_
      cases b with
      | true =>
        refine thnF (pk.run _ s9 τ H9 _ I9 q9) fun ku s10 ⟨y, H10, I10, r10, q10⟩ => ?_
        refine thnF (pv.run _ s10 τ H10 _ I10 q10) fun vu s11 ⟨v, H11, I11, r11, H12, put, nx⟩ => ?_
        exact dcp_put (X := X.blk s3 H3 scope ce fp) hu I11 put r10 r11 fun s12 I12 => over same I12 nx
      | false => exact over same I9 q9
  exact codeAny_compStart_dict loop (T.self X.A 0 _ _ _ st4 loop)
/-- the value of a dict comprehension over any walk -/
theorem pe_dcP {u0 : HO} {kx vx tg iter : Expr} {ifs : List Expr} {scope : Scope} {own : List (Str × Nat)} {pos : Pos} {wi : TI} {g : TG} {tt : TT} {tk tv : TE} (z0 : Dc0 u0) (hu : X.A.units < cLine) (hc : X.calm = true) (hN : X.N.Nodup)
    (hi : PI X tg iter wi) (ok : BlkOk X.N X.env.scope scope own) (parts : DcParts X scope tg kx vx ifs g tt tk tv) (hs : ∀ x, foldedSetIterable iter X.env x = pure x := by intro _; rfl) :
    PE X (.DictComp kx vx [⟨tg, iter, ifs, 0⟩] scope pos) (tDcP u0 wi g tt tk tv (own.map (·.2))) := by
  refine ⟨fun pins s σ H Q I want => ?_⟩
  rw [arm_eval_DictComp]
  refine dcp_core z0 hu hc hN I hi ok parts hs want fun D C s' m H' I' q ns f => ⟨m, ns, fun h'' sb => ?_⟩
  obtain ⟨q0, q1, _, q3, q4, q5⟩ := f
  exact ⟨.ref D, H', I'.turned (t' := s'.toks) (fun b o hb e => (sb.2 b hb).trans e) q0 q1 q3 q4 q5, rfl, q⟩
theorem swd_true {kx vx : Expr} {gs : List Comprehension} {scope : Scope} {pos py : Pos} {y : Str} {l : Nat} {env : Env} (hk : env.scope.kind = .function) (hy : env.scope.names.lookup y = some .local) (hl : (py.line == pos.line) = true)
    (ha : (scope.names.any fun (n, k) => n == y && (k == .local || k == .cell)) = false) : swapsWith (.DictComp kx vx gs scope pos) (some (.Name y py)) l env = pure true := by
  have b1 : env.kindOf y = some .local := hy
  have b2 : env.blockKind = .function := by (unfold Env.blockKind; rw [hk]; rfl)
  (unfold swapsWith; simp only [b2, b1, ha, Expr.pos, hl]; rfl)
/-- name = {..} on one line, the name a local -/
theorem ps_setDc {i : Nat} {y : Str} {py : Pos} {u0 : HO} {kx vx tg iter : Expr} {ifs : List Expr} {scope : Scope} {own : List (Str × Nat)} {pos spos : Pos} {wi : TI} {g : TG} {tt : TT} {tk tv : TE} (z0 : Dc0 u0) (hu : X.A.units < cLine) (hc : X.calm = true) (hN : X.N.Nodup) (hy : X.N[i]? = some y) (hyl : X.env.scope.names.lookup y = some .local)
    (hsw : swapsWith (.DictComp kx vx [⟨tg, iter, ifs, 0⟩] scope pos) (some (.Name y py)) spos.line X.env = pure true) (hi : PI X tg iter wi) (ok : BlkOk X.N X.env.scope scope own) (parts : DcParts X scope tg kx vx ifs g tt tk tv) (hs : ∀ x, foldedSetIterable iter X.env x = pure x := by intro _; rfl) :
    PS X (.Assign [.Name y py] (.DictComp kx vx [⟨tg, iter, ifs, 0⟩] scope pos) spos) (tAsg (tDcP u0 wi g tt tk tv (own.map (·.2))) (gName i)) := by
  refine ⟨fun pins s σ H D I want => ?_⟩
  rw [exec_Assign_Name_used _ _ _ _ hsw]
  refine wpAny_bind (wpAny_standAt (wpAny_bind (m := evalThenUse _ _ _) ?_))
  show wpAny _ X.A (do let _ ← comprehension (.DictComp kx vx [⟨tg, iter, ifs, 0⟩] scope pos) scope X.env (firstIterPos [⟨tg, iter, ifs, 0⟩] pos) newDict false (eval iter X.env) (some (assign (.Name y py) X.env))) _ _ s
  have want' : tDcP u0 wi g tt tk tv (own.map (·.2)) σ H (fun x H1 => gName i x σ H1 D.nx) := want
  refine wpAny_bind (thn (dcp_core (Qf := fun _ s' => SP X pins D .next s') z0 hu hc hN I hi ok parts hs want' fun L C s' m H' I' q hn f => ?_) fun _ s' hq => wpAny_pure (wpAny_pure hq))
  obtain ⟨f0, f1, f2, f3, f4, f5⟩ := f
  refine wpAny_assign_Name (store_ok2 (v := V.ref L) I' hN hy (.inl hyl) rfl (fun s2 I2 ⟨a, sb, ha⟩ => ⟨m, hn.sameBut sb ?_, fun h3 sb3 => ⟨_, H', I2.turned (t' := s2.toks) (fun b o hb e => (sb3.2 b hb).trans e) f0 f1 f3 f4 f5, q⟩⟩) (.inr hyl))
  exact ha.elim (fun z => by rw [z]; exact f1) fun z e => f4 y a z e.symm
/-- over a tuple that stays: n turns, Pv i what is so behind i of them -/
theorem dcp_tup {K : PySem.W.Frag} {u0 : HO} {a : Addr} {xs : List V} {g : TG} {tt : TT} {tk tv : TE} {vs : List Nat} {σ : St} {H1 : Hp} {D : Addr} {Qd : Hp → Prop} (Pv : Nat → Hp → Prop) (first : Pv 0 (upd H1 D u0)) (stays : ∀ i H, i ≤ xs.length → Pv i H → SqT K H a xs)
    (each : ∀ i x H, xs[i]? = some x → Pv i H → g x (wipe σ vs) H fun σ2 H4 => wipe σ2 vs = wipe σ vs ∧ tt σ2 H4 fun b H5 =>
      if b = true then tk σ2 H5 fun y H6 => tv σ2 H6 fun z H7 => ∃ H8, DPut H7 D y z H8 ∧ Pv (i + 1) H8 else Pv (i + 1) H5) (last : ∀ H, Pv xs.length H → Qd H) :
    ∃ W : Nat → Nat → Hp → Prop, (∃ m, W 0 m (upd H1 D u0)) ∧ ∀ i m H2, W i m H2 → ((Itt K a).stop i H2 ∧ Qd H2) ∨
      ((Itt K a).go i H2 ∧ ∃ Nx : Hp → Prop, (∀ H', Nx H' → ∃ m', m' < m ∧ W (i + 1) m' H') ∧ ∀ x H3, (Itt K a).yld i H2 x H3 → g x (wipe σ vs) H3 fun σ2 H4 => wipe σ2 vs = wipe σ vs ∧ tt σ2 H4 fun b H5 =>
        if b = true then tk σ2 H5 fun y H6 => tv σ2 H6 fun z H7 => ∃ H8, DPut H7 D y z H8 ∧ Nx H8 else Nx H5) := by
  refine ⟨fun i m H => i + m = xs.length ∧ Pv i H, ⟨xs.length, Nat.zero_add _, first⟩, ?_⟩
  rintro i m H ⟨e, p⟩
  have sq := stays i H (by omega) p
  cases m with
  | zero =>
    obtain rfl : i = xs.length := by omega
    exact .inl ⟨⟨xs, sq, Nat.le_refl _⟩, last H p⟩
  | succ m =>
    have lt : i < xs.length := by omega
    refine .inr ⟨⟨xs, xs[i], sq, by simp [lt]⟩, Pv (i + 1), fun H' p' => ⟨m, Nat.lt_succ_self m, by omega, p'⟩, fun x H' ⟨e', y⟩ => ?_⟩
    subst e'
    exact each i x _ (y xs sq) p
end
end L2

set_option Elab.async false
set_option linter.all false
set_option maxRecDepth 100000
set_option maxHeartbeats 3200000
/-! set(v) of a list or a tuple, the loop's promise left open -/
namespace L2
open PySem PySem.Spec PyProof.Rows
section
variable {P : Program} {w : World} {A : Around} {E : Value → Shared → Prop} {s : Shared}
/-- the set that a call makes first -/
abbrev setNew (w : World) : Obj := { cls := .type "set", dict := none, data := .set #[] 0 (.fresh 0 0 (!w.params.followText "set-order")) }
/-- a built-in kind that set() walks -/
structure SeqTy (T : String) : Prop where
  noSet : isSubtype (.type T) (.type "set") = pure false
  noFrozen : isSubtype (.type T) (.type "frozenset") = pure false
  noDict : (Value.type T == Value.type "dict") = false
theorem seqTy_list : SeqTy "list" := ⟨F.sub_list_set, F.sub_list_frozenset, by decide⟩
theorem seqTy_tuple : SeqTy "tuple" := ⟨F.sub_tuple_set, F.sub_tuple_frozenset, by decide⟩
/-- what is asked of the walk that fills the set at S: R is what it leaves -/
def Fills (P : Program) (w : World) (A : Around) (E : Value → Shared → Prop) (S l : Addr) (R : Shared → Prop) (s : Shared) : Prop :=
  wpAny (model P w) A (pyIter (.ref l)) (fun it s2 => codeAny (model P w) A (.builtin "set.update.loop" ⟨[.ref S, it], []⟩) (wants (fun r s3 => r = .none ∧ R s3) E) s2) E s
theorem init_seq {T : String} {S l : Addr} {o : Obj} {R : Shared → Prop} (ty : SeqTy T) (hS : s.heap.get? S = some (setNew w)) (hl : s.heap.get? l = some o) (hT : o.cls = .type T) (fill : Fills P w A E S l R s) :
    wpAny (model P w) A (Builtin.«set.__init__» ⟨[.ref S, .ref l], []⟩) (fun r s2 => r = .done (.ret .none) ∧ R s2) E s := by
  obtain ⟨c, dd, da, sl⟩ := o
  obtain rfl : c = Value.type T := hT
  have q1 := ty.noSet
  have q2 := ty.noFrozen
  have q3 := ty.noDict
  unfold Builtin.«set.__init__» noKeywords Builtin.Frozenset.updateFrom
  unfold Fills at fill
  generalize pyIter = PI at *
  wp_walk
  refine wpAny_mono fill (fun it s2 h2 => ?_) fun _ _ z => z
  refine wpAny_bind (wpAny_runValue (codeAny_mono h2 fun r s3 h3 => ?_))
  cases r with
  | error e => exact h3
  | ok fl =>
    cases fl with
    | ret u => exact wpAny_pure (wpAny_pure ⟨rfl, h3.2⟩)
    | _ => exact h3.elim
/-- set(v): the walk is asked where it stands -/
theorem call_set_seq {T : String} {l : Addr} {o : Obj} {R : Shared → Prop} {Q : Value → Shared → Prop} (ty : SeqTy T) (hl : s.heap.get? l = some o) (hT : o.cls = .type T)
    (fill : Fills P w A.in1.in1 E s.heap.objs.size l R { s with heap := s.heap.push (setNew w) }) (won : ∀ s', R s' → Q (.ref s.heap.objs.size) s') : wpAny (model P w) A (call (.type "set") [.ref l]) Q E s := by
  obtain ⟨c, tl, hmro⟩ := F.called_set.mro
  have a1 := F.called_set.made
  have a2 := F.called_set.sub
  have a3 := F.called_set.notType
  have a4 := F.called_set.canCreate
  have a5 := F.typeCall_set_1 (.ref l)
  refine wpAny_call (codeAny_of_tree ?_)
  show wpAny _ _ (callAny (.type "set") ⟨[.ref l], []⟩) _ _ s
  refine wpAny_pure ⟨Code.quiet_builtin _ (by decide +kernel), codeAny_builtin F.entry_type_call ?_⟩
  rw [Around.under_plain (weight_type_call_type "set" [.ref l] []) rfl]
  repeat (any_goals (first | assumption | wp_step))
  -- the new set
  refine codeAny_mono (code_set_led1 (.ref l) (E := E) (Q₁ := fun v s1 => v = .ref s.heap.objs.size ∧ s1 = { s with heap := s.heap.push (setNew w) }) ⟨rfl, rfl⟩) fun r s1 hr => ?_
  cases r with
  | error e => exact hr
  | ok fl =>
    cases fl with
    | ret v =>
      obtain ⟨rfl, rfl⟩ := hr
      have at0 : (s.heap.push (setNew w)).get? s.heap.objs.size = some (setNew w) := Heap.get?_push_size _ rfl
      have atl : (s.heap.push (setNew w)).get? l = some o := Heap.get?_push_of_some _ hl
      have hty : Shared.TypeIs { s with heap := s.heap.push (setNew w) } (.ref s.heap.objs.size) "set" := ⟨_, at0, rfl⟩
      have b1 := F.called_set.init.lookup
      have b2 := F.called_set.init.bind (.ref s.heap.objs.size)
      repeat (any_goals (first | assumption | wp_step))
      refine codeAny_mono (codeAny_call_builtin (R := wants (fun r s2 => r = .none ∧ R s2) E) F.called_set.init.plain F.entry_set_init (check_set_init_1 hty ?_)) fun r2 s2 hr2 => ?_
      · refine wpAny_mono (init_seq ty at0 atl hT fill) (fun fin s3 h3 => ?_) fun _ _ z => z
        obtain ⟨rfl, h3⟩ := h3
        exact ⟨rfl, h3⟩
      · cases r2 with
        | error e => exact hr2
        | ok fl2 =>
          cases fl2 with
          | ret u =>
            obtain ⟨rfl, h3⟩ := hr2
            have q := won s2 h3
            repeat (any_goals (first | assumption | wp_step))
          | _ => exact hr2.elim
    | _ => exact hr.elim

/-- set(t), t a tuple of tuples of ints -/
theorem call_set_ofT {l : Addr} {items : Array Value} (ks : List (Addr × List Int)) {Q : Value → Shared → Prop} (hh : A.handled = none) (hl : s.heap.IsTuple l items) (same : items.toList = ks.map fun p => Value.ref p.1)
    (keys : ∀ p ∈ ks, IsT P w s.heap p.2 p.1) (few : ks.length < 64) (hu : A.units + 3 < cLine)
    (won : ∀ (h' : Heap) (tk : Nat) L es ep t, (∀ b o, s.heap.get? b = some o → h'.get? b = some o) → Got ks ks.length L → SetTR P w h' s.heap.objs.size L es ep t → Q (.ref s.heap.objs.size) { s with heap := h', toks := tk }) :
    wpAny (model P w) A (call (.type "set") [.ref l]) Q E s := by
  have len : items.size = ks.length := by rw [← Array.length_toList, same, List.length_map]
  obtain ⟨o, ho, oc, n, od⟩ := id hl
  have lt : l < s.heap.objs.size := Heap.lt_size ho
  have nobody : ∀ b, s.heap.objs.size ≤ b → s.heap.get? b = none := fun b hb => Classical.byContradiction fun h => by
    obtain ⟨u, hu⟩ := Option.ne_none_iff_exists'.mp h
    exact Nat.lt_irrefl _ (Nat.lt_of_le_of_lt hb (Heap.lt_size hu))
  refine call_set_seq (R := fun s' => ∃ (h' : Heap) (tk : Nat), s' = { s with heap := h', toks := tk } ∧ ∃ L es ep t, (∀ b o, s.heap.get? b = some o → h'.get? b = some o) ∧ Got ks ks.length L ∧ SetTR P w h' s.heap.objs.size L es ep t)
    seqTy_tuple ho oc ?_ fun s' ⟨h', tk, e, L, es, ep, t, q1, q2, q3⟩ => by rw [e]; exact won h' tk L es ep t q1 q2 q3
  have l1 : (s.heap.push (setNew w)).IsTuple l items := hl.at fun u e => Heap.get?_push_of_some _ e
  have sz : (s.heap.push (setNew w)).objs.size = s.heap.objs.size + 1 := Heap.size_push ..
  refine wpAny_pyIter_tuple l1 ?_
  have apart : l ≠ (s.heap.push (setNew w)).objs.size := by
    rw [sz]
    exact Nat.ne_of_lt (Nat.lt_succ_of_lt lt)
  have hA : A.in1.in1.in1.handled = none := by simp [hh]
  refine set_update_tups (A := A.in1.in1) (Walks.tuple hA _ l apart items).toS s.heap.objs.size ?_ ks len few (fun i v hv => ?_) s.heap keys (nobody _ (Nat.le_refl _)) (fun b hb => ?_) hu items.size 0 _ rfl (Nat.zero_le _)
    ⟨⟨_, Heap.get?_push_size _ rfl, rfl, rfl⟩, l1.at fun u e => Heap.get?_push_of_some _ e⟩ (fun b u e => Heap.get?_push_of_some _ (Heap.get?_push_of_some _ e)) ?_ ?_
  · rw [sz]
    simp only [List.mem_cons, List.not_mem_nil, or_false, not_or]
    exact ⟨Nat.ne_of_lt (Nat.lt_succ_self _), Nat.ne_of_gt lt⟩
  · have z : (ks.map fun p => Value.ref p.1)[i]? = some v := by rw [← same, Array.getElem?_toList]; exact hv
    rw [List.getElem?_map] at z
    obtain ⟨p, e1, e2⟩ := Option.map_eq_some_iff.mp z
    exact ⟨p, e1, e2.symm⟩
  · rw [List.mem_singleton.mp hb, sz]
    exact nobody _ (Nat.le_succ _)
  · exact ⟨[], #[], 0, _, setTR_fresh (Heap.get?_push_of_some _ (Heap.get?_push_size _ rfl)), Got.zero ks⟩
  · rintro ⟨h', g', d', tk', os'⟩ L es ep t mv full got keeps
    obtain rfl : g' = s.gens := mv.gens
    obtain rfl : d' = s.drawn := mv.drawn
    obtain rfl : os' = s.os := mv.os
    rw [len] at got
    exact ⟨rfl, h', tk', rfl, L, es, ep, t, keeps, got, full⟩
end
section
variable {X : Cx}
/-- set(t), the rule -/
def rSetOfTT (K : PySem.W.Frag) (P : Program) (w : World) : List V → Hp → VK → Prop := fun xs H Q => ∃ (l : Addr) (ks : List (Addr × List Int)), xs = [V.ref l] ∧ SqT K H l (ks.map fun p => V.ref p.1) ∧ (∀ p ∈ ks, SqT K H p.1 (p.2.map V.int)) ∧ ks.length < 64 ∧
  ∀ a L, H a = none → (∀ p ∈ L, p ∈ ks) → (∀ p ∈ ks, p.2 ∈ L.map (·.2)) → Q (.ref a) (upd H a (SetTO P w a L))
theorem cr_setOfTT (hc : X.calm = true) (hu : X.A.units + 64 < cLine) : CallR X (.type "set") (rSetOfTT X.K X.prog X.w) := by
  rintro pins s σ H xs us Q I r ⟨l, ks, rfl, tl, keys, few, won⟩
  rw [Vals.ref1 r]
  obtain ⟨its, rv, ⟨o, ho, oc, n, od⟩, _⟩ := I.tuple tl
  refine call_set_ofT (items := its.toArray) ks (I.ok.hd hc) ⟨o, ho, oc, n, od⟩ (by simpa using refs_of_vals rv) (fun p hp => I.isT (keys p hp)) few (by omega) fun h' tk L es ep t k g R => ?_
  refine ⟨.ref s.heap.objs.size, upd H s.heap.objs.size (SetTO X.prog X.w s.heap.objs.size L), I.laid (t' := tk) k (Nat.le_refl _) (setTO_new R.t0), rfl, won _ L (I.hok.fresh (Nat.le_refl _)) (fun p hp => List.mem_of_mem_take (g.sub p hp)) fun p hp => g.all p ?_⟩
  rw [List.take_length]
  exact hp
end
end L2

set_option Elab.async false
set_option linter.all false
set_option maxRecDepth 100000
set_option maxHeartbeats 3200000
/-! sorted(s) of a set with one tuple, or none -/
namespace L2
open PySem PySem.Spec PyProof.Rows SrtO
section
variable {P : Program} {w : World} {A : Around} {E : Value → Shared → Prop} {s : Shared}
theorem perm_one {α : Type} {l m : List α} (p : l.Perm m) (h : m.length ≤ 1) : l = m := by
  match m, h with
  | [], _ => exact p.eq_nil
  | [x], _ => exact List.perm_singleton.mp p
theorem swo_none {α : Type} : Swo fun (_ _ : α) => false := ⟨fun _ _ _ => rfl, fun _ _ _ _ _ => rfl⟩
theorem sorted_setOne {a : Addr} {L : List (Addr × List Int)} {es : Array (Int × Value)} {ep : Nat} {t : SetTable} {Q : Value → Shared → Prop} (R : SetTR P w s.heap a L es ep t) (hh : A.handled = none) (one : L.length ≤ 1)
    (won : ∀ s' p c, (∀ b o, s.heap.get? b = some o → s'.heap.get? b = some o) → s'.gens = s.gens → s'.os = s.os → s.heap.objs.size ≤ p → s'.heap.get? p = some (seqObj "list" (L.map fun q => Value.ref q.1).toArray c) → Q (.ref p) s') :
    wpAny (model P w) A (call (.builtin "sorted") [.ref a]) Q E s := by
  obtain ⟨o, ho, hex, hd⟩ := R.ob
  have size := R.size
  refine Calls.call_function_entry kind_sorted plain_sorted entry_sorted (args_sorted1 _) ?_
  unfold Builtin.«sorted»
  refine wpAny_bind (m := checkCount "sorted" 1 1 _) (wpAny_pure ?_)
  refine wpAny_bind (collect_set (A := A.in1) hh ⟨o, ho, hex.1, hd⟩ R.fits (by unfold scanBound; omega) R.tab.ris R.led fun s1 vs keep bigger hg hos pm => ?_)
  have vals : es.toList.map (·.2) = L.map fun q => Value.ref q.1 := by
    rw [R.rows]
    unfold rowsOf
    rw [List.map_map] <;> rfl
  have evs : vs = L.map fun q => Value.ref q.1 := by
    rw [vals] at pm
    exact perm_one pm (by rw [List.length_map]; exact one)
  subst evs
  have lz : (L.map fun q => Value.ref q.1).length ≤ sizeLine := by rw [List.length_map, sizeLine_eq]; omega
  refine wpAny_bind (wpAny_newList ?_ lz)
  have new : (s1.heap.push (seqObj "list" (L.map fun q => Value.ref q.1).toArray 0)).get? s1.heap.objs.size = some (seqObj "list" (L.map fun q => Value.ref q.1).toArray 0) := Heap.get?_push_size _ rfl
  refine wpAny_bind (wpAny_holding (wpAny_call_entry slot_list_sort ⟨_, new, rfl⟩ entry_list_sort
    (list_sort_ord (s := { s1 with heap := s1.heap.push (seqObj "list" (L.map fun q => Value.ref q.1).toArray 0) }) swo_none new lz (fun h => absurd h (by rw [List.length_map]; omega)) fun out h1 h2 => ⟨_, rfl, ?_⟩) (args_list_sort _)))
  have eo : out = L.map fun q => Value.ref q.1 := perm_one h2.perm (by rw [List.length_map]; exact one)
  subst eo
  obtain ⟨c, hc⟩ := sortedHeap_at (vs := L.map fun q => Value.ref q.1) (out := (L.map fun q => Value.ref q.1).toArray) new
  refine wpAny_pure ⟨_, rfl, won _ s1.heap.objs.size c (fun b u e => ?_) hg hos bigger hc⟩
  have lt := Heap.lt_size (keep b u e)
  have q := Heap.get?_push_of_some (seqObj "list" (L.map fun q => Value.ref q.1).toArray 0) (keep b u e)
  rw [← sortedHeap_old (vs := L.map fun q => Value.ref q.1) (out := (L.map fun q => Value.ref q.1).toArray) (Nat.ne_of_lt lt) (by rw [size_push']; exact Nat.lt_succ_of_lt lt)] at q
  exact q
end
section
variable {X : Cx}
def rSortedOne (K : PySem.W.Frag) (P : Program) (w : World) : List V → Hp → VK → Prop := fun vs H Q => ∃ (a : Addr) (L : List (Addr × List Int)), vs = [V.ref a] ∧ H a = some (SetTO P w a L) ∧ (∀ p ∈ L, SqT K H p.1 (p.2.map V.int)) ∧ (∀ p ∈ L, p.2 = []) ∧
  ((L.map (·.2)).Nodup → L.length ≤ 1 → ∀ p, H p = none → Q (.ref p) (upd H p (.lst (L.map fun q => V.ref q.1))))
theorem nils_one : ∀ {L : List (Addr × List Int)}, (L.map (·.2)).Nodup → (∀ p ∈ L, p.2 = []) → L.length ≤ 1
  | [], _, _ => Nat.zero_le _
  | [p], _, _ => Nat.le_refl _
  | p :: q :: L, nd, e => by
    have h1 := e p List.mem_cons_self
    have h2 := e q (List.mem_cons_of_mem _ List.mem_cons_self)
    have h3 := (List.nodup_cons.mp nd).1
    exact absurd (show p.2 ∈ (q :: L).map (·.2) by rw [List.map_cons, h1, h2]; exact List.mem_cons_self) h3
theorem cr_sortedOne (hc : X.calm = true) : CallR X (.builtin "sorted") (rSortedOne X.K X.prog X.w) := by
  rintro pins s σ H vs us Q I r ⟨a, L, rfl, ha, keys, nils, won⟩
  obtain ⟨es, ep, t, R⟩ := SetT0.full (show SetT0 X.prog X.w s.heap a L from (I.hok a _ ha).1) fun p hp => I.isT (keys p hp)
  have one := nils_one R.nd nils
  rw [Vals.ref1 r]
  refine sorted_setOne R (I.ok.hd hc) one fun s' p c keep hg hos le at' => ?_
  have new : H p = none := I.hok.fresh le
  have J : Inv X pins σ (upd H p (.lst (L.map fun q => V.ref q.1))) { s with heap := s'.heap, gens := s'.gens, drawn := s'.drawn, toks := s'.toks } := by
    refine I.call (ch := []) (Un.laid keep le new) (I.hok.laid keep le ⟨?_, _, c, vals_of_refs L, at'⟩) (by rw [hg]; exact I.bare) fun _ z => nomatch z
    rw [List.length_map, sizeLine_eq]
    omega
  have e : s' = { s with heap := s'.heap, gens := s'.gens, drawn := s'.drawn, toks := s'.toks } := by
    cases s'; cases s; cases hos; rfl
  rw [e]
  exact ⟨.ref p, _, J, rfl, won R.nd one p new⟩
end
end L2

set_option Elab.async false
set_option linter.all false
set_option maxRecDepth 100000
set_option maxHeartbeats 2000000
/-! len(o) by an own __len__ -/
namespace L2
open PySem PySem.Spec PyProof.Rows
section
variable {X : Cx} {CX : CXT} {k : Nat} {f C : Addr} {fd : FuncData} {ps : List Str} {sp : Sp} {E : XK}
def rLenO (C : Addr) (sp : Sp) (E : XK) : List V → Hp → VK → Prop := fun vs H Q => ∃ a dx fs, vs = [.ref a] ∧ H a = some (.ins C dx fs) ∧ sp [.ref a] H (fun v H' => ∃ n : Nat, v = .int n ∧ n < 2 ^ 62 ∧ Q (.int n) H') E
theorem call_lenO (F : FnOk X.prog X.w X.K X.mg X.base CX k f fd ps sp) (hr : Room (k + 1) X.A) (hs : PySem.W.findIn X.K (.ref C) "__len__" = some (some (.ref f))) (hf : PySem.W.isFn X.K (.ref f) = true) (hb : Binds X.K fd ps []) (hx : Passes CX X E) :
    CallR X (.builtin "len") (rLenO C sp E) := by
  rintro pins s σ H vs us Q I r ⟨a, dx, fs, rfl, ha, hsp⟩
  rw [Vals.ref1 r]
  obtain ⟨mA, J, _⟩ := ins_get I.hok ha
  obtain ⟨od, J, _⟩ := J.look
  obtain ⟨m, hF⟩ := I.fr
  refine PySem.W.len_K hF I.ok.mod.kin J hs hf ?_
  have sub : Sub X k X.A.in1 := Sub.in1 ⟨hr, rfl⟩
  have e0 : Env0 X.prog X.w X.K X.mg X.base X.A.in1 X.stack s H := by
    have e := I.env0
    exact ⟨by rw [sub.fr]; exact e.frames, e.mod, e.bs, e.bsz, e.funs, e.frf, e.hok, e.bare⟩
  have hl := F.len _ _ _ _ hsp
  refine wpAny_call (codeAny_mono (F.run X.A.in1 X.stack s H ⟨[.ref a], []⟩ [.ref a] [.ref a] _ E sub.room e0 (by
    have z := hb s [.ref a] I.kIn (by simpa using hl)
    simpa using z) (.cons rfl .nil) hsp) fun r s' hq => ?_)
  cases r with
  | error e => exact hx pins σ H s e s' I hq
  | ok fl =>
    cases fl with
    | ret w =>
      obtain ⟨z, H', I', rz, n, ez, hn, q⟩ := I.after hq
      subst ez
      obtain ⟨t, rfl⟩ := rz
      refine ⟨⟨Int.natCast_nonneg n, by omega⟩, .int n, H', I'.tok _, ⟨_, rfl⟩, q⟩
    | next => exact False.elim hq
    | brk => exact False.elim hq
    | cont => exact False.elim hq
end
end L2

set_option Elab.async false
set_option linter.all false
set_option maxRecDepth 100000
set_option maxHeartbeats 2000000
/-! values of any kind asked for their class; instances of an own class -/
namespace Sx
open PySem L2
/-- an own class whose instances are asked with isinstance -/
structure OwnK (K : PySem.W.Frag) (C : Addr) : Prop where
  cl : Cls K C
  co : PySem.W.findIn K (.ref C) "__class__" = some (some (.builtin "object.__class__"))
  s1 : PySem.W.specialIn K (.builtin "object.__class__") "__get__" = some (some (.builtin "getset_descriptor.__get__"))
  s2 : PySem.W.takesIn K (.builtin "object.__class__") = some true
  mo : PySem.W.mroIn K C (.type "object") = some true
  is : PySem.W.subIn K (.ref C) (.ref C) = some true
  ni : PySem.W.subIn K (.ref C) (.type "int") = some false
  nb : PySem.W.subIn K (.ref C) (.type "bool") = some false
  nt : PySem.W.subIn K (.ref C) (.type "tuple") = some false
  ns : PySem.W.subIn K (.ref C) (.type "str") = some false
  nl : PySem.W.subIn K (.ref C) (.type "list") = some false
theorem u1 {k : Nat} {A : Around} (r : Room k A) : A.units + 1 < cLine := by
  have := r.units
  omega
/-- isinstance(v, T) is b -/
def IsIn (K : PySem.W.Frag) (H : Hp) (v : V) (T : String) (b : Bool) : Prop := ∃ ty, KX K H v ty ∧ PySem.W.kitOne K ty (.type T) = some b
section
variable {K : PySem.W.Frag} {H H' : Hp} {B : Addr → Prop} {v : V} {Q : VK} {C : Addr}
theorem isi_in {T : String} {b : Bool} (h : IsIn K H v T b) (q : Q (.bl b) H) : rIsiV K [v, .ty T] H Q := by
  obtain ⟨ty, k, e⟩ := h
  exact ⟨v, .ty T, ty, .type T, b, rfl, .ty T, k, e, q⟩
theorem OwnK.ty (o : OwnK K C) {a dx : Addr} {fs : List (Str × V)} (h : H a = some (.ins C dx fs)) : KX K H (.ref a) (.ref C) := .inl (.base (.ins h o.cl o.co o.s1 o.s2 o.mo))
theorem OwnK.isin (o : OwnK K C) {a dx : Addr} {fs : List (Str × V)} (h : H a = some (.ins C dx fs)) {T : String} {b : Bool} (e : PySem.W.subIn K (.ref C) (.type T) = some b) (m : PySem.W.kitMeta T = true) : IsIn K H (.ref a) T b :=
  ⟨_, o.ty h, kit_exc e m⟩
/-- isinstance(o, C), o one of C's -/
theorem OwnK.own (o : OwnK K C) {a dx : Addr} {fs : List (Str × V)} (h : H a = some (.ins C dx fs)) (q : Q (.bl true) H) : rIsiV K [.ref a, .ref C] H Q := by
  refine ⟨.ref a, .ref C, .ref C, .ref C, true, rfl, .own C, o.ty h, ?_, q⟩
  unfold PySem.W.kitOne
  rw [if_pos (beq_self_eq_true _)]
theorem in_int (i : Int) : IsIn K H (.int i) "int" true := ⟨_, .inl (.base (.int i)), kit_ty (by decide +kernel)⟩
theorem in_int_b (i : Int) : IsIn K H (.int i) "bool" false := ⟨_, .inl (.base (.int i)), kit_ty (by decide +kernel)⟩
theorem in_int_t (i : Int) : IsIn K H (.int i) "tuple" false := ⟨_, .inl (.base (.int i)), kit_ty (by decide +kernel)⟩
theorem in_int_l (i : Int) : IsIn K H (.int i) "list" false := ⟨_, .inl (.base (.int i)), kit_ty (by decide +kernel)⟩
theorem in_int_s (i : Int) : IsIn K H (.int i) "str" false := ⟨_, .inl (.base (.int i)), kit_ty (by decide +kernel)⟩
theorem in_tup {p : Addr} {xs : List V} (h : H p = some (.tup xs)) : IsIn K H (.ref p) "tuple" true := ⟨_, .inl (.base (.tup h)), kit_ty (by decide +kernel)⟩
theorem in_tup_i {p : Addr} {xs : List V} (h : H p = some (.tup xs)) : IsIn K H (.ref p) "int" false := ⟨_, .inl (.base (.tup h)), kit_ty (by decide +kernel)⟩
theorem in_tup_b {p : Addr} {xs : List V} (h : H p = some (.tup xs)) : IsIn K H (.ref p) "bool" false := ⟨_, .inl (.base (.tup h)), kit_ty (by decide +kernel)⟩
theorem in_tup_l {p : Addr} {xs : List V} (h : H p = some (.tup xs)) : IsIn K H (.ref p) "list" false := ⟨_, .inl (.base (.tup h)), kit_ty (by decide +kernel)⟩
theorem in_tup_s {p : Addr} {xs : List V} (h : H p = some (.tup xs)) : IsIn K H (.ref p) "str" false := ⟨_, .inl (.base (.tup h)), kit_ty (by decide +kernel)⟩
theorem in_lst {p : Addr} {xs : List V} (h : H p = some (.lst xs)) : IsIn K H (.ref p) "list" true := ⟨_, .inl (.base (.lst h)), kit_ty (by decide +kernel)⟩
theorem in_lst_t {p : Addr} {xs : List V} (h : H p = some (.lst xs)) : IsIn K H (.ref p) "tuple" false := ⟨_, .inl (.base (.lst h)), kit_ty (by decide +kernel)⟩
/-- asked for int and for bool -/
def NI (K : PySem.W.Frag) (H : Hp) (v : V) : Prop := ∃ b c, IsIn K H v "int" b ∧ IsIn K H v "bool" c ∧ (b && !c) = isI v
theorem ni_int (i : Int) : NI K H (.int i) := ⟨_, _, in_int i, in_int_b i, rfl⟩
theorem ni_kn (k : Kn K H B v) : NI K H v := by
  cases k with
  | non => exact ⟨false, false, ⟨_, .inl (.base .non), kit_ty (by decide +kernel)⟩, ⟨_, .inl (.base .non), kit_ty (by decide +kernel)⟩, rfl⟩
  | bl b => exact ⟨true, true, ⟨_, .inl (.base (.bl b)), kit_ty (by decide +kernel)⟩, ⟨_, .inl (.base (.bl b)), kit_ty (by decide +kernel)⟩, rfl⟩
  | int i => exact ni_int i
  | str s => exact ⟨false, false, ⟨_, .inl (.base (.str s)), kit_ty (by decide +kernel)⟩, ⟨_, .inl (.base (.str s)), kit_ty (by decide +kernel)⟩, rfl⟩
  | lst h _ => exact ⟨false, false, ⟨_, .inl (.base (.lst h)), kit_ty (by decide +kernel)⟩, ⟨_, .inl (.base (.lst h)), kit_ty (by decide +kernel)⟩, rfl⟩
  | tup h _ => exact ⟨_, _, in_tup_i h, in_tup_b h, rfl⟩
  | exc ha hd e _ _ => exact ⟨false, false, ⟨_, .inr ⟨_, _, _, _, rfl, rfl, ha, hd, e.ec⟩, kit_exc e.ni (by decide +kernel)⟩, ⟨_, .inr ⟨_, _, _, _, rfl, rfl, ha, hd, e.ec⟩, kit_exc e.nb (by decide +kernel)⟩, rfl⟩
theorem OwnK.ni' (o : OwnK K C) {a dx : Addr} {fs : List (Str × V)} (h : H a = some (.ins C dx fs)) : NI K H (.ref a) := ⟨_, _, o.isin h o.ni (by decide +kernel), o.isin h o.nb (by decide +kernel), rfl⟩
/-- the number that a value is -/
def num? (f : Int → Bool) : V → Bool | .int i => f i | _ => false
def isBit : V → Bool := num? fun i => decide (0 ≤ i) && decide (i ≤ 1)
theorem tyOf_same {t : Value} (e : Same H H') (h : TyOf K H v t) : TyOf K H' v t := by
  cases h with
  | non => exact .non
  | bl x => exact .bl x
  | int i => exact .int i
  | str x => exact .str x
  | flt x => exact .flt x
  | lst g => exact .lst (e _ _ g)
  | frz g => exact .frz (e _ _ g)
  | tup g => exact .tup (e _ _ g)
  | dK g => exact .dK (e _ _ g)
  | dT g => exact .dT (e _ _ g)
  | ins g cl ha hn htk hm => exact .ins (e _ _ g) cl ha hn htk hm
theorem tyX_same {t : Value} (e : Same H H') (h : TyX K H v t) : TyX K H' v t := by
  cases h with
  | base g => exact .base (tyOf_same e g)
  | byt b => exact .byt b
  | set g => exact .set (e _ _ g)
  | kList g c => exact .kList g c
  | kTuple g c => exact .kTuple g c
  | kDict g c => exact .kDict g c
  | fTuple g => exact .fTuple (e _ _ g)
  | fDict g => exact .fDict (e _ _ g)
theorem isIn_same {T : String} {b : Bool} (e : Same H H') (h : IsIn K H v T b) : IsIn K H' v T b := by
  obtain ⟨ty, k, z⟩ := h
  refine ⟨ty, k.elim (fun k => .inl (tyX_same e k)) fun ⟨a, C, d, fs, e1, e2, ha, hd, c⟩ => .inr ⟨a, C, d, fs, e1, e2, e _ _ ha, e _ _ hd, c⟩, z⟩
theorem ni_same (e : Same H H') (h : NI K H v) : NI K H' v := by
  obtain ⟨b, c, h1, h2, z⟩ := h
  exact ⟨b, c, isIn_same e h1, isIn_same e h2, z⟩
theorem s_chain {σ : St} {r r' : R2} {ta tb tc : TE} (h : ta σ H fun x H1 => tb σ H1 fun y H2 => r x y H2 fun z H3 => ∃ k, z = .bl k ∧ if k = true then tc σ H3 fun w H4 => r' y w H4 Q else Q (.bl false) H3) : tChain r r' ta tb tc σ H Q := h
theorem s_fldS {σ : St} {D : Ends} {ta tv : TE} {f : Str} (h : tv σ H fun y H1 => ta σ H1 fun x H2 => ∃ a C dx fs, x = .ref a ∧ H2 a = some (.ins C dx fs) ∧ Cls K C ∧ NoAttr K C f ∧ fs.length < 1000 ∧ D.nx σ (upd H2 a (.ins C dx (putF f y fs)))) : sFld K ta tv f D σ H := h
theorem r_put {x : V} {a dx : Addr} {fs : List (Str × V)} {f : Str} {y : V} {P : Hp → Prop} (e : x = .ref a) (h : H a = some (.ins C dx fs)) (c : Cls K C) (n : NoAttr K C f) (l : fs.length < 1000) (q : ∀ H2, Keep a H H2 → H2 a = some (.ins C dx (putF f y fs)) → P H2) :
    ∃ a C dx fs, x = .ref a ∧ H a = some (.ins C dx fs) ∧ Cls K C ∧ NoAttr K C f ∧ fs.length < 1000 ∧ P (upd H a (.ins C dx (putF f y fs))) := ⟨a, C, dx, fs, e, h, c, n, l, q _ (put_keep rfl) upd_same⟩
theorem s_fld {σ : St} {ta : TE} {f : Str} (h : ta σ H fun x H1 => ∃ a C dx fs v, x = .ref a ∧ H1 a = some (.ins C dx fs) ∧ Cls K C ∧ NoAttr K C f ∧ fs.lookup f = some v ∧ Q v H1) : tFld K ta f σ H Q := h
theorem r_get {x : V} {a dx : Addr} {fs : List (Str × V)} {f : Str} {v : V} {P : V → Prop} (e : x = .ref a) (h : H a = some (.ins C dx fs)) (c : Cls K C) (n : NoAttr K C f) (l : fs.lookup f = some v) (q : P v) :
    ∃ a C dx fs v, x = .ref a ∧ H a = some (.ins C dx fs) ∧ Cls K C ∧ NoAttr K C f ∧ fs.lookup f = some v ∧ P v := ⟨a, C, dx, fs, v, e, h, c, n, l, q⟩
theorem s_dIn {σ : St} {ty td : TE} (h : ty σ H fun y H1 => td σ H1 fun x H2 => ∃ a o, x = .ref a ∧ DGet H2 a y o ∧ Q (.bl o.isSome) H2) : tDIn ty td σ H Q := h
theorem s_dNotIn {σ : St} {ty td : TE} (h : ty σ H fun y H1 => td σ H1 fun x H2 => ∃ a o, x = .ref a ∧ DGet H2 a y o ∧ Q (.bl (!o.isSome)) H2) : tDNotIn ty td σ H Q := h
theorem s_sl {σ : St} {r : V → Option Int → Option Int → Hp → VK → Prop} {te : TE} {tl th : TO} (h : te σ H fun x H1 => tl σ H1 fun l H2 => th σ H2 fun u H3 => r x l u H3 Q) : tSl r te tl th σ H Q := h
theorem s_noPart {σ : St} {R : Option Int → Hp → Prop} (h : R none H) : tNoPart σ H R := h
theorem s_part {σ : St} {t : TE} {R : Option Int → Hp → Prop} (h : t σ H fun x H1 => ∃ i, x = .int i ∧ R (some i) H1) : tPart t σ H R := h
/-- t[:j], a part of it -/
theorem r_take {p : Addr} {xs : List V} {j : Nat} (h : H p = some (.tup xs)) (lt : j < xs.length) (q : ∀ p' H2, H p' = none → Same H H2 → H2 p' = some (.tup (xs.take j)) → Q (.ref p') H2) : rSlA K (.ref p) none (some (j : Int)) H Q := by
  refine ⟨p, xs, rfl, SqT.of h, fun z => ?_, fun _ p' np => q p' _ np (Sx.Same.new np) ?_⟩
  · have e := z.2
    rw [HT.sIx_nat] at e
    omega
  · rw [upd_same]
    unfold cutV
    rw [HT.sIx_nat, HT.sIx_none, Nat.min_eq_left (Nat.le_of_lt lt)]
    rfl
/-- t[j + 1:] -/
theorem r_drop {p : Addr} {xs : List V} {j : Nat} (h : H p = some (.tup xs)) (lt : j < xs.length) (q : ∀ p' H2, H p' = none → Same H H2 → H2 p' = some (.tup (xs.drop (j + 1))) → Q (.ref p') H2) : rSlA K (.ref p) (some ((j : Int) + 1)) none H Q := by
  have e1 : ((j : Int) + 1) = ((j + 1 : Nat) : Int) := by omega
  rw [e1]
  refine ⟨p, xs, rfl, SqT.of h, fun z => ?_, fun _ p' np => q p' _ np (Sx.Same.new np) ?_⟩
  · have e := z.1
    rw [HT.sIx_nat] at e
    omega
  · rw [upd_same]
    unfold cutV
    rw [HT.sIx_nat, HT.sIx_none, Nat.min_eq_left lt, List.take_of_length_le (by rw [List.length_drop]; omega)]
/-- t + u -/
theorem r_cat {a b : Addr} {xs ys : List V} (ha : H a = some (.tup xs)) (hb : H b = some (.tup ys)) (sz : xs.length + ys.length ≤ sizeLine) (q : ∀ p H2, Same H H2 → H2 p = some (.tup (xs ++ ys)) → Q (.ref p) H2) : rCatA K (.ref a) (.ref b) H Q := by
  refine ⟨a, b, xs, ys, rfl, rfl, SqT.of ha, SqT.of hb, sz, fun e => q b H (L2.Same.refl _) ?_, fun _ e => q a H (L2.Same.refl _) ?_, fun _ _ p np => q p _ (Sx.Same.new np) upd_same⟩
  · rw [e]
    exact hb
  · rw [e, List.append_nil]
    exact ha
theorem s_meth {σ : St} {C : Addr} {m : Str} {sp : Sp} {dvs : List V} {E : XK} {ta : TE} {t : TA} (h : ta σ H fun x H1 => ∃ a dx fs, x = .ref a ∧ H1 a = some (.ins C dx fs) ∧ fs.lookup m = none ∧ t σ H1 fun vs H2 => sp (x :: (vs ++ dvs)) H2 Q E) : tMeth C m sp dvs E ta t σ H Q := h
theorem s_make {σ : St} {C : Addr} {sp : Sp} {dvs : List V} {E : XK} {t : TA} (h : t σ H fun vs H1 => ∀ x dx, H1 x = none → H1 dx = none → dx ≠ x → sp (.ref x :: (vs ++ dvs)) (upd (upd H1 dx (.own x)) x (.ins C dx [])) (fun v H2 => v = .non ∧ Q (.ref x) H2) E) : tMake C sp dvs E t σ H Q := h
theorem in_of {T : String} {b : Bool} (h : rIsiV K [v, .ty T] H fun z _ => z = .bl b) : IsIn K H v T b := by
  obtain ⟨x, c, t, u, b', e, kc, kx, ke, hb⟩ := h
  cases e
  cases kc
  cases hb
  exact ⟨t, kx, ke⟩
theorem in_iK (k : Kn K H B v) : IsIn K H v "int" (isI v || isB v) := in_of (c_isiI k rfl)
theorem in_bK (k : Kn K H B v) : IsIn K H v "bool" (isB v) := in_of (c_isiB k rfl)
theorem in_sK (k : Kn K H B v) : IsIn K H v "str" (isS v) := in_of (c_isiS k rfl)
theorem in_tK (k : Kn K H B v) : IsIn K H v "tuple" (isT H v) := in_of (c_isiT k rfl)
theorem in_lK (k : Kn K H B v) : IsIn K H v "list" (isL H v) := in_of (c_isiL k rfl)
theorem r_isN {x : V} (q : Q (.bl (decide (x = .non))) H) : V.non = V.non ∧ Q (.bl (decide (x = .non))) H := ⟨rfl, q⟩
theorem s_yes {σ : St} {R : Bool → Hp → Prop} (h : R true H) : tYes σ H R := h
theorem r_len {p : Addr} {xs : List V} (h : H p = some (.tup xs)) (q : Q (.int xs.length) H) : ∃ x n, [V.ref p] = [x] ∧ LenV K x H n ∧ Q (.int n) H := ⟨_, _, rfl, .inr ⟨xs, SqT.of h, rfl⟩, q⟩
end
end Sx

set_option Elab.async false
set_option linter.all false
set_option maxRecDepth 100000
set_option maxHeartbeats 3200000
/-! enumerate of a tuple -/
namespace PySem
open Sem (wp)
set_option maxHeartbeats 1000000 in
theorem enum1_new {v : Value} {o : Obj} {G : Heap → Prop} (B : Begins v o G) :
    Meets (Builtin.«enumerate.__new__» ⟨[.type "enumerate", v], []⟩) (fun _ R s => G s.heap ∧ R (.ok (.ret (.ref (s.heap.push o).objs.size)))
      { s with heap := (s.heap.push o).push { cls := .type "enumerate", data := .fields #[.none, .bool false, .ref s.heap.objs.size, rawInt 0, .none, .none] } }) :=
  .of_wp fun P w A R s0 z => by
    obtain ⟨hp, gs, dr, tk, os⟩ := s0; obtain ⟨z1, z⟩ := z
    have sube := sub_enumerate
    have qi : ∀ {A' : Around} {E' : Value → Shared → Prop} {Q' : Value → Shared → Prop}, Q' (.ref hp.objs.size) ⟨hp.push o, gs, dr, tk, os⟩ → wpAny (model P w) A' (pyIter v) Q' E' ⟨hp, gs, dr, tk, os⟩ := fun q => B.iter P w _ _ ⟨hp, gs, dr, tk, os⟩ _ z1 q
    wp_walk using qi
    (refine wpAny_stack_any fun st => wpAny_pure ?_; split)
    · rename_i c _ _ _ _ _
      (generalize (c == Value.type "enumerate") = same; cases same) <;> (wp_walk using qi; exact ⟨_, rfl, z⟩)
    · (wp_walk using qi; exact ⟨_, rfl, z⟩)
theorem enum1_call {P : Program} {w : World} {A : Around} {E : Value → Shared → Prop} {s : Shared} {v : Value} {o : Obj} {G : Heap → Prop} {Q : Value → Shared → Prop} (B : Begins v o G) (g : G s.heap)
    (q : ∀ h', IsEnum h' (s.heap.objs.size + 1) s.heap.objs.size 0 .none → h'.get? s.heap.objs.size = some o → h'.objs.size = s.heap.objs.size + 2 → (∀ b o', s.heap.get? b = some o' → h'.get? b = some o') → Q (.ref (s.heap.objs.size + 1)) { s with heap := h' }) :
    wpAny (model P w) A (call (.type "enumerate") [v]) Q E s := by
  refine callType_new F.called_enumerate (by decide) (F.typeCall_enumerate_1 _) (F.newCall_enumerate_1 _) (fun ob => F.args_object_init_2 ob _) F.entry_enumerate_new (enum1_new B) ⟨g, ?_⟩
  have sz : (s.heap.push o).objs.size = s.heap.objs.size + 1 := Heap.size_push ..
  have e := Heap.get?_push_size (s.heap.push o) (o := { cls := .type "enumerate", data := .fields #[.none, .bool false, .ref s.heap.objs.size, rawInt 0, .none, .none] }) rfl
  rw [sz] at e
  show _ ∧ _
  rw [sz]
  exact ⟨⟨_, e, rfl⟩, q _ e (Heap.get?_push_of_some _ (Heap.get?_push_size _ B.free)) (by rw [Heap.size_push, sz]) fun b o' z => Heap.get?_push_of_some _ (Heap.get?_push_of_some _ z)⟩
end PySem
namespace L2
open PySem PySem.Spec PyProof.Rows
/-- the tuple at a, each item in a new pair with its number -/
def IteT (K : PySem.W.Frag) (a : Addr) : It :=
  ⟨fun i H => ∃ (xs : List V) (x : V), SqT K H a xs ∧ xs[i]? = some x, fun i H v H' => ∃ T x, v = .ref T ∧ H T = none ∧ H' = upd H T (.tup [.int (i : Nat), x]) ∧ ∀ xs, SqT K H a xs → xs[i]? = some x, fun i H => ∃ xs : List V, SqT K H a xs ∧ xs.length = i⟩
theorem turn_enumT {P : Program} {w : World} {K : PySem.W.Frag} {elts : List Expr} {kk : Nat} {tpos : Pos} (a e it : Addr) :
    Turn P w K (.Tuple elts kk tpos) (IteT K a) [e, it] e (fun i h => (∃ old, IsEnum h e it ((i : Nat) : Int) old) ∧ h.IsTupleIter it a i ∧ e ≠ it) where
  mem := by simp
  obj := fun i h st b hb => by
    obtain ⟨⟨old, he⟩, ⟨o, ho, hc, hd⟩, _⟩ := st
    have two : b = e ∨ b = it := by simpa using hb
    rcases two with rfl | rfl
    · exact ⟨_, he, fun v q => nomatch q⟩
    · exact ⟨o, ho, fun v q => by rw [hd] at q; cases q⟩
  keep := fun i h h' st k => ⟨st.1.elim fun old he => ⟨old, k e (by simp) _ he⟩, st.2.1.at fun o q => k it (by simp) o q, st.2.2⟩
  item := by
    intro X hP hw hK hc i pins s σ H E I hf st hg
    (subst hP; subst hw; subst hK)
    obtain ⟨⟨old, he⟩, hit, ne⟩ := st
    obtain ⟨xs, x, hx0, hx⟩ := hg
    obtain ⟨us, rv, tp, tz⟩ := I.tuple hx0
    obtain ⟨u, hu, ru⟩ := rv.get hx
    have le : e < s.heap.objs.size := Heap.lt_size he
    have li : it < s.heap.objs.size := by obtain ⟨_, q, _⟩ := hit; exact Heap.lt_size q
    have ne2 : a ≠ it := fun z => by
      obtain ⟨o1, q1, c1, _⟩ := hit
      obtain ⟨o2, q2, c2, _⟩ := (show s.heap.IsTuple a us.toArray from tp)
      rw [z, q1] at q2
      cases q2
      rw [c1] at c2
      injection c2 with c3
      exact absurd c3 (by decide)
    have ne3 : e ≠ a := fun z => by
      obtain ⟨o2, q2, c2, _⟩ := (show s.heap.IsTuple a us.toArray from tp)
      rw [← z, he] at q2
      cases q2
      injection c2 with c3
      exact absurd c3 (by decide)
    have D := Draws.tuple (prog := X.prog) (w := X.w) (A := X.A.in1) (by simp [I.ok.hd hc]) it a ne2 us.toArray
    have lt : i < us.toArray.size := by
      have := (List.getElem?_eq_some_iff.mp hu).1
      simpa using this
    refine wpAny_pyNext_enum_itemC (D := D) he ⟨hit, tp⟩ lt ne (by simp [ne, ne3]) fun y h' tk hy ho st' hT hsz hk => ?_
    have ey : y = u := by
      have z : us.toArray[i]? = some y := hy
      simp [hu] at z
      exact z.symm
    subst ey
    refine ⟨_, rfl, wpAny_letOwnedTupleGo_enum (s := { s with heap := h', toks := tk + 1 }) ho fun h2 he2 sb => ?_⟩
    have hT2 : h2.get? s.heap.objs.size = some { cls := .type "tuple", data := .seq #[.int i tk, y] } := (sb.2 _ (Nat.ne_of_gt le)).trans hT
    have new : ObjOk X.prog X.w (upd H s.heap.objs.size (.tup [.int (i : Nat), x])) h2 s.heap.objs.size (.tup [.int (i : Nat), x]) :=
      ⟨by show 2 ≤ sizeLine; decide, [.int i tk, y], .cons ⟨_, rfl⟩ (.cons ru .nil), ⟨_, hT2, rfl, _, rfl⟩⟩
    have I1 : Inv X pins σ (upd H s.heap.objs.size (.tup [.int (i : Nat), x])) { s with heap := h2, toks := tk + 1 } :=
      I.turnedNew (ch := [e, it]) (fun b ob hb q => (sb.2 b (fun z => hb (by simp [z]))).trans (hk b ob (fun z => hb (by simp [z])) (fun z => hb (by simp [z])) q)) hf (Nat.le_refl _) new
    refine ⟨.ref s.heap.objs.size, _, I1, rfl, ⟨_, x, rfl, I.hok.fresh (Nat.le_refl _), rfl, fun ys hy' => by rw [I.tuple_inj hy' hx0]; exact hx⟩, ⟨⟨y, ?_⟩, st'.1.at fun o q => (sb.2 it (Ne.symm ne)).trans q, ne⟩, fun b hb => ?_⟩
    · rw [show ((i + 1 : Nat) : Int) = (i : Int) + 1 by omega]
      exact he2
    · have lb : b < s.heap.objs.size := by
        have two : b = e ∨ b = it := by simpa using hb
        rcases two with rfl | rfl
        · exact le
        · exact li
      rw [upd_ne (Nat.ne_of_lt lb)]
      exact (hf b hb).1
  done := by
    intro X hP hw hK hc i pins s σ H E I hf st hg
    (subst hP; subst hw; subst hK)
    obtain ⟨⟨old, he⟩, hit, ne⟩ := st
    obtain ⟨xs, hx0, hx⟩ := hg
    obtain ⟨us, rv, tp, tz⟩ := I.tuple hx0
    have ne2 : a ≠ it := fun z => by
      obtain ⟨o1, q1, c1, _⟩ := hit
      obtain ⟨o2, q2, c2, _⟩ := (show s.heap.IsTuple a us.toArray from tp)
      rw [z, q1] at q2
      cases q2
      rw [c1] at c2
      injection c2 with c3
      exact absurd c3 (by decide)
    have D := Draws.tuple (prog := X.prog) (w := X.w) (A := X.A.in1) (by simp [I.ok.hd hc]) it a ne2 us.toArray
    obtain ⟨f0, f1, f2, f3, f4, f5⟩ := hf it (by simp)
    have en : us.toArray.size = i := by
      have := rv.length
      simp
      omega
    refine wpAny_pyNext_enum_endD (D := D) he (by rw [en]; exact ⟨hit, tp⟩) fun h' eb => ⟨rfl, I.turned (t' := s.toks) (fun b o hb q => eb b o hb q) f0 f1 f3 f4 f5⟩
  self := fun A i s Q E st h => st.1.elim fun _ he => wpAny_pyIter_enum he h
def iEnumT (K : PySem.W.Frag) (ta : TA) : TI := fun σ H R => ta σ H fun vs H1 => ∃ a xs, vs = [.ref a] ∧ SqT K H1 a xs ∧ R (IteT K a) H1
theorem pi_enumT {X : Cx} {e : Expr} {ta : TA} {p pos tpos : Pos} {elts : List Expr} {kk : Nat} (hg : Gl X "enumerate") (hm : X.mg "enumerate" = none) (ha : PA X [e] ta) (hs : starEach [e] X.env = [(false, eval e X.env)] := by rfl) :
    PI X (.Tuple elts kk tpos) (.Call (.Name "enumerate" p) [e] [] pos) (iEnumT X.K ta) := ⟨fun pins s σ H R I h => by
  refine Call_ (ld_blt I hg hm boot_enumerate (PyProof.Rows.callWith_type1 (thn (ha.run pos pins s σ H _ I h) fun us s1 ⟨vs, H1, I1, r1, q1⟩ => ?_) hs rfl))
  obtain ⟨a, xs, rfl, hq, q⟩ := q1
  rw [Vals.ref1 r1]
  obtain ⟨its, rv, tp, hz⟩ := I1.tuple hq
  refine enum1_call (begins_tuple a its.toArray) tp fun h' he hit hsz hk => wpAny_pyIter_enum he ?_
  have I2 : Inv X pins σ H1 { s1 with heap := h' } := I1.kept (t' := s1.toks) hk
  refine ⟨s1.heap.objs.size + 1, [s1.heap.objs.size + 1, s1.heap.objs.size], _, _, H1, rfl, I2, turn_enumT a (s1.heap.objs.size + 1) s1.heap.objs.size, ⟨⟨.none, he⟩, ⟨_, hit, rfl, rfl⟩, Nat.succ_ne_self _⟩, fun b hb => ?_, q⟩
  have two : b = s1.heap.objs.size + 1 ∨ b = s1.heap.objs.size := by simpa using hb
  have le : s1.heap.objs.size ≤ b := by
    rcases two with rfl | rfl
    · exact Nat.le_succ _
    · exact Nat.le_refl _
  exact I1.fpOk le (I1.hok.fresh le)⟩
section
variable {K : PySem.W.Frag} {a : Addr} {xs : List V}
theorem walk_enumT : Walk (IteT K a) xs.length (fun H => SqT K H a xs) (YPair (fun i => some (.int (i : Nat))) (fun i => xs[i]?)) := by
  refine ⟨fun i _ hi q => ⟨xs, xs[i], q, by simp [hi]⟩, fun _ q => ⟨xs, q, rfl⟩, fun i H v H' _ q y => ?_⟩
  obtain ⟨T, x, h1, h2, h3, h4⟩ := y
  exact ⟨T, .int (i : Nat), x, h1, h2, h3, rfl, h4 xs q⟩
/-- a dict comprehension over any walk -/
theorem dcp_it {J : It} {n : Nat} {G : Hp → Prop} {Y : Nat → Hp → V → Hp → Prop} (wk : Walk J n G Y) {u0 : HO} {g : TG} {tt : TT} {tk tv : TE} {vs : List Nat} {σ : St} {H1 : Hp} {D : Addr} {Qd : Hp → Prop} (Pv : Nat → Hp → Prop) (h0 : Pv 0 (upd H1 D u0)) (hG : ∀ i H, i ≤ n → Pv i H → G H)
    (hs : ∀ i x H H', i < n → Pv i H → Y i H x H' → g x (wipe σ vs) H' fun σ2 H2 => wipe σ2 vs = wipe σ vs ∧ tt σ2 H2 fun b H3 => if b = true then tk σ2 H3 fun y H4 => tv σ2 H4 fun z H5 => ∃ H6, DPut H5 D y z H6 ∧ Pv (i + 1) H6 else Pv (i + 1) H3) (hd : ∀ H, Pv n H → Qd H) :
    ∃ W : Nat → Nat → Hp → Prop, (∃ m, W 0 m (upd H1 D u0)) ∧ ∀ i m H2, W i m H2 → (J.stop i H2 ∧ Qd H2) ∨ (J.go i H2 ∧ ∃ Nx : Hp → Prop, (∀ H', Nx H' → ∃ m', m' < m ∧ W (i + 1) m' H') ∧ ∀ x H3, J.yld i H2 x H3 → g x (wipe σ vs) H3 fun σ2 H4 => wipe σ2 vs = wipe σ vs ∧ tt σ2 H4 fun b H5 =>
      if b = true then tk σ2 H5 fun y H6 => tv σ2 H6 fun z H7 => ∃ H8, DPut H7 D y z H8 ∧ Nx H8 else Nx H5) := by
  refine ⟨fun i m H => m = n - i ∧ i ≤ n ∧ Pv i H, ⟨n, by simp, Nat.zero_le _, h0⟩, ?_⟩
  rintro i m H ⟨rfl, hi, p⟩
  have q := hG i H hi p
  by_cases lt : i < n
  · exact .inr ⟨wk.goes i H lt q, Pv (i + 1), fun H' p' => ⟨n - (i + 1), by omega, rfl, lt, p'⟩, fun x H' y => hs i x H H' lt p (wk.yields i H x H' lt q y)⟩
  · have e : i = n := by omega
    subst e
    exact .inl ⟨wk.stops H q, hd H p⟩
end
end L2

set_option Elab.async false
set_option linter.all false
set_option maxRecDepth 100000
set_option maxHeartbeats 2000000
/-! sorted(xs), xs a list of tuples of d ints, of any length -/
namespace SN
open PySem PyProof.Rows TS SrtO
section
variable {prog : Program} {w : World} {A : Around} {E : Value → Shared → Prop} {s : Shared}
theorem swo_code (f : Value → Int) : Swo fun v u => decide (f v < f u) := by
  refine ⟨fun x y h => ?_, fun x y z h1 h2 => ?_⟩
  · have a := of_decide_eq_true h
    exact decide_eq_false (by omega)
  · have a := of_decide_eq_false h1
    have b := of_decide_eq_false h2
    exact decide_eq_false (by omega)
theorem tups_cmp {vs : List Value} {d : Nat} {B : Int} {f : Value → Int} (x : TupsOk s.heap d B vs) (hf : ∀ v, v ∈ vs → ∀ ns, TupInts s.heap v ns → f v = code B ns) : SrtO.Cmp prog w A s (tuples' true) (fun p => p.1 ∈ vs) (lt2 fun v u => decide (f v < f u)) := by
  intro p q hp hq
  obtain ⟨ns, tp, lp, bp⟩ := x _ hp
  obtain ⟨ms, tq, lq, bq⟩ := x _ hq
  have ep := hf _ hp _ tp
  have eq2 := hf _ hq _ tq
  show wpAny (model prog w) A (keyLt' (tuples' true) p.1 q.1) (fun r s' => s' = s ∧ r = decide (f p.1 < f q.1)) (fun _ _ => False) s
  rw [ep, eq2]
  obtain ⟨a, xs, e1, ⟨o, ho, hc, n, hdt⟩, i⟩ := tp
  obtain ⟨a', ys, e2, ⟨o', ho', hc', n', hdt'⟩, i'⟩ := tq
  rw [e1, e2]
  refine PySem.W.kat_lt ho hdt ho' hdt' ?_
  have sz : decide (xs.size < ys.size) = false := by
    have l1 := i.length
    have l2 := i'.length
    rw [Array.length_toList] at l1 l2
    exact decide_eq_false (by omega)
  rw [sz]
  exact lex_ints (Q := fun r s' => s' = s ∧ r = decide (code B ns < code B ms)) 0 i i' (by omega) bp bq ⟨rfl, rfl⟩
theorem tups_sortable {a : Addr} {vs : List Value} {d : Nat} {B : Int} {f : Value → Int} (hd : 1 ≤ d) (h0 : 0 < vs.length) (x : TupsOk s.heap d B vs) (ha : ∀ o, s.heap.get? a = some o → o.cls ≠ .type "tuple") (hf : ∀ v, v ∈ vs → ∀ ns, TupInts s.heap v ns → f v = code B ns) :
    SortableO prog w A s a vs fun v u => decide (f v < f u) := by
  intro h' keep
  have kt : ∀ b o, s.heap.get? b = some o → o.cls = .type "tuple" → h'.get? b = some o := fun b o e c => keep b o (fun z => by subst z; exact ha o e c) e
  have x' : TupsOk h' d B vs := x.keeps kt
  obtain ⟨fs, h1, h2, h3⟩ := TS.firsts_of hd vs x'
  refine ⟨tuples' true, fun Q E hq => ?_, tups_cmp (s := { s with heap := h' }) x' fun v hv ns t => ?_⟩
  · refine PySem.W.kat_kind (T := .type "int") h1 (by omega) (fun g hm => ?_) (by rfl) ?_
    · obtain ⟨y, t, rfl⟩ := h3 g hm
      exact PySem.W.Looks.now
    · have e : (Value.type "int" != Value.type "tuple") = true := by first | decide +kernel | rfl | decide
      rw [e]
      exact hq
  · obtain ⟨ns0, t0, _⟩ := x v hv
    have e : ns = ns0 := t.ints.symm.trans (t0.keeps kt).ints
    rw [e]
    exact hf v hv ns0 t0
end
end SN
namespace L2
open PySem PySem.Spec PyProof.Rows
def rSortN (K : PySem.W.Frag) : List V → Hp → VK → Prop := fun vs H Q => ∃ (a : Addr) (xs : List V) (d : Nat) (B : Int), vs = [V.ref a] ∧ SqL K H a xs ∧ (d = 0 → xs.length ≤ 1) ∧ (∀ x ∈ xs, ∃ ns, TupI K H x ns ∧ ns.length = d ∧ TS.Bd B ns) ∧
  ∀ (ys : List V) (p : Addr), ys.Perm xs → ys.Pairwise (fun x y => ∀ n m, TupI K H x n → TupI K H y m → TS.code B n ≤ TS.code B m) → H p = none → Q (.ref p) (upd H p (.lst ys))
theorem cr_sortN {X : Cx} : CallR X (.builtin "sorted") (rSortN X.K) := by
  intro pins s σ H vs us Q I r h
  obtain ⟨a, xs, d, B, rfl, hs, h0, hx, q⟩ := h
  obtain ⟨its, rv, hl, hz⟩ := I.list hs
  rw [Vals.ref1 r]
  obtain ⟨e1, e2⟩ := bkV_refs rv fun x m => by
    obtain ⟨ns, ⟨t, e, _⟩, _⟩ := hx x m
    exact ⟨t, e⟩
  have tk : TS.TupsOk s.heap d B its := fun v hv => by
    obtain ⟨t, rfl⟩ := e2 v hv
    have hm : V.ref t ∈ xs := by
      rw [e1]
      exact List.mem_map.mpr ⟨_, hv, rfl⟩
    obtain ⟨ns, ⟨t', e, ht⟩, hn, hb⟩ := hx _ hm
    cases e
    exact ⟨ns, tupI_raw I ht, hn, hb⟩
  refine SrtO.sorted_ord (SN.swo_code fun v => TS.code B (TS.intsOf s.heap v)) hl.isList (by rw [← rv.length]; exact hz) (fun h2 h₁ a' ha' kk => ?_) fun out h1 h2 => ?_
  · have d1 : 1 ≤ d := by
      rcases Nat.eq_zero_or_pos d with e | e
      · have := h0 e
        have := rv.length
        omega
      · exact e
    have kt : ∀ b o, s.heap.get? b = some o → o.cls = .type "tuple" → h₁.get? b = some o := fun b o e _ => (kk b o e).2
    refine SN.tups_sortable (s := { s with heap := h₁ }) d1 (by omega) (tk.keeps kt) (fun o e => ?_) fun v hv ns t => ?_
    · have e' : some o = some (seqObj "list" its.toArray 0) := e.symm.trans ha'
      cases e'
      intro c
      exact absurd (Value.type.inj c) (by decide)
    · obtain ⟨ns0, t0, _⟩ := tk v hv
      have e : ns = ns0 := t.ints.symm.trans (t0.keeps kt).ints
      rw [e, t0.ints]
  · obtain ⟨ep, he'⟩ := PyProof.Rows.sortedAll_at s.heap its out.toArray
    have hp0 : out.Perm its := h2.perm
    have h3 : ∀ u ∈ out, ∃ a, u = Value.ref a := fun u hu => e2 u (hp0.mem_iff.mp hu)
    have hp : (out.map bkV).Perm xs := by
      rw [e1]
      exact hp0.map bkV
    have hlen : (out.map bkV).length ≤ sizeLine := by
      rw [hp.length_eq]
      exact hz
    refine ⟨.ref _, upd H (s.heap.objs.size + 1) (.lst (out.map bkV)), I.laid (t' := s.toks) (fun _ _ => PyProof.Rows.sortedAll_old) (Nat.le_succ _) ⟨hlen, out, ep, bkV_vals h3, he'⟩, rfl, q _ _ hp ?_ (I.hok.fresh (Nat.le_succ _))⟩
    rw [List.pairwise_map]
    refine List.Pairwise.imp (fun {u v} huv n m hn hm => ?_) h1
    obtain ⟨t, et, ht⟩ := hn
    obtain ⟨t', et', ht'⟩ := hm
    have eu := bkV_ref et
    have ev := bkV_ref et'
    have i1 : TS.intsOf s.heap u = n := by
      rw [eu]
      exact (tupI_raw I ht).ints
    have i2 : TS.intsOf s.heap v = m := by
      rw [ev]
      exact (tupI_raw I ht').ints
    have z := of_decide_eq_false huv
    rw [← i1, ← i2]
    omega
end L2

set_option Elab.async false
set_option linter.all false
set_option maxRecDepth 100000
set_option maxHeartbeats 3200000
/-! set(rows) of up to 64 tuples of ints, and its sorted list -/
namespace L2
open PySem PySem.Spec PyProof.Rows
/-- the set at a; what is read of it -/
structure SetB (P : Program) (w : World) (h : Heap) (a : Addr) (L : List (Addr × List Int)) : Prop where
  ex : ∃ (es : Array (Int × Value)) (ep : Nat) (t : SetTable), (∃ o, h.get? a = some o ∧ o.ExactSet ∧ o.data = .set es ep t) ∧ es.toList = rowsOf P w L ∧ t.fits es.size = true ∧ Ris t.place.toList ∧ (w.params.followText "set-order" = true ∨ t.led = true)
  nd : (L.map (·.2)).Nodup
  few : L.length ≤ 64
section
variable {P : Program} {w : World} {A : Around} {E : Value → Shared → Prop} {s : Shared} {a : Addr} {L : List (Addr × List Int)} {es : Array (Int × Value)} {ep : Nat} {t : SetTable}
theorem SetTR.b (R : SetTR P w s.heap a L es ep t) : SetB P w s.heap a L := ⟨⟨es, ep, t, R.ob, R.rows, R.fits, R.tab.ris, R.led⟩, R.nd, Nat.le_of_lt R.few⟩
theorem SetB.keep {h h' : Heap} (R : SetB P w h a L) (k : ∀ o, h.get? a = some o → h'.get? a = some o) : SetB P w h' a L := by
  obtain ⟨es, ep, t, ⟨o, ho, r⟩, q⟩ := R.ex
  exact ⟨⟨es, ep, t, ⟨o, k o ho, r⟩, q⟩, R.nd, R.few⟩
/-- the 64th -/
theorem add_last (R : SetTR P w s.heap a L es ep t) (l63 : L.length = 63) {x : Addr} {k : List Int} (hx : IsT P w s.heap k x) (hu : A.units < cLine) {Q : Bool → Shared → Prop}
    (hQ : ∀ b h' L', Heap.SameBut a s.heap h' → SetB P w h' a L' → (k ∈ L.map (·.2) → L' = L) → (k ∉ L.map (·.2) → L'.Perm ((x, k) :: L)) → Q b { s with heap := h' }) :
    wpAny (model P w) A (setAddHashed a (.ref x) (thash P w k)) Q E s := by
  obtain ⟨o, ho, hex, hd⟩ := R.ob
  have hsl := R.size
  have hroom := R.room
  have m127 : t.mask = 127 := by
    rcases R.tab.mok with e | e | e
    · omega
    · omega
    · exact e
  unfold setAddHashed
  refine wpAny_holding ?_
  rw [show (100000 : Nat) = 99999 + 1 from rfl, setAddHashedIn_succ]
  refine wpAny_bind (wpAny_setState_of ho hd R.fits ?_)
  dsimp only
  refine wp_if_neg (by simp [byScan, Value.scannable]) ?_
  refine wpAny_bind (search_at R hx hu (fun hm => ?_) fun K hm hK hb => ?_)
  · dsimp only
    exact wpAny_pure (hQ false s.heap L (Heap.SameBut.refl a s.heap) R.b (fun _ => rfl) fun z => absurd hm z)
  · dsimp only
    refine wpAny_bind (wpAny_setState_of ho hd R.fits ?_)
    dsimp only
    obtain ⟨q1, q2, q3, q4, q5, q6, q7, q8, q9⟩ := R.tab.put hK hb
    have hp1 : (t.put (way t.mask (thash P w k) K)).1.plain = true := by rw [q6]; exact R.plain
    generalize hpt : t.put (way t.mask (thash P w k) K) = pt at q1 q3 q4 q5 q6 q7 q8 q9 hp1 ⊢
    obtain ⟨t1, p⟩ := pt
    dsimp only at q1 q3 q4 q5 q6 q7 q8 q9 hp1 ⊢
    subst q1
    refine wp_if_pos hp1 (wpAny_bind (hashBy_tup hx ?_))
    simp only [if_true]
    have hin : (SetTable.insertAt es (SetTable.below t.place (way t.mask (thash P w k) K)) (thash P w k, Value.ref x)).toList = rowsOf P w (L.take (SetTable.below t.place (way t.mask (thash P w k) K)) ++ (x, k) :: L.drop (SetTable.below t.place (way t.mask (thash P w k) K))) := by
      rw [SetTable.toList_insertAt, rows_put, R.rows]
    generalize SetTable.below t.place (way t.mask (thash P w k) K) = p at q2 q3 hin hpt ⊢
    have pm := put_perm L p (x, k)
    have hlen : (L.take p ++ (x, k) :: L.drop p).length = L.length + 1 := pm.length_eq
    have nd1 : ((L.take p ++ (x, k) :: L.drop p).map (·.2)).Nodup := by
      refine (pm.map (·.2)).nodup_iff.mpr ?_
      rw [List.map_cons]
      exact List.nodup_cons.mpr ⟨hm, R.nd⟩
    have hes : (SetTable.insertAt es p (thash P w k, Value.ref x)).size = L.length + 1 := by
      have h := congrArg List.length hin
      unfold rowsOf at h
      rw [Array.length_toList, List.length_map, hlen] at h
      exact h
    have full : ¬ t1.tooFull = true := by
      unfold SetTable.tooFull
      rw [decide_eq_true_eq, q9, List.length_map, q4, m127, l63]
      decide
    have psz : t1.place.size = L.length + 1 := by
      have z := q3.sz
      rw [List.length_append, List.length_cons, List.length_take, List.length_drop, List.length_map] at z
      rw [List.length_map] at q2
      omega
    generalize SetTable.insertAt es p (thash P w k, Value.ref x) = es1 at hin hes ⊢
    generalize L.take p ++ (x, k) :: L.drop p = L1 at pm hlen nd1 hin
    refine wpAny_bind (wpAny_storeSet_of ho hd ?_ (by rw [hes, sizeLine_eq]; omega))
    have sb : Heap.SameBut a s.heap (s.heap.update a (Obj.putSet es1 t1)) := Heap.SameBut.update ..
    have ho1 := store_at (es' := es1) (t' := t1) ho hd
    refine wp_if_neg (by simp [full]) ?_
    refine wpAny_pure (hQ true _ L1 sb ⟨⟨es1, ep + 1, t1, ⟨_, ho1, ⟨hex.1, hex.2.1, hex.2.2⟩, rfl⟩, hin, ?_, q3.ris, by rw [q5]; exact R.led⟩, nd1, by omega⟩ (fun z => absurd z hm) fun _ => pm)
    unfold SetTable.fits SetTable.fill
    rw [q3.dm, Bool.and_eq_true, beq_iff_eq, decide_eq_true_eq, q4, m127]
    show t1.place.size = es1.size ∧ t1.place.size + 0 ≤ 127
    omega
end
section
variable {P : Program} {w : World} {A : Around} {E : Value → Shared → Prop}
theorem moved_keep {wr : List Addr} {G : Array GenState → Array GenState → Prop} {s s' : Shared} {h0 : Heap} (hw0 : ∀ b ∈ wr, h0.get? b = none) (hm : Moved wr G s s') (k : ∀ b o, h0.get? b = some o → s.heap.get? b = some o) : ∀ b o, h0.get? b = some o → s'.heap.get? b = some o := fun b o e =>
  hm.heap b o (fun hb => by rw [hw0 b hb] at e; cases e) (k b o e)
/-- the loop's end -/
theorem loop_done {I : Addr} {fp wr : List Addr} {G : Array GenState → Array GenState → Prop} {n : Nat} {Pv : Nat → Value → Prop} {St : Nat → Shared → Prop} {R : Result → Shared → Prop} (W : WalksS P w A.in1 I fp wr G n Pv St) (S : Addr) (hSf : S ∉ fp)
    {L : List (Addr × List Int)} {h0 : Heap} (hw0 : ∀ b ∈ wr, h0.get? b = none) {s : Shared} (hst : St n s) (hkp : ∀ b o, h0.get? b = some o → s.heap.get? b = some o) (hS : SetB P w s.heap S L)
    (hR : ∀ s', Moved (S :: wr) G s s' → SetB P w s'.heap S L → (∀ b o, h0.get? b = some o → s'.heap.get? b = some o) → R (.ok (.ret .none)) s') : codeAny (model P w) A (.builtin "set.update.loop" ⟨[.ref S, .ref I], []⟩) R s := by
  refine codeAny_builtin F.entry_set_update_loop ?_
  rw [Around.under_plainId F.plain_set_update_loop _]
  show wpAny _ A.in1 (pyNext (.ref I) >>= _) _ _ s
  refine wpAny_bind (W.done s _ _ hst fun s' hm => ?_)
  show wpAny _ A.in1 (ret Value.none) _ _ s'
  have hSw : S ∉ wr := fun h => hSf (W.sub _ h)
  exact wpAny_pure (hR s' (hm.mono fun b hb => List.mem_cons_of_mem _ hb) (hS.keep fun o e => hm.heap S o hSw e) (moved_keep hw0 hm hkp))
theorem loop_set {I : Addr} {fp wr : List Addr} {G : Array GenState → Array GenState → Prop} {n : Nat} {Pv : Nat → Value → Prop} {St : Nat → Shared → Prop} {R : Result → Shared → Prop} (W : WalksS P w A.in1 I fp wr G n Pv St) (S : Addr) (hSf : S ∉ fp)
    (ks : List (Addr × List Int)) (hn : n = ks.length) (few : ks.length ≤ 64) (hval : ∀ i v, Pv i v → ∃ p, ks[i]? = some p ∧ v = .ref p.1) (h0 : Heap) (hk : ∀ p ∈ ks, IsT P w h0 p.2 p.1) (hS0 : h0.get? S = none) (hw0 : ∀ b ∈ wr, h0.get? b = none) (hu : A.in1.units < cLine) :
    ∀ (k i : Nat) (s : Shared), n - i = k → i ≤ n → St i s → (∀ b o, h0.get? b = some o → s.heap.get? b = some o) → (∃ L es ep t, SetTR P w s.heap S L es ep t ∧ Got ks i L) →
      (∀ s' L, Moved (S :: wr) G s s' → SetB P w s'.heap S L → Got ks n L → (∀ b o, h0.get? b = some o → s'.heap.get? b = some o) → R (.ok (.ret .none)) s') →
      codeAny (model P w) A (.builtin "set.update.loop" ⟨[.ref S, .ref I], []⟩) R s := by
  intro k
  induction k with
  | zero =>
    intro i s hk' hi hst hkp ⟨L, es, ep, t, hS, g⟩ hR
    obtain rfl : i = n := by omega
    exact loop_done W S hSf hw0 hst hkp hS.b fun s' m b k => hR s' L m b g k
  | succ k ih =>
    intro i s hk' hi hst hkp ⟨L, es, ep, t, hS, g⟩ hR
    have hSw : S ∉ wr := fun h => hSf (W.sub _ h)
    have hsub : ∀ b ∈ wr, b ∈ S :: wr := fun b hb => List.mem_cons_of_mem _ hb
    have hlt : i < n := by omega
    refine codeAny_builtin F.entry_set_update_loop ?_
    rw [Around.under_plainId F.plain_set_update_loop _]
    show wpAny _ A.in1 (pyNext (.ref I) >>= _) _ _ s
    refine wpAny_bind (W.item i s _ _ hlt hst fun v s' hP hst' hm => ?_)
    obtain ⟨p, hp, rfl⟩ := hval i v hP
    have hkp' := moved_keep hw0 hm hkp
    have hS' : SetTR P w s'.heap S L es ep t := hS.keep (fun o e => hm.heap S o hSw e) fun q hq => isT_keep (hk q (List.mem_of_mem_take (g.sub q hq))) hkp'
    have hx : IsT P w s'.heap p.2 p.1 := isT_keep (hk p (List.mem_of_getElem? hp)) hkp'
    show wpAny _ A.in1 (holding [Value.ref p.1] (setAdd S (.ref p.1)) >>= _) _ _ s'
    refine wpAny_bind (wpAny_holding ?_)
    unfold setAdd
    refine wpAny_holding ?_
    refine wpAny_bind (wpAny_pyHash_tuple hu hx ?_)
    have gs : ∀ L', (p.2 ∈ L.map (·.2) → L' = L) → (p.2 ∉ L.map (·.2) → L'.Perm ((p.1, p.2) :: L)) → Got ks (i + 1) L' := fun L' c1 c2 => by
      rcases Classical.em (p.2 ∈ L.map (·.2)) with c | c
      · rw [c1 c]
        exact g.same hp c
      · exact g.more hp (c2 c)
    have fr : ∀ h', Heap.SameBut S s'.heap h' → (∀ b o, h0.get? b = some o → h'.get? b = some o) := fun h' sb b o e => (sb.2 b (fun z => by rw [z, hS0] at e; cases e)).trans (hkp' b o e)
    have mv : ∀ h', Heap.SameBut S s'.heap h' → St (i + 1) { s' with heap := h', toks := s'.toks + (p.2.length + 1) } := fun h' sb => W.frame _ s' _ _ hst' (Nat.le_add_right _ _) fun b hb o e => by
      rw [sb.2 b (fun h : b = S => hSf (by rw [← h]; exact hb))]
      exact e
    have mm : ∀ h' s'', Heap.SameBut S s'.heap h' → Moved (S :: wr) G { s' with heap := h', toks := s'.toks + (p.2.length + 1) } s'' → Moved (S :: wr) G s s'' := fun h' s'' sb m => Moved.trans W.gtrans ((hm.mono hsub).then_heap (Nat.le_add_right _ _) fun b o hb e => by
      rw [sb.2 b (fun h : b = S => hb (by rw [h]; exact List.mem_cons_self))]
      exact e) m
    by_cases c63 : L.length = 63
    · have last : i + 1 = n := by
        have := g.len
        omega
      refine add_last (s := { s' with toks := s'.toks + (p.2.length + 1) }) hS' c63 hx hu fun b h' L' sb hB c1 c2 => ?_
      refine wpAny_pure ⟨plainId_quiet F.plain_set_update_loop _, ?_⟩
      refine loop_done (s := { s' with heap := h', toks := s'.toks + (p.2.length + 1) }) W S hSf hw0 (by rw [← last]; exact mv h' sb) (fr h' sb) hB fun s'' m hB' k' => hR s'' L' (mm h' s'' sb m) hB' (by rw [← last]; exact gs L' c1 c2) k'
    · have l62 : L.length + 1 < 64 := by
        have := hS.few
        omega
      refine add_at (s := { s' with toks := s'.toks + (p.2.length + 1) }) hS' hx hu l62 fun b h' L' es' ep' t' sb hS2 c1 c2 => ?_
      refine wpAny_pure ⟨plainId_quiet F.plain_set_update_loop _, ih (i + 1) _ (by omega) hlt (mv h' sb) (fr h' sb) ⟨L', es', ep', t', hS2, gs L' c1 c2⟩ fun s'' L2 m hB' g'' k' => hR s'' L2 (mm h' s'' sb m) hB' g'' k'⟩
end
end L2

namespace L2
open PySem PySem.Spec PyProof.Rows
section
variable {P : Program} {w : World} {A : Around} {E : Value → Shared → Prop} {s : Shared}
/-- set(xs), xs a list of at most 64 tuples of ints -/
theorem call_set_B {l : Addr} {items : Array Value} (ks : List (Addr × List Int)) {Q : Value → Shared → Prop} (hh : A.handled = none) (hl : s.heap.IsList l items) (same : items.toList = ks.map fun p => Value.ref p.1)
    (keys : ∀ p ∈ ks, IsT P w s.heap p.2 p.1) (few : ks.length ≤ 64) (hu : A.units + 3 < cLine)
    (won : ∀ (h' : Heap) (tk : Nat) L, (∀ b o, s.heap.get? b = some o → h'.get? b = some o) → Got ks ks.length L → SetB P w h' s.heap.objs.size L → Q (.ref s.heap.objs.size) { s with heap := h', toks := tk }) :
    wpAny (model P w) A (call (.type "set") [.ref l]) Q E s := by
  have len : items.size = ks.length := by rw [← Array.length_toList, same, List.length_map]
  obtain ⟨o, ho, oc, n, od⟩ := id hl
  have lt : l < s.heap.objs.size := Heap.lt_size ho
  have nobody : ∀ b, s.heap.objs.size ≤ b → s.heap.get? b = none := fun b hb => Classical.byContradiction fun h => by
    obtain ⟨u, hu⟩ := Option.ne_none_iff_exists'.mp h
    exact Nat.lt_irrefl _ (Nat.lt_of_le_of_lt hb (Heap.lt_size hu))
  refine call_set_seq (R := fun s' => ∃ (h' : Heap) (tk : Nat), s' = { s with heap := h', toks := tk } ∧ ∃ L, (∀ b o, s.heap.get? b = some o → h'.get? b = some o) ∧ Got ks ks.length L ∧ SetB P w h' s.heap.objs.size L)
    seqTy_list ho oc ?_ fun s' ⟨h', tk, e, L, q1, q2, q3⟩ => by rw [e]; exact won h' tk L q1 q2 q3
  have l1 : (s.heap.push (setNew w)).IsList l items := hl.at fun u e => Heap.get?_push_of_some _ e
  have sz : (s.heap.push (setNew w)).objs.size = s.heap.objs.size + 1 := Heap.size_push ..
  refine wpAny_pyIter_list l1 ?_
  have apart : l ≠ (s.heap.push (setNew w)).objs.size := by
    rw [sz]
    exact Nat.ne_of_lt (Nat.lt_succ_of_lt lt)
  have hA : A.in1.in1.in1.handled = none := by simp [hh]
  refine loop_set (A := A.in1.in1) (Walks.list hA _ l apart items).toS s.heap.objs.size ?_ ks len few (fun i v hv => ?_) s.heap keys (nobody _ (Nat.le_refl _)) (fun b hb => ?_) hu items.size 0 _ rfl (Nat.zero_le _)
    ⟨⟨_, Heap.get?_push_size _ rfl, rfl, rfl⟩, l1.at fun u e => Heap.get?_push_of_some _ e⟩ (fun b u e => Heap.get?_push_of_some _ (Heap.get?_push_of_some _ e)) ?_ ?_
  · rw [sz]
    simp only [List.mem_cons, List.not_mem_nil, or_false, not_or]
    exact ⟨Nat.ne_of_lt (Nat.lt_succ_self _), Nat.ne_of_gt lt⟩
  · have z : (ks.map fun p => Value.ref p.1)[i]? = some v := by rw [← same, Array.getElem?_toList]; exact hv
    rw [List.getElem?_map] at z
    obtain ⟨p, e1, e2⟩ := Option.map_eq_some_iff.mp z
    exact ⟨p, e1, e2.symm⟩
  · rw [List.mem_singleton.mp hb, sz]
    exact nobody _ (Nat.le_succ _)
  · exact ⟨[], #[], 0, _, setTR_fresh (Heap.get?_push_of_some _ (Heap.get?_push_size _ rfl)), Got.zero ks⟩
  · rintro ⟨h', g', d', tk', os'⟩ L mv full got keeps
    obtain rfl : g' = s.gens := mv.gens
    obtain rfl : d' = s.drawn := mv.drawn
    obtain rfl : os' = s.os := mv.os
    rw [len] at got
    exact ⟨rfl, h', tk', rfl, L, keeps, got, full⟩
theorem all_cons' {α : Type} {Pr : α → Prop} {x : α} {xs : List α} (h : Pr x) (t : ∀ y ∈ xs, Pr y) : ∀ y ∈ x :: xs, Pr y := fun y hy => by
  rcases List.mem_cons.mp hy with rfl | hy
  · exact h
  · exact t y hy
theorem sorted_setB {a : Addr} {L : List (Addr × List Int)} {Q : Value → Shared → Prop} (R : SetB P w s.heap a L) (tup : ∀ p ∈ L, IsT P w s.heap p.2 p.1) (hh : A.handled = none)
    {d : Nat} {B : Int} (hd1 : d = 0 → L.length ≤ 1) (hB : ∀ p ∈ L, p.2.length = d ∧ TS.Bd B p.2)
    (hQ : ∀ s' p (out : Array Value) (c : Nat) (L' : List (Addr × List Int)), (∀ b o, s.heap.get? b = some o → s'.heap.get? b = some o) → s'.gens = s.gens → s'.os = s.os → s.heap.objs.size ≤ p →
      s'.heap.get? p = some (seqObj "list" out c) → out.toList = L'.map (fun q => Value.ref q.1) → L'.Perm L → L'.Pairwise (fun q r => TS.code B q.2 ≤ TS.code B r.2) → Q (.ref p) s') :
    wpAny (model P w) A (call (.builtin "sorted") [.ref a]) Q E s := by
  obtain ⟨es, ep, t, ⟨o, ho, hex, hd⟩, rows, fits, ris, led⟩ := R.ex
  have hsz : es.size = L.length := by
    have h := congrArg List.length rows
    unfold rowsOf at h
    rw [Array.length_toList, List.length_map] at h
    exact h
  have hfew := R.few
  refine Calls.call_function_entry kind_sorted plain_sorted entry_sorted (args_sorted1 _) ?_
  unfold Builtin.«sorted»
  refine wpAny_bind (m := checkCount "sorted" 1 1 _) (wpAny_pure ?_)
  refine wpAny_bind (collect_set (A := A.in1) hh ⟨o, ho, hex.1, hd⟩ fits (by unfold scanBound; omega) ris led fun s1 vs k1 hz g1 o1 pm => ?_)
  have hes : es.toList.map (·.2) = L.map fun q => Value.ref q.1 := by
    rw [rows]
    unfold rowsOf
    rw [List.map_map] <;> rfl
  rw [hes] at pm
  have hvl : vs.length ≤ 64 := by rw [pm.length_eq, List.length_map]; exact hfew
  refine wpAny_bind (wpAny_newList ?_ (by rw [sizeLine_eq]; omega))
  have hoL : (s1.heap.push (seqObj "list" vs.toArray 0)).get? s1.heap.objs.size = some (seqObj "list" vs.toArray 0) := Heap.get?_push_size _ rfl
  -- the values are the addresses of the rows, in some order
  have ord : ∀ vs : List Value, (∀ v ∈ vs, ∃ q ∈ L, v = Value.ref q.1) → ∃ L1 : List (Addr × List Int), vs = L1.map (fun q => Value.ref q.1) ∧ ∀ q ∈ L1, q ∈ L := by
    intro vs
    induction vs with
    | nil => intro _; exact ⟨[], rfl, fun q hq => (by cases hq)⟩
    | cons v vs ih =>
      intro hv
      obtain ⟨q, hq, e⟩ := hv v List.mem_cons_self
      obtain ⟨L1, e1, hs⟩ := ih fun u hu => hv u (List.mem_cons_of_mem _ hu)
      exact ⟨q :: L1, by rw [List.map_cons, e, e1], all_cons' hq hs⟩
  have inj : ∀ q ∈ L, ∀ r ∈ L, Value.ref q.1 = Value.ref r.1 → q = r := fun q hq r hr e => by
    have e1 : q.1 = r.1 := Value.ref.inj e
    have a1 := tup q hq
    rw [e1] at a1
    exact Prod.ext e1 (a1.inj (tup r hr))
  have perm_of : ∀ L1 : List (Addr × List Int), (∀ q ∈ L1, q ∈ L) → (L1.map (fun q => Value.ref q.1)).Perm (L.map fun q => Value.ref q.1) → L1.Perm L := fun L1 hs pm1 => by
    have nL : L.Nodup := nodup_of_map R.nd
    have nref : (L.map fun q => Value.ref q.1).Nodup := List.pairwise_map.mpr (List.Pairwise.imp_of_mem (fun {q r} hq hr hne e => hne (inj q hq r hr e)) nL)
    have n1 : L1.Nodup := nodup_of_map (pm1.nodup_iff.mpr nref)
    refine (List.perm_ext_iff_of_nodup n1 nL).mpr fun q => ⟨hs q, fun hq => ?_⟩
    obtain ⟨r, hr, e⟩ := List.mem_map.mp (pm1.mem_iff.mpr (List.mem_map.mpr ⟨q, hq, rfl⟩))
    rw [← inj r (hs r hr) q hq e]
    exact hr
  have kl : ∀ b o, s.heap.get? b = some o → (s1.heap.push (seqObj "list" vs.toArray 0)).get? b = some o := fun b o e => Heap.get?_push_of_some _ (k1 b o e)
  have tk : ∀ q ∈ L, TS.TupInts (s1.heap.push (seqObj "list" vs.toArray 0)) (.ref q.1) q.2 := fun q hq => tupInts_of (P := P) (w := w) (isT_keep (tup q hq) kl)
  have x : TS.TupsOk (s1.heap.push (seqObj "list" vs.toArray 0)) d B vs := fun v hv => by
    obtain ⟨q, hq, e⟩ := List.mem_map.mp (pm.mem_iff.mp hv)
    rw [← e]
    exact ⟨q.2, tk q hq, (hB q hq).1, (hB q hq).2⟩
  refine wpAny_bind (wpAny_holding (wpAny_call_entry slot_list_sort ⟨_, hoL, rfl⟩ entry_list_sort (SrtO.list_sort_ord (s := { s1 with heap := s1.heap.push (seqObj "list" vs.toArray 0) }) (SN.swo_code fun v => TS.code B (TS.intsOf (s1.heap.push (seqObj "list" vs.toArray 0)) v)) hoL (by rw [sizeLine_eq]; omega) (fun h2 => ?_) fun out a1 a2 => ⟨_, rfl, ?_⟩) (args_list_sort _)))
  · have d1 : 1 ≤ d := by
      rcases Nat.eq_zero_or_pos d with e | e
      · have := hd1 e
        have z := pm.length_eq
        rw [List.length_map] at z
        omega
      · exact e
    refine SN.tups_sortable (s := { s1 with heap := s1.heap.push (seqObj "list" vs.toArray 0) }) d1 (by omega) x (fun o e => ?_) fun v hv ns t => ?_
    · have e' : some o = some (seqObj "list" vs.toArray 0) := e.symm.trans hoL
      cases e'
      intro c
      exact absurd (Value.type.inj c) (by decide)
    · rw [t.ints]
  · obtain ⟨c, hc⟩ := sortedHeap_at (vs := vs) (out := out.toArray) hoL
    obtain ⟨L', e', hs'⟩ := ord out fun v hv => by
      obtain ⟨q, hq, e⟩ := List.mem_map.mp (pm.mem_iff.mp (a2.perm.mem_iff.mp hv))
      exact ⟨q, hq, e.symm⟩
    have pL : L'.Perm L := perm_of L' hs' (by rw [← e']; exact a2.perm.trans pm)
    have pw : L'.Pairwise (fun q r => TS.code B q.2 ≤ TS.code B r.2) := by
      rw [e'] at a1
      refine List.Pairwise.imp_of_mem (fun {q r} hq hr hle => ?_) (List.pairwise_map.mp a1)
      have z := of_decide_eq_false hle
      rw [(tk q (hs' q hq)).ints, (tk r (hs' r hr)).ints] at z
      omega
    refine wpAny_pure ⟨_, rfl, hQ _ s1.heap.objs.size out.toArray c L' (fun b u e => ?_) g1 o1 hz hc (by simpa using e') pL pw⟩
    have q := k1 b u e
    have hlt := Heap.lt_size q
    show (sortedHeap (s1.heap.push (seqObj "list" vs.toArray 0)) s1.heap.objs.size vs out.toArray).get? b = some u
    rw [sortedHeap_old (Nat.ne_of_lt hlt) (by rw [size_push']; exact Nat.lt_succ_of_lt hlt)]
    exact Heap.get?_push_of_some _ q
end
end L2

namespace L2
open PySem PySem.Spec PyProof.Rows
def SetBO (P : Program) (w : World) (a : Addr) (L : List (Addr × List Int)) : HO := .ext fun h => SetB P w h a L
theorem setBO_new {P : Program} {w : World} {H : Hp} {h : Heap} {a : Addr} {L : List (Addr × List Int)} (R : SetB P w h a L) : ObjOk P w H h a (SetBO P w a L) := by
  have ⟨es, ep, t, ⟨o, ho, r⟩, q⟩ := R.ex
  exact ⟨R, ⟨o, ho⟩, fun h1 h2 p k => SetB.keep p (k ·)⟩
section
variable {X : Cx}
/-- set(xs), xs a list of at most 64 tuples of ints -/
def rSetB (K : PySem.W.Frag) (P : Program) (w : World) : List V → Hp → VK → Prop := fun xs H Q => ∃ (l : Addr) (ks : List (Addr × List Int)), xs = [V.ref l] ∧ SqL K H l (ks.map fun p => V.ref p.1) ∧ (∀ p ∈ ks, SqT K H p.1 (p.2.map V.int)) ∧ ks.length ≤ 64 ∧
  ∀ a L, H a = none → (∀ p ∈ L, p ∈ ks) → (∀ p ∈ ks, p.2 ∈ L.map (·.2)) → Q (.ref a) (upd H a (SetBO P w a L))
theorem cr_setB (hc : X.calm = true) (hu : X.A.units + 64 < cLine) : CallR X (.type "set") (rSetB X.K X.prog X.w) := by
  intro pins s σ H xs us Q I r h
  obtain ⟨l, ks, rfl, hl, hk, hf, q⟩ := h
  rw [Vals.ref1 r]
  obtain ⟨its, rv, pl, hz⟩ := I.list hl
  have hn : H s.heap.objs.size = none := I.hok.fresh (Nat.le_refl _)
  refine call_set_B (P := X.prog) (w := X.w) ks (I.ok.hd hc) pl.isList (by simpa using refs_of_vals rv) (fun p hp => I.isT (hk p hp)) hf (by omega) fun h' tk L k g R => ?_
  refine ⟨.ref s.heap.objs.size, upd H s.heap.objs.size (SetBO X.prog X.w s.heap.objs.size L), I.laid (t' := tk) k (Nat.le_refl _) (setBO_new R), rfl, q _ L hn (fun p hp => List.mem_of_mem_take (g.sub p hp)) fun p hp => ?_⟩
  exact g.all p (by rw [List.take_length]; exact hp)
/-- sorted(s) of such a set, tuples of d ints in [0, B) -/
def rSortedB (K : PySem.W.Frag) (P : Program) (w : World) : List V → Hp → VK → Prop := fun vs H Q => ∃ (a : Addr) (L : List (Addr × List Int)) (d : Nat) (B : Int), vs = [V.ref a] ∧ H a = some (SetBO P w a L) ∧ (∀ p ∈ L, SqT K H p.1 (p.2.map V.int)) ∧ (∀ p ∈ L, p.2.length = d ∧ TS.Bd B p.2) ∧
  ∀ (L' : List (Addr × List Int)) (p : Addr), L'.Perm L → (L'.map (·.2)).Nodup → L'.length ≤ 64 → L'.Pairwise (fun q r => TS.code B q.2 ≤ TS.code B r.2) → H p = none → Q (.ref p) (upd H p (.lst (L'.map fun q => V.ref q.1)))
theorem nil_one : ∀ {L : List (List Int)}, L.Nodup → (∀ r ∈ L, r = []) → L.length ≤ 1
  | [], _, _ => Nat.zero_le _
  | [_], _, _ => Nat.le_refl _
  | x :: y :: L, nd, h => by
    have e1 := h x (by simp)
    have e2 := h y (by simp)
    rw [e1, e2] at nd
    simp at nd
theorem cr_sortedB (hc : X.calm = true) : CallR X (.builtin "sorted") (rSortedB X.K X.prog X.w) := by
  intro pins s σ H vs us Q I r h
  obtain ⟨a, L, d, B, rfl, ha, hk, hB, q⟩ := h
  have R : SetB X.prog X.w s.heap a L := (I.hok a _ ha).1
  have few := R.few
  rw [Vals.ref1 r]
  refine sorted_setB R (fun p hp => I.isT (hk p hp)) (I.ok.hd hc) (fun d0 => ?_) hB fun s' p out c L' k g o hp hg hout pm pw => ?_
  · have z := nil_one R.nd fun r hr => by
      obtain ⟨p, hp, rfl⟩ := List.mem_map.mp hr
      exact List.eq_nil_of_length_eq_zero ((hB p hp).1.trans d0)
    rwa [List.length_map] at z
  · have hfew : L'.length ≤ 64 := by rw [pm.length_eq]; exact few
    have hlen : (L'.map fun q => V.ref q.1).length ≤ sizeLine := by rw [List.length_map, sizeLine_eq]; omega
    have hn : H p = none := I.hok.fresh hp
    have hv : Vals (L'.map fun q => V.ref q.1) out.toList := by rw [hout]; exact vals_of_refs L'
    have J : Inv X pins σ (upd H p (.lst (L'.map fun q => V.ref q.1))) { s with heap := s'.heap, gens := s'.gens, drawn := s'.drawn, toks := s'.toks } :=
      I.call (ch := []) (Un.laid k hp hn) (I.hok.laid k hp ⟨hlen, out.toList, c, hv, hg⟩) (by rw [g]; exact I.bare) (fun _ z => nomatch z)
    have e : s' = { s with heap := s'.heap, gens := s'.gens, drawn := s'.drawn, toks := s'.toks } := by
      cases s'
      cases s
      cases o
      rfl
    rw [e]
    exact ⟨.ref p, _, J, rfl, q L' p pm ((pm.map (·.2)).nodup_iff.mpr R.nd) hfew pw hn⟩
end
end L2

set_option Elab.async false
set_option linter.all false
set_option maxRecDepth 100000
set_option maxHeartbeats 2000000
/-! {e for x in xs if ..}, e an int or a text: the set by membership and number -/
namespace L2
open PySem PySem.Spec PyProof.Rows PpSet
section
variable {X : Cx}
theorem addK_ok {pins : List (Addr × Obj)} {σ : L2.St} {H : Hp} {s : Shared} {E : Value → Shared → Prop} {D : Addr} {S : Key → Bool} {n : Nat} {k : Key} {u : Value} {Q : Value → Shared → Prop} (I : Inv X pins σ H s) (hD : H D = some (SetK X.prog X.w D S n)) (ry : RelV (kV k) u) (room : n + 1 < scanBound)
    (h : ∀ s', Inv X pins σ (upd H D (SetK X.prog X.w D (fun j => S j || decide (j = k)) (if S k = true then n else n + 1))) s' → Q .none s') : wpAny (model X.prog X.w) X.A (call (.builtin "set.add") [.ref D, u]) Q E s := by
  refine call_set_add (kV_is ry) (key_scan ry) (setK_get I hD) room fun h' sb new => ?_
  have he : ∃ u, h'.get? D = some u := by
    have ⟨o, _, _, _, ho, _⟩ := new
    exact ⟨o, ho⟩
  exact h _ (I.write (e := D) (t' := s.toks + 1) (by rw [hD]; trivial) (.inl rfl) (fun b u hb hu => (sb.2 b hb).trans hu) he (setK_new new))
/-- {e for target in iter if ..}: D the new set -/
def tScP (P : Program) (w : World) (wi : TI) (g : TG) (tt : TT) (te : TE) (vs : List Nat) : TE := fun σ H Q => wi σ H fun J H1 => ∀ D, H1 D = none →
  ∃ W : Nat → Nat → Hp → Prop, (∃ m, W 0 m (upd H1 D (SetK P w D (fun _ => false) 0))) ∧ ∀ i m H2, W i m H2 → (J.stop i H2 ∧ Q (.ref D) H2) ∨
    (J.go i H2 ∧ ∃ Nx : Hp → Prop, (∀ H', Nx H' → ∃ m', m' < m ∧ W (i + 1) m' H') ∧ ∀ x H3, J.yld i H2 x H3 → g x (wipe σ vs) H3 fun σ2 H4 => wipe σ2 vs = wipe σ vs ∧ tt σ2 H4 fun b H5 =>
      if b = true then te σ2 H5 fun y H6 => ∃ (k : Key) (S : Key → Bool) (n : Nat), y = kV k ∧ H6 D = some (SetK P w D S n) ∧ n + 1 < scanBound ∧ Nx (upd H6 D (SetK P w D (fun j => S j || decide (j = k)) (if S k = true then n else n + 1))) else Nx H5)
/-- what a comprehension's parts answer, whatever block they stand in -/
structure ScParts (X : Cx) (scope : Scope) (tg ex : Expr) (ifs : List Expr) (g : TG) (tt : TT) (te : TE) : Prop where
  tgt : ∀ (s : Shared) (H : Hp) (C : Addr) (cl : List (Str × Addr)) (fp : List Addr), PG (X.blk s H scope (compEnvC scope cl C X.env) fp) tg g
  tst : ∀ (s : Shared) (H : Hp) (C : Addr) (cl : List (Str × Addr)) (fp : List Addr), PTs (X.blk s H scope (compEnvC scope cl C X.env) fp) ifs tt
  el : ∀ (s : Shared) (H : Hp) (C : Addr) (cl : List (Str × Addr)) (fp : List Addr), PE (X.blk s H scope (compEnvC scope cl C X.env) fp) ex te
/-- a set comprehension, its value used as use says -/
theorem scp_core {pins : List (Addr × Obj)} {s : Shared} {σ : St} {H : Hp} {Q : VK} {ex tg iter : Expr} {ifs : List Expr} {scope : Scope} {own : List (Str × Nat)} {pos pos' : Pos} {wi : TI} {g : TG} {tt : TT} {te : TE} {use : Option (Value → Sem Unit)} {Qf : Value → Shared → Prop} (hc : X.calm = true) (hN : X.N.Nodup)
    (I : Inv X pins σ H s) (hi : PI X tg iter wi) (ok : BlkOk X.N X.env.scope scope own) (parts : ScParts X scope tg ex ifs g tt te) (hs : ∀ x, foldedSetIterable iter X.env x = pure x) (want : tScP X.prog X.w wi g tt te (own.map (·.2)) σ H Q)
    (ends : ∀ D C s' m H', Inv X pins σ H' s' → Q (.ref D) H' → s'.heap.Ns C m → FpOk X pins H' C → compPost (model X.prog X.w) X.A X.xe use Qf (.ref D) C (.ok .next) s') :
    wpAny (model X.prog X.w) X.A (comprehension (.SetComp ex [⟨tg, iter, ifs, 0⟩] scope pos) scope X.env pos' (newSet (.type "set")) false (eval iter X.env) use) Qf X.xe s := by
  have cells : ∀ y ∈ scope.names, y.2 = .free → ∃ c, X.env.cells.lookup y.1 = some c := fun y hy e =>
    (ok.free y hy e).elim (fun k => I.ok.has _ (.inl k)) fun k => I.ok.has _ (.inr k)
  refine wpAny_comprehension_free (use := use) rfl hs (closure_ok cells) ok.kind (fun y hy e => (ok.uniq y hy).trans (by rw [e])) ?_
  refine thn (hi.run pins s σ H _ I want) fun xv s1 hx => thn hx fun itv s2 ⟨it, fp, tn, J, H2, e, I2, T, st2, f2, rest⟩ => ?_
  subst e
  refine newSet_ok (newEnv_comp ?_)
  obtain ⟨D, hD⟩ : ∃ D, D = s2.heap.objs.size := ⟨_, rfl⟩
  rw [← hD]
  obtain ⟨W, ⟨m0, start⟩, turns⟩ := rest D (I2.hok.fresh (Nat.le_of_eq hD.symm))
  -- behind the making of the dict
  obtain ⟨s3, hs3⟩ : ∃ s3 : Shared, s3 = { s2 with heap := s2.heap.push { cls := .type "set", dict := none, data := .set #[] 0 (.fresh 0 0 (!X.w.params.followText "set-order")) } } := ⟨_, rfl⟩
  have heap3 : s3.heap = s2.heap.push { cls := .type "set", dict := none, data := .set #[] 0 (.fresh 0 0 (!X.w.params.followText "set-order")) } := by rw [hs3]
  have grows : ∀ b o, s2.heap.get? b = some o → s3.heap.get? b = some o := fun b o e => by
    rw [heap3]
    exact Heap.get?_push_of_some _ e
  have I3 : Inv X pins σ (upd H2 D (SetK X.prog X.w D (fun _ => false) 0)) s3 := by
    rw [hs3]
    refine I2.laid (t' := s2.toks) (fun b o e => Heap.get?_push_of_some _ e) (Nat.le_of_eq hD.symm) ?_
    rw [hD]
    exact setK_new ⟨_, #[], 0, _, Heap.get?_push_size _ rfl, ⟨rfl, rfl, rfl⟩, rfl, (fun e he => by simp at he), (fun k => by simp), (by decide), (by rfl), rfl⟩
  have lows : ∀ b ∈ fp, b < s2.heap.objs.size := fun b hb => (T.obj _ _ st2 b hb).elim fun o h => Heap.lt_size h.1
  have frees : ∀ b ∈ fp, FpOk X pins (upd H2 D (SetK X.prog X.w D (fun _ => false) 0)) b ∧ b < s3.heap.objs.size := fun b hb => by
    have l := lows b hb
    have n : b ≠ D := fun e => Nat.lt_irrefl _ (by rw [e, hD] at l; exact l)
    refine ⟨⟨by rw [upd_ne n]; exact (f2 b hb).1, (f2 b hb).2⟩, ?_⟩
    rw [heap3, Heap.size_push]
    exact Nat.lt_succ_of_lt l
  have st3 : tn 0 s3.heap := T.keep _ _ _ st2 fun b _ o e => grows b o e
  obtain ⟨C, hC⟩ : ∃ C, C = s3.heap.objs.size := ⟨_, rfl⟩
  obtain ⟨cl, hcl⟩ : ∃ cl, cl = cellsFrom (C + 1) scope.names (cloFrom X.env.cells scope.names []) := ⟨_, rfl⟩
  obtain ⟨H3, hH3⟩ : ∃ H3, H3 = upd H2 D (SetK X.prog X.w D (fun _ => false) 0) := ⟨_, rfl⟩
  have I4 := block_start I3 ok hN frees
  rw [← hC, ← hcl, ← hH3] at I4
  rw [← hH3] at I3 frees start
  have pg := parts.tgt s3 H3 C cl fp
  have pt := parts.tst s3 H3 C cl fp
  have pe := parts.el s3 H3 C cl fp
  rw [← hs3, ← hC, ← hcl]
  obtain ⟨ce, hce⟩ : ∃ ce, ce = compEnvC scope cl C X.env := ⟨_, rfl⟩
  have locals : ce.locals = C := by rw [hce]; rfl
  rw [← hce] at I4 pg pt pe
  show codeAny _ _ (.compStart (.SetComp ex [⟨tg, iter, ifs, 0⟩] scope pos) 0 (.ref it) (.ref D) (compEnvC scope cl C X.env)) (compPost (model X.prog X.w) X.A X.xe use Qf (.ref D) C) { s3 with heap := pushCells (s3.heap.push { cls := .type "dict", data := .dict #[] }) scope.names }
  rw [← hce]
  obtain ⟨s4, hs4⟩ : ∃ s4 : Shared, s4 = { s3 with heap := pushCells (s3.heap.push { cls := .type "dict", data := .dict #[] }) scope.names } := ⟨_, rfl⟩
  rw [← hs4] at I4 ⊢
  have st4 : tn 0 s4.heap := T.keep _ _ _ st3 fun b _ o e => by
    rw [hs4]
    exact pushCells_keeps _ _ _ _ (Heap.get?_push_of_some _ e)
  -- what the walk reads stays what it was
  have still : ∀ {τ : St} {H' : Hp} {s' : Shared}, Inv (X.blk s3 H3 scope ce fp) [] τ H' s' → (∀ b ∈ fp, H' b = none) → ∀ b ∈ fp, FpOk (X.blk s3 H3 scope ce fp) [] H' b := by
    exact fun I' no b hb => ⟨no b hb, (I'.ok.exf b hb).1, I'.ok.exfs b hb, .inl hb, fun x c e => (I'.ok.exf b hb).2 x c e, fun p hp => absurd (show p ∈ ([] : List (Addr × Obj)) ++ [] from hp) (by simp)⟩
  -- behind the block
  have back : ∀ {τ : St} {H' : Hp} {s' : Shared}, Inv (X.blk s3 H3 scope ce fp) [] τ H' s' → Inv X pins σ H' s' ∧ (∃ m, s'.heap.Ns C m) ∧ FpOk X pins H' C := by
    intro τ H' s' I'
    have n : H' C = none := by rw [← locals]; exact I'.free
    obtain ⟨m, ns, _⟩ := I'.loc
    refine ⟨I3.call' (ch := fp) I'.os I'.base I'.hok I'.bare fun b hb => ⟨(frees b hb).1.2.2.2.1, (frees b hb).1.2.1, (frees b hb).1.2.2.2.2.1, (frees b hb).1.2.2.2.2.2⟩, ⟨m, ?_⟩, I3.fpOk (Nat.le_of_eq hC.symm) n⟩
    rw [← locals]
    exact ns
  have loop : codeAny (model X.prog X.w) X.A (.compLoop (.SetComp ex [⟨tg, iter, ifs, 0⟩] scope pos) 0 (.ref it) (.ref D) ce) (compPost (model X.prog X.w) X.A X.xe use Qf (.ref D) C) s4 := by
    refine compLoopS_any (fun n s' => ∃ i H', W i n H' ∧ tn i s'.heap ∧ (∀ b ∈ fp, H' b = none) ∧ Inv (X.blk s3 H3 scope ce fp) [] (wipe σ (own.map (·.2))) H' s') ?_ m0 ⟨0, H3, start, st4, fun b hb => (frees b hb).1.1, I4⟩
    rintro n s5 ⟨i, H5, w5, st5, n5, I5⟩
    rcases turns i n H5 w5 with ⟨halt, won⟩ | ⟨go, Nx, next, turn⟩
    · refine thnF (T.done (X.blk s3 H3 scope ce fp) rfl rfl rfl hc i [] s5 _ H5 (fun _ _ => False) I5 (still I5 n5) st5 halt) fun r s6 ⟨hr, I6⟩ => ?_
      subst hr
      obtain ⟨J6, ⟨m, ns⟩, f6⟩ := back I6
      exact ends D C s6 m H5 J6 won ns f6
    · refine thnF (T.item (X.blk s3 H3 scope ce fp) rfl rfl rfl hc i [] s5 _ H5 (fun _ _ => False) I5 (still I5 n5) st5 go) fun r s6 ⟨u, hr, h6⟩ => ?_
      subst hr
      refine thnF h6 fun _ s7 ⟨x, H7, I7, r7, y7, st7, n7⟩ => ?_
      obtain ⟨pl, hpl⟩ : ∃ pl, pl = pinsAt fp s7.heap := ⟨_, rfl⟩
      have P7 : Inv (X.blk s3 H3 scope ce fp) ([] ++ pl) (wipe σ (own.map (·.2))) H7 s7 := by
        rw [hpl]
        exact I7.pinned (still I7 n7) (T.obj _ _ st7)
      -- a turn that is over
      have over : ∀ {τ : St} {s' : Shared} {H' : Hp}, wipe τ (own.map (·.2)) = wipe σ (own.map (·.2)) → Inv (X.blk s3 H3 scope ce fp) ([] ++ pl) τ H' s' → Nx H' →
          ∃ m, m < n ∧ ∃ i H', W i m H' ∧ tn i s'.heap ∧ (∀ b ∈ fp, H' b = none) ∧ Inv (X.blk s3 H3 scope ce fp) [] (wipe σ (own.map (·.2))) H' s' := by
        intro τ s' H' same I' nx
        obtain ⟨m', lt, w'⟩ := next H' nx
        have there : ∀ b ∈ fp, ∀ o, s7.heap.get? b = some o → s'.heap.get? b = some o ∧ H' b = none := fun b hb o e => by
          have z := I'.pin (b, o) (List.mem_append_right _ (List.mem_append_right _ (by rw [hpl]; exact mem_pinsAt hb e)))
          exact ⟨z.1, z.2.1⟩
        refine ⟨m', lt, i + 1, H', w', T.keep _ _ _ st7 fun b hb o e => (there b hb o e).1, fun b hb => (T.obj _ _ st7 b hb).elim fun o h => (there b hb o h.1).2, ?_⟩
        refine (I'.unpinned (pins := [])).weak (by rw [← same, wipe_length]) fun j v e => ?_
        rw [← same] at e
        exact (wipe_some e).1
      refine thnF (pg.run _ s7 _ H7 x u _ P7 r7 (turn x H7 y7)) fun _ s8 ⟨τ, H8, I8, same, q8⟩ => ?_
      refine thnF (pt.run _ s8 τ H8 _ I8 q8) fun b s9 ⟨H9, I9, q9⟩ => ?_
      cases b with
      | true =>
        refine thnF (pe.run _ s9 τ H9 _ I9 q9) fun ku s10 ⟨y, H10, I10, r10, k, S, n', ey, hS, room, nx⟩ => ?_
        subst ey
        exact addK_ok (X := X.blk s3 H3 scope ce fp) I10 hS r10 room fun s12 I12 => over same I12 nx
      | false => exact over same I9 q9
  exact codeAny_compStart_set loop (T.self X.A 0 _ _ _ st4 loop)
/-- the value of a set comprehension over any walk -/
theorem pe_scP {ex tg iter : Expr} {ifs : List Expr} {scope : Scope} {own : List (Str × Nat)} {pos : Pos} {wi : TI} {g : TG} {tt : TT} {te : TE} (hc : X.calm = true) (hN : X.N.Nodup)
    (hi : PI X tg iter wi) (ok : BlkOk X.N X.env.scope scope own) (parts : ScParts X scope tg ex ifs g tt te) (hs : ∀ x, foldedSetIterable iter X.env x = pure x := by intro _; rfl) :
    PE X (.SetComp ex [⟨tg, iter, ifs, 0⟩] scope pos) (tScP X.prog X.w wi g tt te (own.map (·.2))) := by
  refine ⟨fun pins s σ H Q I want => ?_⟩
  rw [eval_SetComp]
  refine scp_core hc hN I hi ok parts hs want fun D C s' m H' I' q ns f => ⟨m, ns, fun h'' sb => ?_⟩
  obtain ⟨q0, q1, _, q3, q4, q5⟩ := f
  exact ⟨.ref D, H', I'.turned (t' := s'.toks) (fun b o hb e => (sb.2 b hb).trans e) q0 q1 q3 q4 q5, rfl, q⟩

/-- len(s) of such a set -/
def rLenK (P : Program) (w : World) : List V → Hp → VK → Prop := fun xs H Q => ∃ (a : Addr) (S : Key → Bool) (n : Nat), xs = [.ref a] ∧ H a = some (SetK P w a S n) ∧ Q (.int n) H
theorem cr_lenK : CallR X (.builtin "len") (rLenK X.prog X.w) := by
  intro pins s σ H xs us Q I r h
  obtain ⟨a, S, n, rfl, ha, q⟩ := h
  rw [Vals.ref1 r]
  obtain ⟨o, es, ep, t, ho, hex, hd, _, _, room, hf, hn⟩ := setK_get I ha
  refine call_len_set ho hex hd hf (by unfold scanBound at room; omega) ⟨.int n, H, I.tok _, ⟨_, by rw [hn]⟩, q⟩
/-- over a list that the block leaves as it is -/
theorem scp_list {P : Program} {w : World} {K : PySem.W.Frag} {a : Addr} {xs : List V} {g : TG} {tt : TT} {te : TE} {vs : List Nat} {σ : St} {H1 : Hp} {D : Addr} {Qd : Hp → Prop} (Pv : Nat → Hp → Prop) (first : Pv 0 (upd H1 D (SetK P w D (fun _ => false) 0))) (stays : ∀ i H, i ≤ xs.length → Pv i H → SqL K H a xs)
    (each : ∀ i x H, xs[i]? = some x → Pv i H → g x (wipe σ vs) H fun σ2 H4 => wipe σ2 vs = wipe σ vs ∧ tt σ2 H4 fun b H5 =>
      if b = true then te σ2 H5 fun y H6 => ∃ (k : Key) (S : Key → Bool) (n : Nat), y = kV k ∧ H6 D = some (SetK P w D S n) ∧ n + 1 < scanBound ∧ Pv (i + 1) (upd H6 D (SetK P w D (fun j => S j || decide (j = k)) (if S k = true then n else n + 1))) else Pv (i + 1) H5) (last : ∀ H, Pv xs.length H → Qd H) :
    ∃ W : Nat → Nat → Hp → Prop, (∃ m, W 0 m (upd H1 D (SetK P w D (fun _ => false) 0))) ∧ ∀ i m H2, W i m H2 → ((Itl K a).stop i H2 ∧ Qd H2) ∨
      ((Itl K a).go i H2 ∧ ∃ Nx : Hp → Prop, (∀ H', Nx H' → ∃ m', m' < m ∧ W (i + 1) m' H') ∧ ∀ x H3, (Itl K a).yld i H2 x H3 → g x (wipe σ vs) H3 fun σ2 H4 => wipe σ2 vs = wipe σ vs ∧ tt σ2 H4 fun b H5 =>
        if b = true then te σ2 H5 fun y H6 => ∃ (k : Key) (S : Key → Bool) (n : Nat), y = kV k ∧ H6 D = some (SetK P w D S n) ∧ n + 1 < scanBound ∧ Nx (upd H6 D (SetK P w D (fun j => S j || decide (j = k)) (if S k = true then n else n + 1))) else Nx H5) := by
  refine ⟨fun i m H => i + m = xs.length ∧ Pv i H, ⟨xs.length, Nat.zero_add _, first⟩, ?_⟩
  rintro i m H ⟨e, p⟩
  have sq := stays i H (by omega) p
  cases m with
  | zero =>
    obtain rfl : i = xs.length := by omega
    exact .inl ⟨⟨xs, sq, Nat.le_refl _⟩, last H p⟩
  | succ m =>
    have lt : i < xs.length := by omega
    refine .inr ⟨⟨xs, xs[i], sq, by simp [lt]⟩, Pv (i + 1), fun H' p' => ⟨m, Nat.lt_succ_self m, by omega, p'⟩, fun x H' ⟨e', y⟩ => ?_⟩
    subst e'
    exact each i x _ (y xs sq) p
end
end L2

set_option Elab.async false
set_option linter.all false
set_option maxRecDepth 100000
set_option maxHeartbeats 1000000
/-! list(combinations(range(n), r)), one rule -/
namespace Cm
open PySem PySem.Spec PyProof.Rows

theorem owner_cm : Manifest.owners.lookup (String.ofList (['s', 'n', 'o', 'i', 't', 'a', 'n', 'i', 'b', 'm', 'o', 'c', '.', 's', 'l', 'o', 'o', 't', 'r', 'e', 't', 'i'] : List Char).reverse) = some Manifest.sig_itertools_combinations := by kernel_rfl
theorem slot_next : Slot "itertools.combinations" "__next__" "itertools.combinations.__next__" :=
  .of (owner := "itertools.combinations") (n := "__next__") (by rw [typeLookup_type, builtinLookup_eq_fast]; kernel_rfl) (by decide +kernel) (by decide +kernel) (by decide +kernel)
    (by first | exact .inl (by decide +kernel) | exact .inr (by decide +kernel)) (by rw [isSubtype_type]; kernel_rfl)
theorem entry_next : entryFor table "itertools.combinations.__next__" = some Builtin.«itertools.combinations.__next__» := entryFor_of_tree (by kernel_rfl)
theorem args_next (a : Value) : argsOk "itertools.combinations.__next__" ⟨[a], []⟩ := by
  unfold argsOk; rw [signature?_of (id := "itertools.combinations.__next__") (n := ['_', '_', 't', 'x', 'e', 'n', '_', '_']) (o := ['s', 'n', 'o', 'i', 't', 'a', 'n', 'i', 'b', 'm', 'o', 'c', '.', 's', 'l', 'o', 'o', 't', 'r', 'e', 't', 'i']) (by kernel_rfl) owner_cm]; kernel_rfl
theorem slot_iter : Slot "itertools.combinations" "__iter__" "itertools.combinations.__iter__" :=
  .of (owner := "itertools.combinations") (n := "__iter__") (by rw [typeLookup_type, builtinLookup_eq_fast]; kernel_rfl) (by decide +kernel) (by decide +kernel) (by decide +kernel)
    (by first | exact .inl (by decide +kernel) | exact .inr (by decide +kernel)) (by rw [isSubtype_type]; kernel_rfl)
theorem args_iter (a : Value) : argsOk "itertools.combinations.__iter__" ⟨[a], []⟩ := by
  unfold argsOk; rw [signature?_of (id := "itertools.combinations.__iter__") (n := ['_', '_', 'r', 'e', 't', 'i', '_', '_']) (o := ['s', 'n', 'o', 'i', 't', 'a', 'n', 'i', 'b', 'm', 'o', 'c', '.', 's', 'l', 'o', 'o', 't', 'r', 'e', 't', 'i']) (by kernel_rfl) owner_cm]; kernel_rfl
theorem entry_iter : entryFor table "itertools.combinations.__iter__" = some Builtin.«dict_keyiterator.__iter__» :=
  entryFor_alias (id' := "dict_keyiterator.__iter__") (by kernel_rfl) (by first | rfl | decide +kernel | (unfold String.splitOn; simp +decide [String.splitOnAux])) (by decide +kernel) (by kernel_rfl)
theorem slot_init : Slot "itertools.combinations" "__init__" "object.__init__" :=
  .of (owner := "object") (n := "__init__") (by rw [typeLookup_type, builtinLookup_eq_fast]; kernel_rfl) (by decide +kernel) (by decide +kernel) (by decide +kernel)
    (by first | exact .inl (by decide +kernel) | exact .inr (by decide +kernel)) (by rw [isSubtype_type]; kernel_rfl)
theorem mro_cm : mroOf (.type "itertools.combinations") = pure [.type "itertools.combinations", .type "object"] := by rw [mroOf_type]; kernel_rfl
theorem lookup_new : typeLookup (.type "itertools.combinations") "__new__" = pure (some (.builtin "itertools.combinations.__new__")) := by rw [typeLookup_type, builtinLookup_eq_fast]; kernel_rfl
theorem sub_cm : isSubtype (.type "itertools.combinations") (.type "itertools.combinations") = pure true := by rw [isSubtype_type]; kernel_rfl
theorem called_cm : TypeCalled "itertools.combinations" "itertools.combinations.__new__" "object.__init__" :=
  ⟨by decide +kernel, by decide +kernel, ⟨_, _, mro_cm⟩, madeBy_type mro_cm lookup_new (by decide +kernel), by decide +kernel, sub_cm, slot_init⟩
theorem typeCall_cm (a b : Value) : checkTypeCall "itertools.combinations" ⟨[a, b], []⟩ = pure () := by kernel_rfl
theorem newCall_cm (a b : Value) : checkBuiltinCall "itertools.combinations.__new__" ⟨[.type "itertools.combinations", a, b], []⟩ = pure () := by kernel_rfl
theorem entry_new : entryFor table "itertools.combinations.__new__" = some Builtin.«itertools.combinations.__new__» := entryFor_of_tree (by kernel_rfl)
theorem nolen : typeLookup (.type "itertools.combinations") "__len__" = pure none := by rw [typeLookup_type, builtinLookup_eq_fast]; kernel_rfl
theorem nohint : typeLookup (.type "itertools.combinations") "__length_hint__" = pure none := by rw [typeLookup_type, builtinLookup_eq_fast]; kernel_rfl
theorem classRest (a b : Value) : Builtin.Itertools.itClassAndRest "combinations" ⟨[.type "itertools.combinations", a, b], []⟩ = pure (.type "itertools.combinations", [a, b]) := by
  unfold Builtin.Itertools.itClassAndRest
  have e : ("itertools." ++ "combinations" : String) = "itertools.combinations" := by decide +kernel
  simp only [isType, e, sub_cm, pure_bind, Bool.not_true, Bool.false_eq_true, if_false]
theorem bindNamed (a b : Value) : Builtin.Itertools.itBindNamed "combinations" ["iterable", "r"] 2 2 [a, b] [] = pure [some a, some b] := by kernel_rfl
theorem noDict : typeHasDict (.type "itertools.combinations") = false := by kernel_rfl
end Cm

set_option Elab.async false
set_option linter.all false
set_option maxRecDepth 100000
set_option maxHeartbeats 1000000
namespace Cm
open PySem PySem.Spec PyProof.Rows
/-- the record: its pool at P, its state, the tuple handed out last, its places -/
abbrev IsCm (h : Heap) (c P : Addr) (st : Int) (last : Value) (ix : List Nat) : Prop :=
  h.get? c = some { cls := .type "itertools.combinations", dict := none, data := .fields ([Value.ref P, rawInt st, last] ++ ix.map fun (i : Nat) => rawInt i).toArray, slots := #[] }
abbrev cmP (h : Heap) (acc : Array Value) : Heap := h.push { cls := .type "tuple", data := .seq acc }
abbrev cmR (h : Heap) (acc : Array Value) (st : Int) (k : Nat) : Heap := (cmP h acc).push { cls := .type "itertools.combinations", dict := none, data := .fields ([Value.ref h.objs.size, rawInt st, .none] ++ (List.range k).map fun (i : Nat) => rawInt i).toArray, slots := #[] }
theorem ssize {k : Nat} {tk : Tok} (hk : k ≤ 2 ^ 20) : Builtin.Itertools.itSsizeArg (Value.int (k : Int) tk) = pure (k : Int) := by
  unfold Builtin.Itertools.itSsizeArg asIndex asInt?
  simp only [pure_bind]
  have e : (decide ((k : Int) < -(2 ^ 63 : Int)) || decide ((k : Int) ≥ 2 ^ 63)) = false := by
    rw [decide_eq_false (by omega), decide_eq_false (by omega)] <;> rfl
  rw [e]
  rfl
section
variable {prog : Program} {w : World} {A : Around} {E : Value → Shared → Prop} {s : Shared}
theorem new_cm {r : Addr} {a b : Int} {t u v tk : Tok} {n k : Nat} : MeetsIn prog w (Builtin.«itertools.combinations.__new__» ⟨[.type "itertools.combinations", .ref r, .int k tk], []⟩)
    (fun A R s => A.handled = none ∧ IsRange s.heap r a b 1 t u v ∧ Builtin.Range.small a b 1 = true ∧ Builtin.Range.rangeSize a b 1 = n ∧ n ≤ 2 ^ 20 ∧ k ≤ 2 ^ 20 ∧
      ∀ (h' : Heap) (tk : Nat) (acc : Array Value), (∀ b o, s.heap.get? b = some o → h'.get? b = some o) → ItemsOf (fun i v => ∃ t, v = .int (a + i * 1) t) acc n →
        R (.ok (.ret (.ref (h'.objs.size + 1)))) { s with heap := cmR h' acc (if k > n then 2 else 0) k, toks := tk }) := by
  rintro A R s ⟨hh, hr, hs, hn, hl, hk, hR⟩
  unfold Builtin.«itertools.combinations.__new__»
  refine wpAny_bind ?_
  refine wpAny_bind (wpAny_of_eq (classRest _ _) ?_)
  try dsimp only
  refine wpAny_bind (wpAny_of_eq (bindNamed _ _) ?_)
  try dsimp only
  refine wpAny_bind (wpAny_of_eq (ssize hk) ?_)
  try dsimp only
  refine wpAny_bind (L2.collect_range hh hr hs hn (by omega) fun h' tk' acc hkp hacc => ?_)
  rw [if_neg (by omega), if_neg (by unfold Builtin.Itertools.itTooMany; rw [decide_eq_false (by omega)]; exact Bool.false_ne_true)]
  have ln : acc.toList.length = n := by rw [Array.length_toList]; exact hacc.1
  refine wpAny_bind (wpAny_newTuple ?_ (by rw [ln, sizeLine_eq]; omega))
  refine wpAny_pure ?_
  try dsimp only
  refine wpAny_bind ?_
  unfold Builtin.Itertools.itNewRecord
  rw [noDict]
  rw [if_pos (show (!false) = true from rfl), Int.toNat_natCast, ln, Array.toArray_toList]
  refine wpAny_newObj_type ?_ ?_
  · refine wpAny_pure ?_
    have z := hR h' tk' acc hkp hacc
    have e1 : (cmP h' acc).objs.size = h'.objs.size + 1 := Heap.size_push ..
    rw [← e1] at z
    exact z
  · show _ ≤ _
    rw [List.size_toArray, List.length_append, List.length_map, List.length_range, sizeLine_eq]
    show 3 + k ≤ _
    omega
/-- combinations(a range, k) -/
theorem call_cm {r : Addr} {a b : Int} {t u v tk : Tok} {n k : Nat} {Q : Value → Shared → Prop} (hh : A.handled = none) (hr : IsRange s.heap r a b 1 t u v) (hs : Builtin.Range.small a b 1 = true) (hn : Builtin.Range.rangeSize a b 1 = n) (hl : n ≤ 2 ^ 20) (hk : k ≤ 2 ^ 20)
    (hQ : ∀ (h' : Heap) (tk : Nat) (acc : Array Value), (∀ b o, s.heap.get? b = some o → h'.get? b = some o) → ItemsOf (fun i v => ∃ t, v = .int (a + i * 1) t) acc n →
        Q (.ref (h'.objs.size + 1)) { s with heap := cmR h' acc (if k > n then 2 else 0) k, toks := tk }) :
    wpAny (model prog w) A (call (.type "itertools.combinations") [.ref r, .int k tk]) Q E s := by
  refine callType_newIn called_cm (by decide) (typeCall_cm _ _) (newCall_cm _ _) (fun obj => F.args_object_init_3 obj _ _) entry_new (new_cm (r := r) (a := a) (b := b) (t := t) (u := u) (v := v) (n := n)) ?_
  refine ⟨hh, hr, hs, hn, hl, hk, fun h' tk' acc hkp hacc => ?_⟩
  have e1 : (cmP h' acc).objs.size = h'.objs.size + 1 := Heap.size_push ..
  refine ⟨?_, hQ h' tk' acc hkp hacc⟩
  have z : IsCm (cmR h' acc (if k > n then 2 else 0) k) (cmP h' acc).objs.size h'.objs.size (if k > n then 2 else 0) .none (List.range k) := Heap.get?_push_size _ rfl
  rw [e1] at z
  exact ⟨_, z, rfl⟩
end
end Cm

set_option Elab.async false
set_option linter.all false
set_option maxRecDepth 100000
set_option maxHeartbeats 1000000
namespace Cm
open PySem PySem.Spec PyProof.Rows
def nextC (n : Nat) (ix : List Nat) : Option (List Nat) :=
  match (List.range ix.length).reverse.find? fun i => ix.getD i 0 != i + n - ix.length with
  | none => none
  | some i => some (ix.take i ++ (List.range (ix.length - i)).map (ix.getD i 0 + 1 + ·))
section
variable {prog : Program} {w : World} {A : Around} {E : Value → Shared → Prop} {s : Shared}
theorem numbers {c P : Addr} {st : Int} {last : Value} {ix : List Nat} {Q : List Nat → Shared → Prop} (hc : IsCm s.heap c P st last ix) (h : Q ix s) : wpAny (model prog w) A (Builtin.Itertools.itNumbersFrom (.ref c) 3) Q E s := by
  unfold Builtin.Itertools.itNumbersFrom
  refine wpAny_bind (wpAny_load hc ?_)
  refine wpAny_pure ?_
  have e : List.map (fun x : Value => match x with | .int n _ => n.toNat | _ => 0) (List.drop 3 ([Value.ref P, rawInt st, last] ++ ix.map fun (i : Nat) => rawInt i)) = ix := by
    show List.map _ (ix.map fun (i : Nat) => rawInt i) = ix
    rw [List.map_map]
    refine (List.map_congr_left fun i _ => ?_).trans (List.map_id ix)
    show (i : Int).toNat = i
    omega
  exact e.symm ▸ h
theorem intField {c P : Addr} {st : Int} {last : Value} {ix : List Nat} {Q : Int → Shared → Prop} (hc : IsCm s.heap c P st last ix) (h : Q st s) : wpAny (model prog w) A (Builtin.Itertools.itIntField (.ref c) 1) Q E s := by
  unfold Builtin.Itertools.itIntField
  refine wpAny_bind (wpAny_field hc rfl (x := rawInt st) rfl ?_)
  exact wpAny_pure h
theorem pool {P : Addr} {po : Obj} {its : Array Value} {pn : Nat} {Q : Array Value → Shared → Prop} (hp : s.heap.get? P = some po) (hpd : po.data = .seq its pn) (h : Q its s) : wpAny (model prog w) A (Builtin.Itertools.itPoolItems (.ref P)) Q E s := by
  unfold Builtin.Itertools.itPoolItems
  refine wpAny_bind (wpAny_seqItems hp hpd ?_)
  exact wpAny_pure h
theorem hand {c P : Addr} {last : Value} {ix : List Nat} {its : Array Value} {po : Obj} {pn : Nat} {Q : Value → Shared → Prop} (hc : IsCm s.heap c P 1 last ix) (hp : s.heap.get? P = some po) (hpd : po.data = .seq its pn)
    (hQ : ∀ h', IsCm h' c P 1 (.ref s.heap.objs.size) ix → h'.get? s.heap.objs.size = some { cls := .type "tuple", data := .seq (ix.map fun i => its.getD i .none).toArray } → h'.objs.size = s.heap.objs.size + 1 →
      (∀ b o, b ≠ c → s.heap.get? b = some o → h'.get? b = some o) → Q (.ref s.heap.objs.size) { s with heap := h' }) (sz : ix.length ≤ 1000) :
    wpAny (model prog w) A ((Builtin.Itertools.itPoolItems (.ref P) >>= fun items => newTuple (ix.map fun i => items.getD i .none)) >>= fun result => field (.ref c) 2 >>= fun before => setField (.ref c) 2 result >>= fun _ => letGo [before] [result] >>= fun _ => ret result)
      (fun fin s' => ∃ v, fin = .done (.ret v) ∧ Q v s') E s := by
  refine wpAny_bind (wpAny_bind (pool hp hpd (wpAny_newTuple ?_ (by rw [List.length_map, sizeLine_eq]; omega))))
  have hlt : c < s.heap.objs.size := Heap.lt_size hc
  have hc1 : IsCm (s.heap.push { cls := .type "tuple", data := .seq (ix.map fun i => its.getD i .none).toArray }) c P 1 last ix := Heap.get?_push_of_some _ hc
  refine wpAny_bind (wpAny_field hc1 rfl (x := last) rfl ?_)
  refine wpAny_bind (wpAny_setField hc1 rfl (by show 2 < _; rw [List.size_toArray, List.length_append]; show 2 < 3 + _; omega) ?_)
  refine wpAny_bind (wpAny_letGo ?_)
  have hs := Heap.get?_update_self (Obj.mapFields (·.setIfInBounds 2 (Value.ref s.heap.objs.size))) hc1 rfl
  refine wpAny_pure ⟨_, rfl, hQ _ ?_ ?_ ?_ fun b o hb e => ?_⟩
  · refine hs.trans ?_
    show some (Obj.mk _ _ _ _) = _
    congr 2
  · exact (Heap.get?_update_other _ _ (Nat.ne_of_lt hlt)).trans (Heap.get?_push_size _ rfl)
  · exact (Heap.size_update ..).trans (Heap.size_push ..)
  · exact (Heap.get?_update_other _ _ (Ne.symm hb)).trans (Heap.get?_push_of_some _ e)
theorem state_1 {c P : Addr} {st st' : Int} {last : Value} {ix : List Nat} {po : Obj} {h : Heap} (hc : IsCm h c P st last ix) (hp : h.get? P = some po) (hne : P ≠ c) (_ : True) :
    IsCm (h.update c (Obj.mapFields (·.setIfInBounds 1 (rawInt st')))) c P st' last ix ∧ (h.update c (Obj.mapFields (·.setIfInBounds 1 (rawInt st')))).get? P = some po ∧ (h.update c (Obj.mapFields (·.setIfInBounds 1 (rawInt st')))).objs.size = h.objs.size ∧
    ∀ b o, b ≠ c → h.get? b = some o → (h.update c (Obj.mapFields (·.setIfInBounds 1 (rawInt st')))).get? b = some o := by
  have hs := Heap.get?_update_self (Obj.mapFields (·.setIfInBounds 1 (rawInt st'))) hc rfl
  refine ⟨?_, (Heap.get?_update_other _ _ hne.symm).trans hp, Heap.size_update .., fun b o hb e => (Heap.get?_update_other _ _ (Ne.symm hb)).trans e⟩
  refine hs.trans ?_
  show some (Obj.mk _ _ _ _) = _
  congr 2
theorem numbers_1 {c P : Addr} {st : Int} {last : Value} {ix ix' : List Nat} {po : Obj} {h : Heap} (hc : IsCm h c P st last ix) (hp : h.get? P = some po) (hne : P ≠ c) :
    IsCm (h.update c (Obj.mapFields (fun fs => fs.extract 0 3 ++ (ix'.map fun (n : Nat) => rawInt n).toArray))) c P st last ix' ∧ (h.update c (Obj.mapFields (fun fs => fs.extract 0 3 ++ (ix'.map fun (n : Nat) => rawInt n).toArray))).get? P = some po ∧
    (h.update c (Obj.mapFields (fun fs => fs.extract 0 3 ++ (ix'.map fun (n : Nat) => rawInt n).toArray))).objs.size = h.objs.size ∧
    ∀ b o, b ≠ c → h.get? b = some o → (h.update c (Obj.mapFields (fun fs => fs.extract 0 3 ++ (ix'.map fun (n : Nat) => rawInt n).toArray))).get? b = some o := by
  have hs := Heap.get?_update_self (Obj.mapFields (fun fs => fs.extract 0 3 ++ (ix'.map fun (n : Nat) => rawInt n).toArray)) hc rfl
  refine ⟨?_, (Heap.get?_update_other _ _ hne.symm).trans hp, Heap.size_update .., fun b o hb e => (Heap.get?_update_other _ _ (Ne.symm hb)).trans e⟩
  refine hs.trans ?_
  show some (Obj.mk _ _ _ _) = _
  congr 2
  show Data.fields (Array.extract _ _ _ ++ _) = _
  rw [List.extract_toArray, List.append_toArray]
  rfl
theorem next_0 {c P : Addr} {last : Value} {ix : List Nat} {its : Array Value} {po : Obj} {pn : Nat} {Q : Value → Shared → Prop} (hc : IsCm s.heap c P 0 last ix) (hp : s.heap.get? P = some po) (hpd : po.data = .seq its pn) (hne : P ≠ c)
    (hQ : ∀ h', IsCm h' c P 1 (.ref s.heap.objs.size) ix → h'.get? s.heap.objs.size = some { cls := .type "tuple", data := .seq (ix.map fun i => its.getD i .none).toArray } → h'.objs.size = s.heap.objs.size + 1 →
      (∀ b o, b ≠ c → s.heap.get? b = some o → h'.get? b = some o) → Q (.ref s.heap.objs.size) { s with heap := h' }) (sz : ix.length ≤ 1000) :
    wpAny (model prog w) A (Builtin.«itertools.combinations.__next__» ⟨[.ref c], []⟩) (fun fin s' => ∃ v, fin = .done (.ret v) ∧ Q v s') E s := by
  show wpAny _ _ (field (.ref c) 0 >>= _) _ _ _
  refine wpAny_bind (wpAny_field hc rfl (x := .ref P) rfl ?_)
  show wpAny _ _ (Builtin.Itertools.itNumbersFrom (.ref c) 3 >>= _) _ _ _
  refine wpAny_bind (numbers hc ?_)
  refine wpAny_bind (intField hc ?_)
  show wpAny _ _ (setField (.ref c) 1 (rawInt 1) >>= _) _ _ _
  refine wpAny_bind (wpAny_setField hc rfl (by show 1 < _; rw [List.size_toArray, List.length_append]; show 1 < 3 + _; omega) ?_)
  obtain ⟨hc1, hp1, sz1, kp1⟩ := state_1 (P := P) (st' := 1) hc hp hne trivial
  generalize s.heap.update c (Obj.mapFields (·.setIfInBounds 1 (rawInt 1))) = h1 at *
  refine hand (s := { s with heap := h1 }) hc1 hp1 hpd (fun h' a1 a2 a3 a4 => ?_) sz
  dsimp only at a1 a2 a3 a4 ⊢
  rw [sz1] at *
  exact hQ h' a1 a2 a3 fun b o hb e => a4 b o hb (kp1 b o hb e)
theorem next_1 {c P : Addr} {last : Value} {ix ix' : List Nat} {its : Array Value} {po : Obj} {pn : Nat} {Q : Value → Shared → Prop} (hc : IsCm s.heap c P 1 last ix) (hp : s.heap.get? P = some po) (hpd : po.data = .seq its pn) (hne : P ≠ c) (hx : nextC its.size ix = some ix')
    (hQ : ∀ h', IsCm h' c P 1 (.ref s.heap.objs.size) ix' → h'.get? s.heap.objs.size = some { cls := .type "tuple", data := .seq (ix'.map fun i => its.getD i .none).toArray } → h'.objs.size = s.heap.objs.size + 1 →
      (∀ b o, b ≠ c → s.heap.get? b = some o → h'.get? b = some o) → Q (.ref s.heap.objs.size) { s with heap := h' }) (sz : ix.length ≤ 1000) (sz' : ix'.length ≤ 1000) :
    wpAny (model prog w) A (Builtin.«itertools.combinations.__next__» ⟨[.ref c], []⟩) (fun fin s' => ∃ v, fin = .done (.ret v) ∧ Q v s') E s := by
  show wpAny _ _ (field (.ref c) 0 >>= _) _ _ _
  refine wpAny_bind (wpAny_field hc rfl (x := .ref P) rfl ?_)
  show wpAny _ _ (Builtin.Itertools.itNumbersFrom (.ref c) 3 >>= _) _ _ _
  refine wpAny_bind (numbers hc ?_)
  refine wpAny_bind (intField hc ?_)
  show wpAny _ _ (Builtin.Itertools.itPoolItems (.ref P) >>= _) _ _ _
  refine wpAny_bind (pool hp hpd ?_)
  show wpAny _ _ (match nextC its.size ix with | some next => _ | none => _) _ _ _
  rw [hx]
  show wpAny _ _ (Builtin.Itertools.itSetNumbersFrom (.ref c) 3 ix' >>= _) _ _ _
  obtain ⟨hs, hp1, sz1, kp1⟩ := numbers_1 (P := P) (ix' := ix') hc hp hne
  refine wpAny_bind ?_
  unfold Builtin.Itertools.itSetNumbersFrom
  refine wpAny_updateFields hc rfl ?_ ?_
  · generalize s.heap.update c (Obj.mapFields _) = h1 at *
    refine hand (s := { s with heap := h1 }) hs hp1 hpd (fun h' a1 a2 a3 a4 => ?_) sz'
    dsimp only at a1 a2 a3 a4 ⊢
    rw [sz1] at *
    exact hQ h' a1 a2 a3 fun b o hb e => a4 b o hb (kp1 b o hb e)
  · rw [List.extract_toArray, List.append_toArray, List.size_toArray, List.length_append, List.length_map, sizeLine_eq]
    have e : (List.extract ([Value.ref P, rawInt 1, last] ++ List.map (fun (i : Nat) => rawInt ↑i) ix) 0 3).length = 3 := rfl
    rw [e]
    omega
/-- nothing more: StopIteration -/
theorem stops {Q : Option Value → Shared → Prop} (hh : A.handled = none) (h : ∀ h', (∀ b o, s.heap.get? b = some o → h'.get? b = some o) → Q none { s with heap := h' }) (R : Fin → Shared → Prop) :
    wpAny (model prog w) A.in1 (Builtin.Itertools.itStop : Sem Fin) R (fun e s' => wpAny (model prog w) A (do if (← isInstance e (.type "StopIteration")) then pure none else throw e) Q E s') s := by
  unfold Builtin.Itertools.itStop
  refine wpAny_bind ?_
  simp only [newExc, newTuple]
  refine wpAny_bind (wpAny_newObj_type ?_ (by size_fits))
  refine wpAny_bind (m := firstArgMember _ _) (wpAny_of_eq (a := Value.none) (by first | rfl | (simp only [firstArgMember]; rfl)) ?_)
  refine wpAny_newObj_type ?_ (by size_fits)
  simp only [raiseNew]
  refine wpAny_bind (wpAny_handled ?_)
  rw [show A.in1.handled = none from hh]
  refine wpAny_bind (wpAny_pure (wpAny_throw ?_))
  refine wpAny_bind (wpAny_isInstance (T := "StopIteration") (b := true) ⟨_, Heap.get?_push_size _ rfl, rfl⟩ isSubtype_stop ?_)
  exact wpAny_pure (h _ fun b o e => Heap.get?_push_of_some _ (Heap.get?_push_of_some _ e))
end
end Cm

set_option Elab.async false
set_option linter.all false
set_option maxRecDepth 100000
set_option maxHeartbeats 1000000
namespace Cm
open PySem PySem.Spec PyProof.Rows
section
variable {prog : Program} {w : World} {A : Around} {E : Value → Shared → Prop} {s : Shared}
theorem IsCm.ty {c P : Addr} {st : Int} {last : Value} {ix : List Nat} (hc : IsCm s.heap c P st last ix) : s.TypeIs (.ref c) "itertools.combinations" := ⟨_, hc, rfl⟩
/-- the next lot is handed out in a new tuple -/
theorem py_item {c P : Addr} {st : Int} {last : Value} {ix ix' : List Nat} {its : Array Value} {po : Obj} {pn : Nat} {Q : Option Value → Shared → Prop} (hc : IsCm s.heap c P st last ix) (hp : s.heap.get? P = some po) (hpd : po.data = .seq its pn) (hne : P ≠ c)
    (hx : st = 0 ∧ ix' = ix ∨ st = 1 ∧ nextC its.size ix = some ix')
    (hQ : ∀ h', IsCm h' c P 1 (.ref s.heap.objs.size) ix' → h'.get? s.heap.objs.size = some { cls := .type "tuple", data := .seq (ix'.map fun i => its.getD i .none).toArray } → h'.objs.size = s.heap.objs.size + 1 →
      (∀ b o, b ≠ c → s.heap.get? b = some o → h'.get? b = some o) → Q (some (.ref s.heap.objs.size)) { s with heap := h' }) (sz : ix.length ≤ 1000) (sz' : ix'.length ≤ 1000) :
    wpAny (model prog w) A (pyNext (.ref c)) Q E s := by
  unfold pyNext
  refine wpAny_bind (wpAny_attempt (wpAny_callSpecial?_slot (name := Str.ofString "__next__") (IsCm.ty hc) slot_next
    (wpAny_call_entry slot_next (IsCm.ty hc) entry_next ?_ (args_next _))))
  rcases hx with ⟨rfl, rfl⟩ | ⟨rfl, hx⟩
  · exact next_0 hc hp hpd hne (fun h' a1 a2 a3 a4 => wpAny_pure (hQ h' a1 a2 a3 a4)) sz
  · exact next_1 hc hp hpd hne hx (fun h' a1 a2 a3 a4 => wpAny_pure (hQ h' a1 a2 a3 a4)) sz sz'
theorem py_end {c P : Addr} {st : Int} {last : Value} {ix : List Nat} {its : Array Value} {po : Obj} {pn : Nat} {Q : Option Value → Shared → Prop} (hh : A.handled = none) (hc : IsCm s.heap c P st last ix) (hp : s.heap.get? P = some po) (hpd : po.data = .seq its pn) (hne : P ≠ c)
    (hx : st = 2 ∨ st = 1 ∧ nextC its.size ix = none)
    (hQ : ∀ h', (∀ b o, b ≠ c → s.heap.get? b = some o → h'.get? b = some o) → (∃ o, h'.get? c = some o) → Q none { s with heap := h' }) :
    wpAny (model prog w) A (pyNext (.ref c)) Q E s := by
  unfold pyNext
  refine wpAny_bind (wpAny_attempt (wpAny_callSpecial?_slot (name := Str.ofString "__next__") (IsCm.ty hc) slot_next
    (wpAny_call_entry slot_next (IsCm.ty hc) entry_next ?_ (args_next _))))
  show wpAny _ _ (field (.ref c) 0 >>= _) _ _ _
  refine wpAny_bind (wpAny_field hc rfl (x := .ref P) rfl ?_)
  show wpAny _ _ (Builtin.Itertools.itNumbersFrom (.ref c) 3 >>= _) _ _ _
  refine wpAny_bind (numbers hc ?_)
  refine wpAny_bind (intField hc ?_)
  rcases hx with rfl | ⟨rfl, hx⟩
  · show wpAny _ _ (rule _ >>= _) _ _ _
    refine wpAny_bind (wpAny_rule ?_)
    exact stops hh (fun h' hk => hQ h' (fun b o _ e => hk b o e) ⟨_, hk _ _ hc⟩) _
  · show wpAny _ _ (Builtin.Itertools.itPoolItems (.ref P) >>= _) _ _ _
    refine wpAny_bind (pool hp hpd ?_)
    show wpAny _ _ (match nextC its.size ix with | some next => _ | none => _) _ _ _
    rw [hx]
    show wpAny _ _ (setField (.ref c) 1 (rawInt 2) >>= _) _ _ _
    refine wpAny_bind (wpAny_setField hc rfl (by show 1 < _; rw [List.size_toArray, List.length_append]; show 1 < 3 + _; omega) ?_)
    obtain ⟨hc1, hp1, sz1, kp1⟩ := state_1 (P := P) (st' := 2) hc hp hne trivial
    generalize s.heap.update c (Obj.mapFields (·.setIfInBounds 1 (rawInt 2))) = h1 at *
    exact stops (s := { s with heap := h1 }) hh (fun h' hk => hQ h' (fun b o hb e => hk b o (kp1 b o hb e)) ⟨_, hk _ _ hc1⟩) _
theorem py_iter {c P : Addr} {st : Int} {last : Value} {ix : List Nat} {Q : Value → Shared → Prop} (hc : IsCm s.heap c P st last ix) (h : Q (.ref c) s) : wpAny (model prog w) A (pyIter (.ref c)) Q E s := by
  have hT := IsCm.ty hc
  refine wpAny_pyIter_slot hT slot_iter (wpAny_call_entry slot_iter hT entry_iter ?_ (args_iter _))
  show wpAny _ _ (ret (.ref c)) _ _ s
  exact wpAny_pure ⟨_, rfl, _, _, hT, slot_next.lookup, h⟩
end
end Cm

set_option Elab.async false
set_option linter.all false
set_option maxRecDepth 100000
set_option maxHeartbeats 1000000
namespace Cm
open PySem PySem.Spec PyProof.Rows
/-- the lots that are handed out, one behind the other -/
structure Chain (n k : Nat) (ls : List (List Nat)) : Prop where
  first : n < k ∧ ls = [] ∨ k ≤ n ∧ ls[0]? = some (List.range k)
  next : ∀ i ix, ls[i]? = some ix → ls[i + 1]? = nextC n ix
  len : ∀ ix ∈ ls, ix.length ≤ 1000
  few : ls.length ≤ sizeLine
def CmSt (ls : List (List Nat)) (n k : Nat) (h : Heap) (c P : Addr) (i : Nat) : Prop :=
  (i = 0 ∧ IsCm h c P (if k > n then 2 else 0) .none (List.range k)) ∨ ∃ j ix last, i = j + 1 ∧ ls[j]? = some ix ∧ IsCm h c P 1 last ix
theorem CmSt.keep {ls : List (List Nat)} {n k : Nat} {h h' : Heap} {c P S : Addr} {i : Nat} (x : CmSt ls n k h c P i) (hk : ∀ b o, b ≠ S → h.get? b = some o → h'.get? b = some o) (hc : c ≠ S) : CmSt ls n k h' c P i := by
  rcases x with ⟨e, hx⟩ | ⟨j, ix, last, e, e2, hx⟩
  · exact .inl ⟨e, hk _ _ hc hx⟩
  · exact .inr ⟨j, ix, last, e, e2, hk _ _ hc hx⟩
theorem CmSt.there {ls : List (List Nat)} {n k : Nat} {h : Heap} {c P : Addr} {i : Nat} (x : CmSt ls n k h c P i) : ∃ o : Obj, h.get? c = some o ∧ o.cls = .type "itertools.combinations" := by
  rcases x with ⟨e, hx⟩ | ⟨j, ix, last, e, e2, hx⟩
  · exact ⟨_, hx, rfl⟩
  · exact ⟨_, hx, rfl⟩
structure CG (its : Array Value) (ls : List (List Nat)) (lo : Addr) (h : Heap) (as : List Addr) : Prop where
  rise : as.Pairwise (· < ·)
  above : ∀ a ∈ as, lo < a
  got : ∀ (j : Nat) (a : Addr), as[j]? = some a → ∃ ix, ls[j]? = some ix ∧ h.get? a = some { cls := .type "tuple", data := .seq (ix.map fun i => its.getD i .none).toArray }
theorem CG.there {its : Array Value} {ls : List (List Nat)} {lo : Addr} {h : Heap} {as : List Addr} (g : CG its ls lo h as) {a : Addr} (ha : a ∈ as) : a < h.objs.size := by
  obtain ⟨j, hj⟩ := List.mem_iff_getElem?.mp ha
  obtain ⟨_, _, e⟩ := g.got j a hj
  exact Heap.lt_size e
section
variable {prog : Program} {w : World} {A : Around} {E : Value → Shared → Prop} {s : Shared} {R : Result → Shared → Prop} {ls : List (List Nat)} {n k : Nat} {its : Array Value} {po : Obj} {pn : Nat}
theorem st_item {c P : Addr} {i : Nat} {ix' : List Nat} {Q : Option Value → Shared → Prop} (C : Chain n k ls) (hn : its.size = n) (st : CmSt ls n k s.heap c P i) (hp : s.heap.get? P = some po) (hpd : po.data = .seq its pn) (hne : P ≠ c) (hx : ls[i]? = some ix')
    (hQ : ∀ h', CmSt ls n k h' c P (i + 1) → h'.get? s.heap.objs.size = some { cls := .type "tuple", data := .seq (ix'.map fun i => its.getD i .none).toArray } → h'.objs.size = s.heap.objs.size + 1 →
      (∀ b o, b ≠ c → s.heap.get? b = some o → h'.get? b = some o) → Q (some (.ref s.heap.objs.size)) { s with heap := h' }) : wpAny (model prog w) A (pyNext (.ref c)) Q E s := by
  have hl' := C.len _ (List.mem_of_getElem? hx)
  rcases st with ⟨rfl, h0⟩ | ⟨j, ix, last, rfl, hj, h1⟩
  · rcases C.first with ⟨_, e⟩ | ⟨hk, e⟩
    · rw [e] at hx; cases hx
    · rw [e] at hx
      cases hx
      rw [if_neg (by omega)] at h0
      exact py_item h0 hp hpd hne (.inl ⟨rfl, rfl⟩) (fun h' a1 a2 a3 a4 => hQ h' (.inr ⟨0, _, _, rfl, e, a1⟩) a2 a3 a4) hl' hl'
  · have z := C.next j ix hj
    rw [hx] at z
    exact py_item h1 hp hpd hne (.inr ⟨rfl, by rw [hn]; exact z.symm⟩) (fun h' a1 a2 a3 a4 => hQ h' (.inr ⟨j + 1, _, _, rfl, hx, a1⟩) a2 a3 a4) (C.len _ (List.mem_of_getElem? hj)) hl'
theorem st_done {c P : Addr} {i : Nat} {Q : Option Value → Shared → Prop} (hh : A.handled = none) (C : Chain n k ls) (hn : its.size = n) (st : CmSt ls n k s.heap c P i) (hp : s.heap.get? P = some po) (hpd : po.data = .seq its pn) (hne : P ≠ c) (hx : ls[i]? = none)
    (hQ : ∀ h', (∀ b o, b ≠ c → s.heap.get? b = some o → h'.get? b = some o) → (∃ o, h'.get? c = some o) → Q none { s with heap := h' }) : wpAny (model prog w) A (pyNext (.ref c)) Q E s := by
  rcases st with ⟨rfl, h0⟩ | ⟨j, ix, last, rfl, hj, h1⟩
  · rcases C.first with ⟨hk, e⟩ | ⟨hk, e⟩
    · rw [if_pos (by omega)] at h0
      exact py_end hh h0 hp hpd hne (.inl rfl) hQ
    · rw [e] at hx; cases hx
  · have z := C.next j ix hj
    rw [hx] at z
    exact py_end hh h1 hp hpd hne (.inr ⟨rfl, by rw [hn]; exact z.symm⟩) hQ
theorem cm_loop {S c P : Addr} (hh : A.handled = none) (C : Chain n k ls) (hn : its.size = n) (hSc : c < S) (hSP : P < c) (hpd : po.data = .seq its pn) (res : Value) {h₁ : Heap}
    (hR : ∀ h' tk acc cc as, (∀ b o, b ≠ S → b ≠ c → h₁.get? b = some o → h'.get? b = some o) → (∃ o, h'.get? c = some o) → h'.get? S = some { cls := .type "list", dict := none, data := .seq acc cc, slots := #[] } → as.length = ls.length → CG its ls S h' as →
      acc.toList = as.map Value.ref → R (.ok (.ret res)) { s with heap := h', toks := tk }) :
    ∀ (m i : Nat) (h : Heap) (tk cc : Nat) (acc : Array Value) (as : List Addr), ls.length - i = m → i ≤ ls.length → CmSt ls n k h c P i → h.get? P = some po → (∀ b o, b ≠ S → b ≠ c → h₁.get? b = some o → h.get? b = some o) →
      h.get? S = some { cls := .type "list", dict := none, data := .seq acc cc, slots := #[] } → acc.toList = as.map Value.ref → as.length = i → CG its ls S h as →
      codeAny (model prog w) A (.builtin "list.extend.loop" ⟨[.ref S, .ref c, res], []⟩) R { s with heap := h, toks := tk } := by
  have hne : S ≠ c := Nat.ne_of_gt hSc
  have hPc : P ≠ c := Nat.ne_of_lt hSP
  have hPS : P ≠ S := Nat.ne_of_lt (Nat.lt_trans hSP hSc)
  have few := C.few
  intro m
  induction m with
  | zero =>
    intro i h tk cc acc as hk hi hst hP hkeep hS hacc hal hG
    have hin : i = ls.length := by omega
    refine codeAny_builtin PySem.F.entry_extend_loop ?_
    rw [Around.under_plainId PySem.F.plain_extend_loop _]
    show wpAny _ A.in1 (pyNext (.ref c) >>= _) _ _ _
    refine wpAny_bind (st_done (s := { s with heap := h, toks := tk }) (A := A.in1) hh C hn hst hP hpd hPc (List.getElem?_eq_none (by omega)) fun h' he hec => ?_)
    refine wpAny_pure (hR h' tk acc cc as (fun b o h1 h2 e => he b o h2 (hkeep b o h1 h2 e)) hec (he S _ hne hS) (by omega) ⟨hG.rise, hG.above, fun j a hj => ?_⟩ hacc)
    obtain ⟨ix, e1, e3⟩ := hG.got j a hj
    exact ⟨ix, e1, he a _ (Nat.ne_of_gt (Nat.lt_trans hSc (hG.above a (List.mem_of_getElem? hj)))) e3⟩
  | succ m ih =>
    intro i h tk cc acc as hk hi hst hP hkeep hS hacc hal hG
    have hlt : i < ls.length := by omega
    obtain ⟨ix, hx⟩ : ∃ p, ls[i]? = some p := ⟨ls[i], List.getElem?_eq_getElem hlt⟩
    have hsz : acc.size = i := by rw [← Array.length_toList, hacc, List.length_map, hal]
    refine codeAny_builtin PySem.F.entry_extend_loop ?_
    rw [Around.under_plainId PySem.F.plain_extend_loop _]
    show wpAny _ A.in1 (pyNext (.ref c) >>= _) _ _ _
    refine wpAny_bind (st_item (s := { s with heap := h, toks := tk }) (A := A.in1) C hn hst hP hpd hPc hx fun h' hst' ht hz hkp => ?_)
    dsimp only at ht hz hkp ⊢
    have hS' := hkp S _ hne hS
    have up : ∀ b o, b ≠ S → h'.get? b = some o → (h'.update S (Obj.mapSeq (·.push (Value.ref h.objs.size)))).get? b = some o := fun b o hb e => (Heap.get?_update_other _ _ (Ne.symm hb)).trans e
    have hSl : S < h.objs.size := Heap.lt_size hS
    show wpAny _ A.in1 (updateSeq S (·.push (Value.ref h.objs.size)) >>= _) _ _ _
    refine wpAny_bind ?_
    refine wpAny_updateSeq hS' rfl (wpAny_pure ⟨plainId_quiet PySem.F.plain_extend_loop _, ih (i + 1) _ tk _ (acc.push (Value.ref h.objs.size)) (as ++ [h.objs.size]) (by omega) hlt (hst'.keep up hne.symm) (up P _ hPS (hkp P _ hPc hP))
      (fun b o h1 h2 e => up b o h1 (hkp b o h2 (hkeep b o h1 h2 e))) (Heap.get?_update_self _ hS' rfl) (by rw [Array.toList_push, hacc, List.map_append]; rfl) (by rw [List.length_append, hal]; rfl) ⟨?_, ?_, ?_⟩⟩) (by rw [hsz]; omega) (by show (acc.push (Value.ref h.objs.size)).size ≤ sizeLine + 1; rw [Array.size_push, hsz]; omega)
    · refine List.pairwise_append.mpr ⟨hG.rise, List.pairwise_singleton _ _, fun a ha b hb => ?_⟩
      rw [List.mem_singleton.mp hb]
      exact hG.there ha
    · intro a ha
      rcases List.mem_append.mp ha with ha | ha
      · exact hG.above a ha
      · rw [List.mem_singleton.mp ha]; exact hSl
    · intro j b hj
      rcases Nat.lt_trichotomy j as.length with h1 | h1 | h1
      · rw [List.getElem?_append_left h1] at hj
        obtain ⟨ix', e1, e3⟩ := hG.got j b hj
        have hb := hG.above b (List.mem_of_getElem? hj)
        exact ⟨ix', e1, up b _ (Nat.ne_of_gt hb) (hkp b _ (Nat.ne_of_gt (Nat.lt_trans hSc hb)) e3)⟩
      · subst h1
        have hb : h.objs.size = b := by simpa using hj
        subst hb
        exact ⟨ix, by rw [hal]; exact hx, up _ _ (Nat.ne_of_gt hSl) ht⟩
      · have hnone : (as ++ [h.objs.size])[j]? = none := List.getElem?_eq_none (by rw [List.length_append, List.length_singleton]; omega)
        rw [hnone] at hj; cases hj
end
end Cm

set_option Elab.async false
set_option linter.all false
set_option maxRecDepth 100000
set_option maxHeartbeats 1000000
namespace Cm
open PySem PySem.Spec PyProof.Rows
section
variable {prog : Program} {w : World} {A : Around} {E : Value → Shared → Prop} {s : Shared} {ls : List (List Nat)} {n k : Nat} {its : Array Value} {po : Obj} {pn : Nat} {c P : Addr}
theorem cm_extend {R : Result → Shared → Prop} (hh : A.handled = none) (C : Chain n k ls) (hn : its.size = n) (st : CmSt ls n k s.heap c P 0) (hP : s.heap.get? P = some po) (hpd : po.data = .seq its pn) (hSP : P < c) (S : Addr) (hSc : c < S) (res : Value) (c₀ : Nat) (hS : s.heap.get? S = some { cls := .type "list", data := .seq #[] c₀ })
    (hR : ∀ h' tk acc cc as, (∀ b o, b ≠ S → b ≠ c → s.heap.get? b = some o → h'.get? b = some o) → (∃ o, h'.get? c = some o) → h'.get? S = some { cls := .type "list", dict := none, data := .seq acc cc, slots := #[] } → as.length = ls.length → CG its ls S h' as →
      acc.toList = as.map Value.ref → R (.ok (.ret res)) { s with heap := h', toks := tk }) :
    wpAny (model prog w) A.in1 (Builtin.List.listExtendWith (.ref S) (.ref c) res)
      (fun fin s' => match fin with | .done f => R (.ok f) s' | .again c' => c'.quiet = true ∧ codeAny (model prog w) A c' R s') (fun e s' => R (.error e) s') s := by
  have hPS : P ≠ S := Nat.ne_of_lt (Nat.lt_trans hSP hSc)
  have key : ∀ (h : Heap) (c₁ tk : Nat), (∀ b o, b ≠ S → s.heap.get? b = some o → h.get? b = some o) →
      h.get? S = some { cls := .type "list", data := .seq #[] c₁ } → codeAny (model prog w) A (.builtin "list.extend.loop" ⟨[.ref S, .ref c, res], []⟩) R { s with heap := h, toks := tk } := by
    intro h c₁ tk hk hS₁
    exact cm_loop (s := s) (h₁ := s.heap) hh C hn hSc hSP hpd res hR ls.length 0 h tk c₁ #[] [] (Nat.sub_zero _) (Nat.zero_le _) (st.keep hk (Nat.ne_of_lt hSc)) (hk P _ hPS hP) (fun b o hb _ e => hk b o hb e) hS₁ rfl rfl
      ⟨List.Pairwise.nil, (fun _ ha => nomatch ha), (fun j a hj => by simp at hj)⟩
  have hT : s.TypeIs (.ref c) "itertools.combinations" := by
    obtain ⟨o, e1, e2⟩ := st.there
    exact ⟨o, e1, e2⟩
  unfold Builtin.List.listExtendWith
  refine wpAny_bind (wpAny_typeOf (T := "itertools.combinations") hT ?_)
  have h1 : Builtin.List.listSameRef (.ref S) (.ref c) = false := by simp [Builtin.List.listSameRef, Nat.ne_of_gt hSc]
  have h2 : (Value.type "itertools.combinations" == Value.type "list") = false := by decide
  have h3 : (Value.type "itertools.combinations" == Value.type "tuple") = false := by decide
  simp only [h1, h2, h3, Bool.or_false, Bool.false_eq_true, if_false]
  have it : ∀ {Q : Value → Shared → Prop} {E : Value → Shared → Prop}, Q (.ref c) s → wpAny (model prog w) A.in1 (pyIter (.ref c)) Q E s := fun q => by
    rcases st with ⟨e, hx⟩ | ⟨j, ix, last, e, e2, hx⟩
    · exact py_iter hx q
    · exact py_iter hx q
  refine wpAny_bind (it ?_)
  refine wpAny_bind (wpAny_holding ?_)
  unfold Builtin.List.listLengthHint
  refine wpAny_bind (wpAny_specialOf hT nolen ?_)
  show wpAny _ A.in1 (specialOf (Value.ref c) (Str.ofString "__length_hint__") >>= _) _ _ _
  refine wpAny_bind (wpAny_specialOf hT nohint ?_)
  refine wpAny_pure ?_
  show wpAny _ A.in1 (rule "list.extend.makes-room" >>= fun _ => Builtin.List.listTouch (.ref S) >>= fun _ =>
    again (.builtin "list.extend.loop" ⟨[.ref S, .ref c, res], []⟩)) _ _ _
  refine wpAny_bind (wpAny_rule ?_)
  refine wpAny_bind ?_
  show wpAny _ _ (updateSeq S (·.push .none) >>= fun _ => updateSeq S (·.pop)) _ _ _
  refine wpAny_bind (wpAny_updateSeq hS rfl ?_)
  have hS₂ := Heap.get?_update_self (Obj.mapSeq (·.push Value.none)) hS rfl
  refine wpAny_updateSeq (hz := by seq_fits) hS₂ rfl ?_
  have hS₃ := Heap.get?_update_self (Obj.mapSeq (·.pop)) hS₂ rfl
  refine wpAny_pure ⟨plainId_quiet PySem.F.plain_extend_loop _, key _ _ _ (fun b o hb e => ?_) hS₃⟩
  exact (Heap.get?_update_other _ _ (Ne.symm hb)).trans ((Heap.get?_update_other _ _ (Ne.symm hb)).trans e)
theorem cm_init {R : Result → Shared → Prop} (hh : A.handled = none) (C : Chain n k ls) (hn : its.size = n) (st : CmSt ls n k s.heap c P 0) (hP : s.heap.get? P = some po) (hpd : po.data = .seq its pn) (hSP : P < c) (S : Addr) (hSc : c < S) (hS : s.heap.get? S = some { cls := .type "list", data := .seq #[] })
    (hR : ∀ h' tk acc cc as, (∀ b o, b ≠ S → b ≠ c → s.heap.get? b = some o → h'.get? b = some o) → (∃ o, h'.get? c = some o) → h'.get? S = some { cls := .type "list", dict := none, data := .seq acc cc, slots := #[] } → as.length = ls.length → CG its ls S h' as →
      acc.toList = as.map Value.ref → R (.ok (.ret .none)) { s with heap := h', toks := tk }) :
    wpAny (model prog w) A.in1 (Builtin.«list.__init__» ⟨[.ref S, .ref c], []⟩)
      (fun fin s' => match fin with | .done f => R (.ok f) s' | .again c' => c'.quiet = true ∧ codeAny (model prog w) A c' R s') (fun e s' => R (.error e) s') s := by
  show wpAny _ _ (do let old ← Builtin.List.listItems (.ref S); Builtin.List.listUpdate (.ref S) (fun _ => #[]); letGo old.toList.reverse; Builtin.List.listExtendWith (.ref S) (.ref c) .none) _ _ s
  refine wpAny_bind ?_
  unfold Builtin.List.listItems
  refine wpAny_bind (wpAny_seqItems hS rfl (wpAny_pure ?_))
  show wpAny _ _ (updateSeq S (fun _ => #[]) >>= fun _ => letGo (#[] : Array Value).toList.reverse >>= fun _ => Builtin.List.listExtendWith (.ref S) (.ref c) .none) _ _ s
  refine wpAny_bind (wpAny_updateSeq hS rfl ?_)
  have hS₂ := Heap.get?_update_self (Obj.mapSeq (fun _ => (#[] : Array Value))) hS rfl
  have oth : ∀ b o, b ≠ S → s.heap.get? b = some o → (s.heap.update S (Obj.mapSeq (fun _ => (#[] : Array Value)))).get? b = some o :=
    fun b o hb e => (Heap.get?_update_other _ _ (Ne.symm hb)).trans e
  refine wpAny_bind (wpAny_letGo ?_)
  refine cm_extend (s := { s with heap := s.heap.update S (Obj.mapSeq (fun _ => (#[] : Array Value))) }) hh C hn (st.keep oth (Nat.ne_of_lt hSc)) (oth P _ (Nat.ne_of_lt (Nat.lt_trans hSP hSc)) hP) hpd hSP S hSc .none _ hS₂ (fun h' tk acc cc as hk hec hS' hl hG hacc => ?_)
  exact hR h' tk acc cc as (fun b o hb hc e => hk b o hb hc (oth b o hb e)) hec hS' hl hG hacc
/-- list(a combinations object that has not begun) -/
theorem call_list_cm {Q : Value → Shared → Prop} (hh : A.handled = none) (C : Chain n k ls) (hn : its.size = n) (st : CmSt ls n k s.heap c P 0) (hP : s.heap.get? P = some po) (hpd : po.data = .seq its pn) (hSP : P < c)
    (hQ : ∀ h' tk acc cc as, (∀ b o, b ≠ c → s.heap.get? b = some o → h'.get? b = some o) → (∃ o, h'.get? c = some o) → h'.get? s.heap.objs.size = some { cls := .type "list", dict := none, data := .seq acc cc, slots := #[] } → as.length = ls.length → CG its ls s.heap.objs.size h' as →
      acc.toList = as.map Value.ref → Q (.ref s.heap.objs.size) { s with heap := h', toks := tk }) :
    wpAny (model prog w) A (call (.type "list") [.ref c]) Q E s := by
  refine callType_codes (Q₁ := fun obj s₁ => obj = .ref s.heap.objs.size ∧ s₁ = { s with heap := s.heap.push { cls := .type "list", data := .seq #[] } }) PySem.F.called_list (PySem.F.typeCall_list_1 _) PySem.F.entry_list_init
    (code_list_new _ ⟨rfl, rfl⟩) fun obj s₁ h₁ => ?_
  obtain ⟨rfl, rfl⟩ := h₁
  have hS : (s.heap.push { cls := .type "list", data := .seq #[] }).get? s.heap.objs.size = some { cls := .type "list", data := .seq #[] } := Heap.get?_push_size _ rfl
  have hc : c < s.heap.objs.size := let ⟨_, ho, _⟩ := st.there; Heap.lt_size ho
  refine ⟨⟨_, hS, rfl⟩, PySem.F.args_list_init_2 _ _, cm_init (s := { s with heap := s.heap.push { cls := .type "list", data := .seq #[] } }) (A := A.in1) hh C hn (st.keep (S := s.heap.objs.size) (fun b o _ e => Heap.get?_push_of_some _ e) (Nat.ne_of_lt hc)) (Heap.get?_push_of_some _ hP) hpd hSP _ hc hS (fun h' tk acc cc as hk hec hS' hl hG hacc => ?_)⟩
  exact ⟨rfl, hQ h' tk acc cc as (fun b o hb e => hk b o (Nat.ne_of_lt (Heap.lt_size e)) hb (Heap.get?_push_of_some _ e)) hec hS' hl hG hacc⟩
end
end Cm

set_option Elab.async false
set_option linter.all false
set_option maxRecDepth 100000
set_option maxHeartbeats 1000000
namespace Cm
open PySem PySem.Spec PyProof.Rows L2
section
variable {X : Cx} {pins : List (Addr × Obj)} {σ : L2.St} {H : Hp} {s : Shared}
/-- many new objects laid and tracked at once -/
theorem laidAll {H' : Hp} {h' : Heap} {t' : Nat} (I : Inv X pins σ H s) (k : ∀ b u, s.heap.get? b = some u → h'.get? b = some u) (old : ∀ b, b < s.heap.objs.size → H' b = H b)
    (new : ∀ a o, s.heap.objs.size ≤ a → H' a = some o → ObjOk X.prog X.w H' h' a o) : Inv X pins σ H' { s with heap := h', toks := t' } := by
  have up : ∀ b o, H b = some o → H' b = some o := fun b o e => (old b (I.hok.lt e)).trans e
  refine I.un ⟨fun b o e _ _ _ => k b o e, fun b o e _ _ _ => ⟨o.slots, k b o e⟩, fun b o e n _ => (old b (Heap.lt_size e)).trans n, fun b o e _ => ⟨o, k b o e⟩, fun b xs e => up b _ e, fun b o u e => up b _ e, fun b ps e => ⟨#[], by rw [up b _ e]; simp⟩⟩ fun a o e => ?_
  rcases Nat.lt_or_ge a s.heap.objs.size with l | g
  · rw [old a l] at e
    exact (I.hok a o e).stay (fun c v _ q => k c v q) (fun c q => up _ _ q) fun c xs q => up _ _ q
  · exact new a o g e
/-- the lots as they are tracked -/
def lotV (ix : List Nat) : List V := ix.map fun (i : Nat) => V.int (i : Int)
def layT (H : Hp) : List Addr → List (List Nat) → Hp
  | a :: as, ix :: ls => upd (layT H as ls) a (.tup (lotV ix))
  | _, _ => H
theorem layT_out {H : Hp} {b : Addr} : ∀ {as : List Addr} {ls : List (List Nat)}, b ∉ as → layT H as ls b = H b
  | [], _, _ => rfl
  | a :: as, [], _ => rfl
  | a :: as, ix :: ls, h => by
    unfold layT
    rw [upd_ne (fun e => h (by simp [e])), layT_out fun m => h (by simp [m])]
theorem layT_at {H : Hp} {a : Addr} {ix : List Nat} : ∀ {as : List Addr} {ls : List (List Nat)} {j : Nat}, as.Nodup → as[j]? = some a → ls[j]? = some ix → layT H as ls a = some (.tup (lotV ix))
  | [], _, j, _, e, _ => by simp at e
  | _ :: _, [], j, _, _, e => by simp at e
  | b :: as, y :: ls, 0, _, e, f => by
    cases e
    cases f
    unfold layT
    exact upd_same
  | b :: as, y :: ls, j + 1, nd, e, f => by
    unfold layT
    have m : a ∈ as := List.mem_of_getElem? (i := j) (by simpa using e)
    have ne : a ≠ b := fun z => (List.nodup_cons.mp nd).1 (z ▸ m)
    rw [upd_ne ne]
    exact layT_at (List.nodup_cons.mp nd).2 (by simpa using e) (by simpa using f)
end
section
variable {X : Cx} {a b : Expr} {ta tb : TE} {x : Str}
/-- list(combinations(range(a), b)) -/
def tCm (ta tb : TE) : TE := fun σ H Q => ta σ H fun x H1 => (∃ m, x = .int m) ∧ tb σ H1 fun y H2 => ∃ n k : Nat, x = .int n ∧ y = .int k ∧ n ≤ 1000 ∧ k ≤ 1000 ∧ ∃ ls, Chain n k ls ∧ (∀ ix ∈ ls, ∀ i ∈ ix, i < n) ∧
  ∀ (p : Addr) (as : List Addr) (H' : Hp), H2 p = none → L2.Same H2 H' → H' p = some (.lst (as.map V.ref)) → as.length = ls.length → (∀ (j : Nat) (a : Addr) (ix : List Nat), as[j]? = some a → ls[j]? = some ix → H' a = some (.tup (lotV ix))) → Q (.ref p) H'
theorem range_pin {p pos : Pos} (gr : Gl X "range") (mr : X.mg "range" = none) (ha : PE X a ta) (na : starEach [a] X.env = (false, eval a X.env) :: starEach [] X.env) {pins : List (Addr × Obj)} {s : Shared} {σ : L2.St} {H : Hp} {R : V → Hp → Prop}
    (I : Inv X pins σ H s) (h : ta σ H fun x H1 => (∃ n, x = .int n) ∧ R x H1) :
    wpAny (model X.prog X.w) X.A (eval (.Call (.Name "range" p) [a] [] pos) X.env) (fun z s' => ∃ r n t u v H', z = .ref r ∧ IsRange s'.heap r 0 n 1 t u v ∧ Inv X (pins ++ pinsAt [r] s'.heap) σ H' s' ∧ R (.int n) H') X.xe s := by
  refine Call_ (ld_blt I gr mr boot_range (PyProof.Rows.callWith_type1 (one_arg ha I h (fun v s2 x H2 I2 r q => ?_) na) na))
  obtain ⟨⟨n, rfl⟩, q⟩ := q
  obtain ⟨t, rfl⟩ := r
  refine call_range_1 ?_
  have I3 : Inv X pins σ H2 { s2 with heap := s2.heap.push { cls := .type "range", data := .fields #[.int 0 s2.toks, .int n t, .int 1 (s2.toks + 1)] }, toks := s2.toks + 1 + 1 } := I2.kept fun b u e => Heap.get?_push_of_some _ e
  refine ⟨_, n, _, _, _, H2, rfl, IsRange.new _ _ _ _ _ _ _, ?_, q⟩
  refine I3.pinned (fp := [s2.heap.objs.size]) (fun b hb => ?_) (fun b hb => ?_)
  · rw [List.mem_singleton.mp hb]
    exact I2.fpOk (Nat.le_refl _) (I2.hok.fresh (Nat.le_refl _))
  · rw [List.mem_singleton.mp hb]
    exact ⟨_, Heap.get?_push_size _ rfl, fun v q => nomatch q⟩
end
end Cm

set_option Elab.async false
set_option linter.all false
set_option maxRecDepth 100000
set_option maxHeartbeats 1000000
namespace Cm
open PySem PySem.Spec PyProof.Rows L2
section
variable {X : Cx} {a b : Expr} {ta tb : TE} {x : Str}
/-- combinations(range(a), b): what stands then -/
def Made (X : Cx) (pins : List (Addr × Obj)) (σ : L2.St) (R : Nat → Nat → Hp → Prop) (z : Value) (s' : Shared) : Prop :=
  ∃ (c P : Addr) (n k : Nat) (acc : Array Value) (H2 : Hp), z = .ref c ∧ IsCm s'.heap c P (if k > n then 2 else 0) .none (List.range k) ∧ s'.heap.get? P = some { cls := .type "tuple", data := .seq acc } ∧ P < c ∧ FpOk X pins H2 c ∧ Inv X pins σ H2 s' ∧
    ItemsOf (fun i v => ∃ t, v = .int (0 + i * 1) t) acc n ∧ R n k H2
theorem made {p1 p2 pos1 pos2 : Pos} (hc : X.calm = true) (gx : Gl X x) (mx : X.mg x = some (.type "itertools.combinations")) (gr : Gl X "range") (mr : X.mg "range" = none) (ha : PE X a ta) (hb : PE X b tb)
    (hdb : (x == ("__debug__" : Str)) = false)
    (na : starEach [a] X.env = (false, eval a X.env) :: starEach [] X.env) (nb : starEach [b] X.env = (false, eval b X.env) :: starEach [] X.env)
    (nab : starEach [Expr.Call (.Name "range" p2) [a] [] pos2, b] X.env = (false, eval (.Call (.Name "range" p2) [a] [] pos2) X.env) :: starEach [b] X.env) (hp : (backTo pos1 (starEach [b] X.env)).any (·.1) = false)
    {pins : List (Addr × Obj)} {s : Shared} {σ : L2.St} {H : Hp} {R : Nat → Nat → Hp → Prop} (I : Inv X pins σ H s)
    (h : ta σ H fun x H1 => (∃ m, x = .int m) ∧ tb σ H1 fun y H2 => ∃ n k : Nat, x = .int n ∧ y = .int k ∧ n ≤ 1000 ∧ k ≤ 1000 ∧ R n k H2) :
    wpAny (model X.prog X.w) X.A (eval (.Call (.Name x p1) [.Call (.Name "range" p2) [a] [] pos2, b] [] pos1) X.env) (Made X pins σ R) X.xe s := by
  refine Call_ (ld_glob I gx mx (PyProof.Rows.callWith_type1 (args_cons (thn (range_pin (R := fun v H1 => tb σ H1 fun y H2 => ∃ n k : Nat, v = .int n ∧ y = .int k ∧ n ≤ 1000 ∧ k ≤ 1000 ∧ R n k H2) gr mr ha na I h) fun v s1 ⟨r, m, t, u, w1, H1, er, hr, I1, q1⟩ => one_arg hb I1 q1 (fun u2 s2 y H2 I2 r2 q => ?_) nb) nab) nab hp) hdb)
  obtain ⟨n, k, en, rfl, ln, lk, q⟩ := q
  cases en
  obtain ⟨tk, rfl⟩ := r2
  have hr2 : IsRange s2.heap r 0 n 1 t u w1 := (I2.pin _ (List.mem_append_right _ (List.mem_append_right _ (mem_pinsAt (List.mem_singleton.mpr rfl) hr)))).1
  have I2' : Inv X pins σ H2 s2 := I2.unpinned
  subst er
  refine call_cm (I2.ok.hd hc) hr2 (small_one (by omega) (by omega) (by omega) (by omega)) (n := n) ?_ (by omega) (by omega) fun h' tk' acc hk hacc => ?_
  · rw [rangeSize_nat]
    omega
  have I3 : Inv X pins σ H2 { s2 with heap := h', toks := tk' } := I2'.kept hk
  have e1 : (cmP h' acc).objs.size = h'.objs.size + 1 := Heap.size_push ..
  have z : IsCm (cmR h' acc (if k > n then 2 else 0) k) (cmP h' acc).objs.size h'.objs.size (if k > n then 2 else 0) .none (List.range k) := Heap.get?_push_size _ rfl
  rw [e1] at z
  refine ⟨h'.objs.size + 1, h'.objs.size, n, k, acc, H2, rfl, z, Heap.get?_push_of_some _ (Heap.get?_push_size _ rfl), Nat.lt_succ_self _, I3.fpOk (Nat.le_succ _) (I3.hok.fresh (Nat.le_succ _)), ?_, hacc, q⟩
  exact I3.kept fun b o e => Heap.get?_push_of_some _ (Heap.get?_push_of_some _ e)
theorem refs : ∀ as : List Addr, Vals (as.map V.ref) (as.map Value.ref)
  | [] => .nil
  | a :: as => .cons rfl (refs as)
theorem intsV {acc : Array Value} {n : Nat} (h : ItemsOf (fun i v => ∃ t, v = .int (0 + i * 1) t) acc n) : ∀ {ix : List Nat}, (∀ i ∈ ix, i < n) → Vals (lotV ix) (ix.map fun i => acc.getD i .none)
  | [], _ => .nil
  | i :: ix, b => by
    refine .cons ?_ (intsV h fun j hj => b j (by simp [hj]))
    have hi : i < acc.size := by rw [h.1]; exact b i (by simp)
    obtain ⟨t, e⟩ := h.2 i acc[i] (Array.getElem?_eq_getElem hi)
    have e2 : acc.getD i .none = acc[i] := by
      rw [Array.getD_eq_getD_getElem?, Array.getElem?_eq_getElem hi]
      rfl
    show RelV (V.int (i : Int)) (acc.getD i .none)
    rw [e2, e]
    exact ⟨t, by rw [Int.mul_one, Int.zero_add]⟩
theorem pe_listCm {p p1 p2 pos pos1 pos2 : Pos} (hc : X.calm = true) (gl : Gl X "list") (ml : X.mg "list" = none) (gx : Gl X x) (mx : X.mg x = some (.type "itertools.combinations")) (gr : Gl X "range") (mr : X.mg "range" = none) (ha : PE X a ta) (hb : PE X b tb)
    (hdb : (x == ("__debug__" : Str)) = false := by decide)
    (na : starEach [a] X.env = (false, eval a X.env) :: starEach [] X.env := by rfl) (nb : starEach [b] X.env = (false, eval b X.env) :: starEach [] X.env := by rfl)
    (nab : starEach [Expr.Call (.Name "range" p2) [a] [] pos2, b] X.env = (false, eval (.Call (.Name "range" p2) [a] [] pos2) X.env) :: starEach [b] X.env := by rfl) (hp : (backTo pos1 (starEach [b] X.env)).any (·.1) = false := by rfl)
    (nl : starEach [Expr.Call (.Name x p1) [.Call (.Name "range" p2) [a] [] pos2, b] [] pos1] X.env = (false, eval (.Call (.Name x p1) [.Call (.Name "range" p2) [a] [] pos2, b] [] pos1) X.env) :: starEach [] X.env := by rfl) :
    PE X (.Call (.Name "list" p) [.Call (.Name x p1) [.Call (.Name "range" p2) [a] [] pos2, b] [] pos1] [] pos) (tCm ta tb) := by
  refine ⟨fun pins s σ H Q I h => ?_⟩
  refine Call_ (ld_blt I gl ml boot_list (PyProof.Rows.callWith_type1 (args_cons (thn (made (R := fun n k H2 => ∃ ls, Chain n k ls ∧ (∀ ix ∈ ls, ∀ i ∈ ix, i < n) ∧
    ∀ (p : Addr) (as : List Addr) (H' : Hp), H2 p = none → L2.Same H2 H' → H' p = some (.lst (as.map V.ref)) → as.length = ls.length → (∀ (j : Nat) (a : Addr) (ix : List Nat), as[j]? = some a → ls[j]? = some ix → H' a = some (.tup (lotV ix))) → Q (.ref p) H') hc gx mx gr mr ha hb hdb na nb nab hp I ?_)
    fun z s1 ⟨c, P, n, k, acc, H2, ez, hcm, hP, lt, fp, I1, hacc, q⟩ => args_nil ?_) nl) nl))
  · exact h
  · subst ez
    obtain ⟨ls, C, inr, q⟩ := q
    refine call_list_cm (I1.ok.hd hc) C hacc.1 (.inl ⟨rfl, hcm⟩) hP rfl lt fun h' tk acc' cc as hk hec hS hl hG hacc' => ?_
    obtain ⟨oc, hoc⟩ := hec
    have hfr : oc.isFreed = false := (Heap.get?_some_iff.mp hoc).2
    have gc : (s1.heap.update c (fun _ => oc)).get? c = some oc := Heap.get?_update_self (fun _ => oc) hcm hfr
    have go : ∀ b, b ≠ c → (s1.heap.update c (fun _ => oc)).get? b = s1.heap.get? b := fun b hb => Heap.get?_update_other _ _ (Ne.symm hb)
    have gz : (s1.heap.update c (fun _ => oc)).objs.size = s1.heap.objs.size := Heap.size_update ..
    generalize s1.heap.update c (fun _ => oc) = G at *
    have IG : Inv X pins σ H2 { s1 with heap := G, toks := s1.toks } := I1.turnedL (ch := [c]) (fun b o hb e => (go b (fun z => hb (by simp [z]))).trans e) (fun b hb => by rw [List.mem_singleton.mp hb]; exact fp)
    have nS : s1.heap.objs.size ∉ as := fun m => Nat.lt_irrefl _ (hG.above _ m)
    have nd : as.Nodup := hG.rise.imp fun h => Nat.ne_of_lt h
    have small : ∀ b, b < s1.heap.objs.size → b ∉ as := fun b hb m => Nat.lt_asymm hb (hG.above b m)
    obtain ⟨H', eH⟩ : ∃ H', H' = upd (layT H2 as ls) s1.heap.objs.size (.lst (as.map V.ref)) := ⟨_, rfl⟩
    have atS : H' s1.heap.objs.size = some (.lst (as.map V.ref)) := by rw [eH]; exact upd_same
    have out : ∀ b, b ≠ s1.heap.objs.size → b ∉ as → H' b = H2 b := fun b hb hn => by rw [eH, upd_ne hb, layT_out hn]
    have atT : ∀ (j : Nat) (a : Addr) (ix : List Nat), as[j]? = some a → ls[j]? = some ix → H' a = some (.tup (lotV ix)) := fun j a ix e f => by
      have m := List.mem_of_getElem? e
      have ne : a ≠ s1.heap.objs.size := fun z => nS (z ▸ m)
      rw [eH, upd_ne ne, layT_at nd e f]
    have I' : Inv X pins σ H' { s1 with heap := h', toks := tk } := by
      refine laidAll (s := { s1 with heap := G, toks := s1.toks }) IG (fun b u e => ?_) (fun b hb => ?_) fun a o ha e => ?_
      · by_cases hb : b = c
        · subst hb
          rw [gc] at e
          cases e
          exact hoc
        · rw [go b hb] at e
          exact hk b u hb e
      · have hb' : b < s1.heap.objs.size := by rw [← gz]; exact hb
        exact out b (Nat.ne_of_lt hb') (small b hb')
      · have ha' : s1.heap.objs.size ≤ a := by rw [← gz]; exact ha
        by_cases h1 : a = s1.heap.objs.size
        · subst h1
          rw [atS] at e
          cases e
          refine show ObjOk X.prog X.w _ _ _ (.lst (as.map V.ref)) from ⟨?_, acc'.toList, cc, ?_, ?_⟩
          · rw [List.length_map, hl]
            exact C.few
          · rw [hacc']
            exact refs as
          · rw [Array.toArray_toList]
            exact hS
        · by_cases h2 : a ∈ as
          · obtain ⟨j, hj⟩ := List.mem_iff_getElem?.mp h2
            obtain ⟨ix, e1, e3⟩ := hG.got j a hj
            rw [atT j a ix hj e1] at e
            cases e
            have m := List.mem_of_getElem? e1
            refine show ObjOk X.prog X.w _ _ _ (.tup (lotV ix)) from ⟨?_, ix.map fun i => acc.getD i .none, intsV hacc (inr ix m), ⟨_, e3, rfl, _, rfl⟩⟩
            have := C.len ix m
            unfold lotV
            rw [List.length_map, sizeLine_eq]
            omega
          · rw [out a h1 h2, I1.hok.fresh ha'] at e
            cases e
    have fresh := I1.hok.fresh (Nat.le_refl s1.heap.objs.size)
    refine ⟨.ref s1.heap.objs.size, H', I', rfl, q _ as H' fresh (fun b o e => ?_) atS hl atT⟩
    have lb := I1.hok.lt e
    exact (out b (Nat.ne_of_lt lb) (small b lb)).trans e
end
end Cm

set_option Elab.async false
set_option linter.all false
set_option maxRecDepth 100000
set_option maxHeartbeats 1000000
/-! list(d.keys()), d a dict with tuple keys -/
namespace Cm
open PySem PySem.Spec PyProof.Rows L2
section
theorem meets_keys_raw {prog : Program} {w : World} (d : Addr) (hd : (d == sysModules) = false) :
    MeetsIn prog w (Builtin.«dict.keys» ⟨[.ref d], []⟩) (fun _ R s => s.TypeIs (.ref d) "dict" ∧
      R (.ok (.ret (.ref s.heap.objs.size))) { s with heap := s.heap.push { cls := .type "dict_keys", data := .fields #[.ref d] } }) :=
  .of_wp fun A R s ⟨hm, h⟩ => by
    refine wpAny_bind ?_
    unfold Builtin.Dict.noArgs
    refine wpAny_bind (wpAny_notOrdered_dict hm ?_)
    show wpAny _ _ (pure d) _ _ s
    refine wpAny_pure ?_
    show wpAny _ _ (Builtin.Dict.showsAll d >>= _) _ _ s
    unfold Builtin.Dict.showsAll
    rw [if_neg (by rw [hd]; exact Bool.false_ne_true)]
    refine wpAny_bind (wpAny_pure ?_)
    exact wpAny_bind (wpAny_newObj_type (wpAny_pure ⟨_, rfl, h⟩))
variable {X : Cx} {e : Expr} {td : TE}
/-- its reading -/
def tLKT (K : PySem.W.Frag) (td : TE) : TE := fun σ H Q => td σ H fun x H1 => ∃ d kvs, x = .ref d ∧ Rd H1 d (.dT kvs) ∧ ∀ p bs, H1 p = none → IsKeys H1 kvs bs → Q (.ref p) (upd H1 p (.lst (bs.map V.ref)))
theorem pe_listKeysT {p pos apos cpos : Pos} (hc : X.calm = true) (gl : Gl X "list") (ml : X.mg "list" = none) (he : PE X e td)
    (hbase : attributeBase e "keys" X.env (eval e X.env) = eval e X.env := by rfl) (hline : (apos.endLine == cpos.line) = true := by rfl)
    (nl : starEach [Expr.Call (.Attribute e "keys" apos) [] [] cpos] X.env = (false, eval (.Call (.Attribute e "keys" apos) [] [] cpos) X.env) :: starEach [] X.env := by rfl) :
    PE X (.Call (.Name "list" p) [.Call (.Attribute e "keys" apos) [] [] cpos] [] pos) (tLKT X.K td) := by
  refine ⟨fun pins s σ H Q I h => ?_⟩
  refine Call_ (ld_blt I gl ml boot_list (PyProof.Rows.callWith_type1 (args_cons ?_ nl) nl))
  refine wpAny_Call_method (T := "dict") (id := "dict.keys") hbase rfl hline F.plainAttrs_dict F.slot_dict_keys F.type_dict_keys (thn (he.run pins s σ H _ I h) fun u s1 ⟨x, H1, I1, rx, d, kvs, ex, hd, q⟩ => ?_)
  subst ex
  obtain rfl : u = Value.ref d := rx
  obtain ⟨z, hs, ks, pr, o, es, ep, ho, hx, hdt, hes, hn⟩ := (show ObjOk X.prog X.w H1 s1.heap d (.dT kvs) from hd.ok I1.hok)
  have hT : s1.TypeIs (.ref d) "dict" := ⟨o, ho, hx.1⟩
  refine ⟨hT, ?_, ?_⟩
  · intro a ea
    cases ea
    exact ⟨o, ho, hx.2.1⟩
  have I2 : Inv X pins σ H1 { s1 with heap := s1.heap.push { cls := .type "dict_keys", data := .fields #[.ref d] } } := I1.kept (t' := s1.toks) fun b ob q => Heap.get?_push_of_some _ q
  show wpAny _ _ (callWith cpos (.builtin "dict.keys") [.ref d] [] []) _ X.xe s1
  refine method_meetsIn F.slot_dict_keys F.entry_dict_keys rfl (PySem.evalArgs_none ⟨rfl, hT, F.args_dict_keys_1 _, _, meets_keys_raw d hs, hT, ?_⟩)
  refine args_nil ?_
  have l1 : es.size = ks.length := size_of_entries hes
  have l2 : kvs.length = ks.length := Paired.length pr
  have hv : PySem.W.KdlKeysView (s1.heap.push { cls := .type "dict_keys", data := .fields #[.ref d] }) s1.heap.objs.size d := ⟨_, Heap.get?_push_size _ rfl, rfl, rfl⟩
  refine PySem.W.kdl_call (PySem.KdlSrc.rawKeys (r := s1.heap.objs.size) (d := d) (es := es) (ep := ep)) (I.ok.hd hc) ⟨hv, ⟨o, Heap.get?_push_of_some _ ho, hx, hdt⟩⟩ (by omega) fun h' tk acc' c' kp e it => ?_
  have ea : acc'.toList = ks.map fun x => Value.ref x.2.1 := by
    have hl : acc'.toList.length = ks.length := by rw [Array.length_toList, it.1]; exact l1
    apply List.ext_getElem?
    intro j
    rw [List.getElem?_map]
    cases hj : acc'.toList[j]? with
    | none =>
      have h1 := List.getElem?_eq_none_iff.mp hj
      rw [List.getElem?_eq_none (by omega)]
      all_goals rfl
    | some v =>
      obtain ⟨hi, hv⟩ := it.2 j v (by rw [← Array.getElem?_toList]; exact hj)
      have hen : es[j]? = some es[j] := Array.getElem?_eq_getElem hi
      have qe := entry_at hes j
      rw [hen] at qe
      cases hb : ks[j]? with
      | none =>
        rw [hb] at qe
        exact nomatch (show some es[j] = none from qe)
      | some b =>
        rw [hb] at qe
        have e2 : es[j] = entryOfKey (tupleKind (mixKind X.prog X.w)) b := Option.some.inj qe
        rw [hv, e2]
        all_goals rfl
  have eb : acc'.toList = (ks.map fun x => x.2.1).map Value.ref := by rw [ea, List.map_map]; all_goals rfl
  have rv : Vals ((ks.map fun x => x.2.1).map V.ref) acc'.toList := by rw [eb]; exact vals_refs _
  have hz : ((ks.map fun x => x.2.1).map V.ref).length ≤ sizeLine := by rw [List.length_map, List.length_map]; omega
  have fr : H1 (s1.heap.objs.size + 1) = none := I1.hok.fresh (Nat.le_succ _)
  have e1 : (s1.heap.push { cls := .type "dict_keys", data := .fields #[.ref d] }).objs.size = s1.heap.objs.size + 1 := Heap.size_push ..
  refine ⟨.ref (s1.heap.push { cls := .type "dict_keys", data := .fields #[.ref d] }).objs.size, _, I2.laid (t' := tk) (o := .lst ((ks.map fun x => x.2.1).map V.ref)) kp (Nat.le_refl _) ?_, rfl, q _ _ (by rw [e1]; exact fr) (isKeys_of pr)⟩
  exact ⟨hz, acc'.toList, c', rv, by rw [Array.toArray_toList]; exact e⟩
end
end Cm
namespace Sx
open PySem L2
section
variable {H : Hp} {Q : VK} {σ : L2.St} {td : TE} {K : PySem.W.Frag}
theorem s_lkt (h : td σ H fun x H1 => ∃ d kvs, x = .ref d ∧ Rd H1 d (.dT kvs) ∧ ∀ p bs, H1 p = none → IsKeys H1 kvs bs → Q (.ref p) (upd H1 p (.lst (bs.map V.ref)))) : Cm.tLKT K td σ H Q := h
end
end Sx

set_option Elab.async false
set_option linter.all false
set_option maxRecDepth 100000
set_option maxHeartbeats 1000000
/-! list(d.values()), d a dict with int or text keys -/
namespace Cm
open PySem PySem.Spec PyProof.Rows L2
section
variable {X : Cx} {e : Expr} {td : TE}
theorem vals_snd : ∀ {kvs : List (Key × V)} {vs : List (Key × Value)}, KV kvs vs → Vals (kvs.map (·.2)) (vs.map (·.2))
  | _, _, .nil => .nil
  | _, _, .cons h t => .cons h.2 (vals_snd t)
/-- its reading -/
def tLV (td : TE) : TE := fun σ H Q => td σ H fun x H1 => ∃ d kvs, x = .ref d ∧ H1 d = some (.dK kvs) ∧ ∀ p, H1 p = none → Q (.ref p) (upd H1 p (.lst (kvs.map (·.2))))
theorem pe_listVals {p pos apos cpos : Pos} (hc : X.calm = true) (gl : Gl X "list") (ml : X.mg "list" = none) (he : PE X e td)
    (hbase : attributeBase e "values" X.env (eval e X.env) = eval e X.env := by rfl) (hline : (apos.endLine == cpos.line) = true := by rfl)
    (nl : starEach [Expr.Call (.Attribute e "values" apos) [] [] cpos] X.env = (false, eval (.Call (.Attribute e "values" apos) [] [] cpos) X.env) :: starEach [] X.env := by rfl) :
    PE X (.Call (.Name "list" p) [.Call (.Attribute e "values" apos) [] [] cpos] [] pos) (tLV td) := by
  refine ⟨fun pins s σ H Q I h => ?_⟩
  refine Call_ (ld_blt I gl ml boot_list (PyProof.Rows.callWith_type1 (args_cons ?_ nl) nl))
  refine wpAny_Call_method (T := "dict") (id := "dict.values") hbase rfl hline F.plainAttrs_dict F.slot_dict_values F.type_dict_values (thn (he.run pins s σ H _ I h) fun u s1 ⟨x, H1, I1, rx, d, kvs, ex, hd, q⟩ => ?_)
  subst ex
  obtain rfl : u = Value.ref d := rx
  obtain ⟨z, hs, vs, rel, dof⟩ := dk_of I1.hok hd
  obtain ⟨es, ep, raw, esz, at'⟩ := dof.raw
  have hT : s1.TypeIs (.ref d) "dict" := dof.typeIs
  refine ⟨hT, dof.mapOf.noDict, ?_⟩
  have I2 : Inv X pins σ H1 { s1 with heap := s1.heap.push { cls := .type "dict_values", data := .fields #[.ref d] } } := I1.kept (t' := s1.toks) fun b ob q => Heap.get?_push_of_some _ q
  show wpAny _ _ (callWith cpos (.builtin "dict.values") [.ref d] [] []) _ X.xe s1
  refine method_meetsIn F.slot_dict_values F.entry_dict_values rfl (PySem.evalArgs_none ⟨rfl, hT, F.args_dict_values_1 _, _, meets_dict_values (mixKind X.prog X.w) d hs, ⟨vs, dof⟩, ?_⟩)
  refine args_nil ?_
  have l2 : kvs.length = vs.length := Paired.length rel
  have hv : (s1.heap.push { cls := .type "dict_values", data := .fields #[.ref d] }).IsValuesView s1.heap.objs.size d := ⟨_, Heap.get?_push_size _ rfl, rfl, rfl⟩
  refine PySem.W.kdl_call (KdlSrc.rawValues (r := s1.heap.objs.size) (d := d) (es := es) (ep := ep)) (I.ok.hd hc) ⟨hv, raw.push _⟩ (by omega) fun h' tk acc' c' kp e it => ?_
  have rv : Vals (kvs.map (·.2)) acc'.toList := by
    have ea : acc'.toList = vs.map (·.2) := by
      have hl : acc'.toList.length = vs.length := by rw [Array.length_toList, it.1]; exact esz
      apply List.ext_getElem?
      intro j
      rw [List.getElem?_map]
      cases hj : acc'.toList[j]? with
      | none =>
        have h1 := List.getElem?_eq_none_iff.mp hj
        rw [List.getElem?_eq_none (by omega)]
        rfl
      | some v =>
        obtain ⟨hi, hv⟩ := it.2 j v (by rw [← Array.getElem?_toList]; exact hj)
        have hk : vs[j]? = some vs[j] := List.getElem?_eq_getElem (by omega)
        have := (at' j hi vs[j].1 vs[j].2 hk).2
        rw [hk, hv, this]
        rfl
    rw [ea]
    exact vals_snd rel
  have hz : (kvs.map (·.2)).length ≤ sizeLine := by rw [List.length_map]; exact z
  have fr : H1 (s1.heap.objs.size + 1) = none := I1.hok.fresh (Nat.le_succ _)
  have e1 : (s1.heap.push { cls := .type "dict_values", data := .fields #[.ref d] }).objs.size = s1.heap.objs.size + 1 := Heap.size_push ..
  refine ⟨.ref (s1.heap.push { cls := .type "dict_values", data := .fields #[.ref d] }).objs.size, _, I2.laid (t' := tk) (o := .lst (kvs.map (·.2))) kp (Nat.le_refl _) ?_, rfl, q _ (by rw [e1]; exact fr)⟩
  exact ⟨hz, acc'.toList, c', rv, by rw [Array.toArray_toList]; exact e⟩
end
end Cm
namespace Sx
open PySem L2
section
variable {H : Hp} {Q : VK} {σ : L2.St} {td : TE}
theorem s_lv (h : td σ H fun x H1 => ∃ d kvs, x = .ref d ∧ H1 d = some (.dK kvs) ∧ ∀ p, H1 p = none → Q (.ref p) (upd H1 p (.lst (kvs.map (·.2))))) : Cm.tLV td σ H Q := h
end
end Sx

set_option Elab.async false
set_option linter.all false
set_option maxRecDepth 100000
set_option maxHeartbeats 1000000
/-! len(d), d a dict with int or text keys -/
namespace L2
open PySem PySem.Spec PyProof.Rows
section
variable {X : Cx}
def rLenD : List V → Hp → VK → Prop := fun xs H Q => ∃ (a : Addr) (kvs : List (Key × V)), xs = [.ref a] ∧ H a = some (.dK kvs) ∧ Q (.int (kvs.length : Nat)) H
theorem cr_lenD : CallR X (.builtin "len") rLenD := by
  intro pins s σ H xs us Q I r h
  obtain ⟨a, kvs, rfl, ha, q⟩ := h
  rw [Vals.ref1 r]
  exact d_len I (Rd.of ha) fun t s' I' => ⟨.int kvs.length, H, I', ⟨_, rfl⟩, q⟩
end
end L2

set_option Elab.async false
set_option linter.all false
/-! how many pairs of numbers differ at one bit alone -/
namespace Ct
/-- from a one step up at the p-th of n bits (0 the highest) -/
abbrev Up (n : Nat) (S : List Nat) (a p : Nat) : Prop := a / 2 ^ (n - 1 - p) % 2 = 0 ∧ a + 2 ^ (n - 1 - p) ∈ S
def cnt (n : Nat) (S : List Nat) (a : Nat) : Nat := ((List.range n).filter fun p => decide (Up n S a p)).length
def edges (n : Nat) (S : List Nat) : Nat := (S.map (cnt n S)).sum
def ones : Nat → Nat
  | 0 => 0
  | k + 1 => ones ((k + 1) / 2) + (k + 1) % 2
decreasing_by omega
def pops : List Nat := [0,1,1,2,1,2,2,3,1,2,2,3,2,3,3,4,1,2,2,3,2,3,3,4,2,3,3,4,3,4,4,5]
/-- the most pairs among m numbers -/
def F (m : Nat) : Nat := (pops.take m).sum
theorem F_split : ∀ a, a ≤ 32 → ∀ b, b ≤ 32 → a + b ≤ 32 → F a + F b + min a b ≤ F (a + b) := by
  have z : ((List.range 33).all fun a => (List.range 33).all fun b => !decide (a + b ≤ 32) || decide (F a + F b + min a b ≤ F (a + b))) = true := by decide +kernel
  intro a ha b hb h
  have z1 := List.all_eq_true.mp z a (List.mem_range.mpr (by omega))
  have z2 := List.all_eq_true.mp z1 b (List.mem_range.mpr (by omega))
  simpa [h] using z2
theorem sum_split (f : Nat → Nat) (t : Nat) : ∀ S : List Nat, (S.map f).sum = ((S.filter fun a => decide (a < t)).map f).sum + ((S.filter fun a => decide (t ≤ a)).map f).sum
  | [] => rfl
  | a :: S => by
    have ih := sum_split f t S
    rw [List.map_cons, List.sum_cons, ih]
    by_cases h : a < t
    · rw [List.filter_cons_of_pos (by simpa using h), List.filter_cons_of_neg (by simp; omega), List.map_cons, List.sum_cons]
      omega
    · rw [List.filter_cons_of_neg (by simpa using h), List.filter_cons_of_pos (by simp; omega), List.map_cons, List.sum_cons]
      omega
theorem len_split (t : Nat) : ∀ S : List Nat, S.length = (S.filter fun a => decide (a < t)).length + (S.filter fun a => decide (t ≤ a)).length
  | [] => rfl
  | a :: S => by
    have ih := len_split t S
    rw [List.length_cons, ih]
    by_cases h : a < t
    · rw [List.filter_cons_of_pos (by simpa using h), List.filter_cons_of_neg (by simp; omega), List.length_cons]
      omega
    · rw [List.filter_cons_of_neg (by simpa using h), List.filter_cons_of_pos (by simp; omega), List.length_cons]
      omega
/-- one more at a place that was 0 stays below -/
theorem up_lt {n k a : Nat} (hk : k < n) (ha : a < 2 ^ n) (b : a / 2 ^ k % 2 = 0) : a + 2 ^ k < 2 ^ n := by
  obtain ⟨m, rfl⟩ : ∃ m, n = k + 1 + m := ⟨n - (k + 1), by omega⟩
  have p0 : 0 < 2 ^ k := Nat.pow_pos (by decide)
  have e : 2 ^ (k + 1 + m) = 2 ^ k * (2 * 2 ^ m) := by rw [Nat.pow_add, Nat.pow_succ, Nat.mul_assoc]
  rw [e] at ha ⊢
  have q : a / 2 ^ k < 2 * 2 ^ m := Nat.div_lt_of_lt_mul ha
  have q2 : a / 2 ^ k + 2 ≤ 2 * 2 ^ m := by omega
  have r := Nat.div_add_mod a (2 ^ k)
  have s := Nat.mod_lt a p0
  have t := Nat.mul_le_mul_left (2 ^ k) q2
  rw [Nat.mul_add] at t
  omega
theorem bit_low {n k a : Nat} (hk : k < n) (ha : 2 ^ n ≤ a) : (a - 2 ^ n) / 2 ^ k % 2 = a / 2 ^ k % 2 := by
  obtain ⟨m, rfl⟩ : ∃ m, n = k + 1 + m := ⟨n - (k + 1), by omega⟩
  have p0 : 0 < 2 ^ k := Nat.pow_pos (by decide)
  have e : 2 ^ (k + 1 + m) = 2 ^ k * (2 * 2 ^ m) := by rw [Nat.pow_add, Nat.pow_succ, Nat.mul_assoc]
  rw [e] at ha ⊢
  obtain ⟨b, rfl⟩ : ∃ b, a = b + 2 ^ k * (2 * 2 ^ m) := ⟨a - 2 ^ k * (2 * 2 ^ m), by omega⟩
  rw [Nat.add_sub_cancel, Nat.add_mul_div_left _ _ p0]
  omega
theorem cnt_succ (n : Nat) (S : List Nat) (a : Nat) : cnt (n + 1) S a = (if a / 2 ^ n % 2 = 0 ∧ a + 2 ^ n ∈ S then 1 else 0) + ((List.range n).filter fun p => decide (a / 2 ^ (n - 1 - p) % 2 = 0 ∧ a + 2 ^ (n - 1 - p) ∈ S)).length := by
  unfold cnt
  have ef : (fun p => decide (Up (n + 1) S a p)) ∘ Nat.succ = fun p => decide (a / 2 ^ (n - 1 - p) % 2 = 0 ∧ a + 2 ^ (n - 1 - p) ∈ S) := funext fun p => by
    have e : n + 1 - 1 - (p + 1) = n - 1 - p := by omega
    show decide (a / 2 ^ (n + 1 - 1 - (p + 1)) % 2 = 0 ∧ a + 2 ^ (n + 1 - 1 - (p + 1)) ∈ S) = _
    rw [e]
  rw [List.range_succ_eq_map, List.filter_cons, List.filter_map, ef]
  by_cases h : a / 2 ^ n % 2 = 0 ∧ a + 2 ^ n ∈ S
  · have h0 : decide (Up (n + 1) S a 0) = true := decide_eq_true h
    rw [if_pos h0, if_pos h, List.length_cons, List.length_map, Nat.add_comm]
  · have h0 : ¬ decide (Up (n + 1) S a 0) = true := fun z => h (of_decide_eq_true z)
    rw [if_neg h0, if_neg h, List.length_map, Nat.zero_add]
theorem ind_sum (p : Nat → Bool) : ∀ L : List Nat, (L.map fun a => if p a = true then 1 else 0).sum = (L.filter p).length
  | [] => rfl
  | a :: L => by
    rw [List.map_cons, List.sum_cons, ind_sum p L, List.filter_cons]
    split
    · rw [List.length_cons]
      omega
    · omega
theorem sum_add (f g : Nat → Nat) : ∀ L : List Nat, (L.map fun a => f a + g a).sum = (L.map f).sum + (L.map g).sum
  | [] => rfl
  | a :: L => by
    rw [List.map_cons, List.sum_cons, sum_add f g L, List.map_cons, List.map_cons, List.sum_cons, List.sum_cons]
    omega
theorem edges_le : ∀ (n : Nat) (S : List Nat), S.Nodup → (∀ a ∈ S, a < 2 ^ n) → S.length ≤ 32 → edges n S ≤ F S.length
  | 0, S, _, _, _ => by
    have e : ∀ a, cnt 0 S a = 0 := fun a => rfl
    have z : ∀ L : List Nat, (L.map (cnt 0 S)).sum = 0 := fun L => by
      induction L with
      | nil => rfl
      | cons a L ih => rw [List.map_cons, List.sum_cons, ih, e]
    show (S.map (cnt 0 S)).sum ≤ _
    rw [z]
    exact Nat.zero_le _
  | n + 1, S, nd, lt, sz => by
    obtain ⟨S0, e0⟩ : ∃ S0, S0 = S.filter fun a => decide (a < 2 ^ n) := ⟨_, rfl⟩
    obtain ⟨Sg, eg⟩ : ∃ Sg, Sg = S.filter fun a => decide (2 ^ n ≤ a) := ⟨_, rfl⟩
    obtain ⟨S1, e1⟩ : ∃ S1, S1 = Sg.map fun a => a - 2 ^ n := ⟨_, rfl⟩
    have m0 : ∀ a, a ∈ S0 ↔ a ∈ S ∧ a < 2 ^ n := fun a => by rw [e0, List.mem_filter]; simp
    have mg : ∀ a, a ∈ Sg ↔ a ∈ S ∧ 2 ^ n ≤ a := fun a => by rw [eg, List.mem_filter]; simp
    have m1 : ∀ a, a ∈ S1 ↔ a + 2 ^ n ∈ S := fun a => by
      rw [e1, List.mem_map]
      constructor
      · rintro ⟨b, hb, rfl⟩
        have := (mg b).mp hb
        rw [Nat.sub_add_cancel this.2]
        exact this.1
      · intro h
        exact ⟨a + 2 ^ n, (mg _).mpr ⟨h, Nat.le_add_left _ _⟩, by omega⟩
    have nd0 : S0.Nodup := by rw [e0]; exact nd.filter _
    have ndg : Sg.Nodup := by rw [eg]; exact nd.filter _
    have nd1 : S1.Nodup := by
      rw [e1]
      refine List.pairwise_map.mpr (List.Pairwise.imp_of_mem (fun {a b} ha hb hne h => hne ?_) ndg)
      have := (mg a).mp ha
      have := (mg b).mp hb
      omega
    have l0 := len_split (2 ^ n) S
    rw [← e0, ← eg] at l0
    have l1 : S1.length = Sg.length := by rw [e1, List.length_map]
    have i0 := edges_le n S0 nd0 (fun a h => ((m0 a).mp h).2) (by omega)
    have i1 := edges_le n S1 nd1 (fun a h => by
      have := lt _ ((m1 a).mp h)
      rw [Nat.pow_succ] at this
      omega) (by omega)
    have low : ∀ a ∈ S0, ((List.range n).filter fun p => decide (a / 2 ^ (n - 1 - p) % 2 = 0 ∧ a + 2 ^ (n - 1 - p) ∈ S)).length = cnt n S0 a := fun a ha => by
      unfold cnt
      congr 1
      refine List.filter_congr fun p hp => ?_
      have hp' := List.mem_range.mp hp
      refine decide_eq_decide.mpr ⟨fun h => ⟨h.1, (m0 _).mpr ⟨h.2, up_lt (by omega) ((m0 a).mp ha).2 h.1⟩⟩, fun h => ⟨h.1, ((m0 _).mp h.2).1⟩⟩
    have high : ∀ a ∈ Sg, ((List.range n).filter fun p => decide (a / 2 ^ (n - 1 - p) % 2 = 0 ∧ a + 2 ^ (n - 1 - p) ∈ S)).length = cnt n S1 (a - 2 ^ n) := fun a ha => by
      unfold cnt
      congr 1
      refine List.filter_congr fun p hp => ?_
      have hp' := List.mem_range.mp hp
      have ha' := (mg a).mp ha
      refine decide_eq_decide.mpr ?_
      show _ ↔ (a - 2 ^ n) / 2 ^ (n - 1 - p) % 2 = 0 ∧ (a - 2 ^ n) + 2 ^ (n - 1 - p) ∈ S1
      rw [bit_low (show n - 1 - p < n by omega) ha'.2, m1, show a - 2 ^ n + 2 ^ (n - 1 - p) + 2 ^ n = a + 2 ^ (n - 1 - p) by omega]
    have none : ∀ a ∈ Sg, ¬ (a / 2 ^ n % 2 = 0 ∧ a + 2 ^ n ∈ S) := fun a ha h => by
      have := lt _ h.2
      have := ((mg a).mp ha).2
      rw [Nat.pow_succ] at *
      omega
    have tot : edges (n + 1) S = (S0.filter fun a => decide (a ∈ S1)).length + edges n S0 + edges n S1 := by
      unfold edges
      rw [sum_split _ (2 ^ n) S, ← e0, ← eg]
      have p0 : (S0.map (cnt (n + 1) S)).sum = (S0.map fun a => (if decide (a ∈ S1) = true then 1 else 0) + cnt n S0 a).sum := by
        congr 1
        refine List.map_congr_left fun a ha => ?_
        rw [cnt_succ, low a ha]
        have h0 : a / 2 ^ n % 2 = 0 := by rw [Nat.div_eq_of_lt ((m0 a).mp ha).2]
        congr 1
        by_cases h : a + 2 ^ n ∈ S
        · rw [if_pos ⟨h0, h⟩, if_pos (decide_eq_true ((m1 a).mpr h))]
        · rw [if_neg fun z => h z.2, if_neg fun z => h ((m1 a).mp (of_decide_eq_true z))]
      have pg : (Sg.map (cnt (n + 1) S)).sum = (S1.map (cnt n S1)).sum := by
        rw [e1, List.map_map]
        congr 1
        refine List.map_congr_left fun a ha => ?_
        rw [cnt_succ, high a ha, if_neg (none a ha), Nat.zero_add, ← e1]
        rfl
      rw [p0, pg, sum_add, ind_sum]
    have c0 : (S0.filter fun a => decide (a ∈ S1)).length ≤ S0.length := List.length_filter_le _ _
    have c1 : (S0.filter fun a => decide (a ∈ S1)).length ≤ S1.length := L2.nat_nodup_len _ _ (nd0.filter _) fun x hx => by simpa using (List.mem_filter.mp hx).2
    have f := F_split S0.length (by omega) S1.length (by omega) (by omega)
    rw [tot, l0, ← l1]
    omega
end Ct

set_option Elab.async false
set_option linter.all false
set_option maxRecDepth 100000
/-! math.comb -/
namespace L2
open PySem PySem.Spec PyProof.Rows
section
variable {X : Cx}
/-- comb(a, b) of numbers that are not great -/
def rComb : List V → Hp → VK → Prop := fun vs H Q => ∃ a b : Int, vs = [.int a, .int b] ∧ 0 ≤ a ∧ 0 ≤ b ∧ a ≤ 18000 ∧ Q (.int (PySem.W.mcComb a b)) H
theorem cr_comb : CallR X (.builtin "math.comb") rComb := by
  intro pins s σ H vs us Q I r h
  obtain ⟨a, b, rfl, ha, hb, hs, q⟩ := h
  obtain ⟨t, u, rfl⟩ := Vals.int2 r
  exact PySem.W.mc_comb_v ha hb (by omega) (.inr hs) rfl ⟨.int _, H, I.tok _, ⟨_, rfl⟩, q⟩
end
end L2

set_option Elab.async false
set_option linter.all false
set_option maxRecDepth 100000
set_option maxHeartbeats 1000000
namespace Cm
open PySem PySem.Spec PyProof.Rows L2
/-! the lots of k of n points, n and k at most 8, in their order -/
def run (n : Nat) : Nat → List Nat → List (List Nat)
  | 0, _ => []
  | f + 1, ix => ix :: match nextC n ix with
    | none => []
    | some y => run n f y
def cmb (n k : Nat) : List (List Nat) := if n < k then [] else run n 80 (List.range k)
def chainB (n k : Nat) (ls : List (List Nat)) : Bool :=
  (if n < k then ls.isEmpty else ls[0]? == some (List.range k)) && (List.range ls.length).all (fun i => ls[i + 1]? == nextC n (ls.getD i [])) && ls.all (fun ix => decide (ix.length ≤ 8) && ix.all (fun i => decide (i < n)))
theorem chain_of {n k : Nat} {ls : List (List Nat)} (h : chainB n k ls = true) (z : ls.length ≤ 1000) : Chain n k ls ∧ ∀ ix ∈ ls, ∀ i ∈ ix, i < n := by
  unfold chainB at h
  rw [Bool.and_eq_true, Bool.and_eq_true] at h
  obtain ⟨⟨h1, h2⟩, h3⟩ := h
  rw [List.all_eq_true] at h2 h3
  refine ⟨⟨?_, fun i ix e => ?_, fun ix hx => ?_, by rw [sizeLine_eq]; omega⟩, fun ix hx i hi => ?_⟩
  · by_cases c : n < k
    · rw [if_pos c] at h1
      exact .inl ⟨c, List.isEmpty_iff.mp h1⟩
    · rw [if_neg c] at h1
      exact .inr ⟨by omega, eq_of_beq h1⟩
  · obtain ⟨hi, e2⟩ := List.getElem?_eq_some_iff.mp e
    have z2 := eq_of_beq (h2 i (List.mem_range.mpr hi))
    have e3 : ls.getD i [] = ix := by
      rw [List.getD_eq_getElem?_getD, e]
      rfl
    rw [e3] at z2
    exact z2
  · have z2 := h3 ix hx
    rw [Bool.and_eq_true, decide_eq_true_eq] at z2
    omega
  · have z2 := h3 ix hx
    rw [Bool.and_eq_true, List.all_eq_true] at z2
    exact of_decide_eq_true (z2.2 i hi)
theorem cmb_ok : ∀ n : Fin 9, ∀ k : Fin 9, chainB n.val k.val (cmb n.val k.val) = true ∧ (cmb n.val k.val).length ≤ 70 := by decide +kernel
theorem chain_cmb {n k : Nat} (hn : n ≤ 8) (hk : k ≤ 8) : Chain n k (cmb n k) ∧ (∀ ix ∈ cmb n k, ∀ i ∈ ix, i < n) ∧ (cmb n k).length ≤ 70 := by
  obtain ⟨a, b⟩ := cmb_ok ⟨n, by omega⟩ ⟨k, by omega⟩
  obtain ⟨c, d⟩ := chain_of a (by omega)
  exact ⟨c, d, b⟩
end Cm
/-! walks of a comprehension with two clauses -/
namespace Sx
open PySem L2
theorem pi_listK {X : Cx} {tg l : Expr} {tl : TE} (K : PySem.W.Frag) (ht : PE X l tl) (hk : X.K = K) : PI X tg l (iList K tl) := by
  subst hk
  exact pi_list ht
theorem it_range {lo : Int} {n : Nat} {body : (Hp → Prop) → V → Hp → Prop} {Qd : Hp → Prop} {H1 : Hp} (Pv : Nat → Hp → Prop) (h0 : Pv 0 H1) (hs : ∀ i H, i < n → Pv i H → body (Pv (i + 1)) (.int (lo + (i : Nat))) H) (hd : ∀ H, Pv n H → Qd H) :
    ∃ W : Nat → Nat → Hp → Prop, (∃ m, W 0 m H1) ∧ ∀ i m H, W i m H → ((Itr lo n).stop i H ∧ Qd H) ∨ ((Itr lo n).go i H ∧ ∃ Nx : Hp → Prop, (∀ H', Nx H' → ∃ m', m' < m ∧ W (i + 1) m' H') ∧ ∀ x H', (Itr lo n).yld i H x H' → body Nx x H') := by
  refine ⟨fun i m H => m = n - i ∧ i ≤ n ∧ Pv i H, ⟨n, by simp, Nat.zero_le _, h0⟩, ?_⟩
  rintro i m H ⟨rfl, hi, p⟩
  by_cases h : i < n
  · refine .inr ⟨h, Pv (i + 1), fun H' p' => ⟨n - (i + 1), by omega, rfl, h, p'⟩, ?_⟩
    rintro x H' ⟨rfl, rfl⟩
    exact hs i _ h p
  · have e : i = n := by omega
    subst e
    exact .inl ⟨Nat.le_refl _, hd H p⟩
theorem it_list {K : PySem.W.Frag} {a : Addr} {xs : List V} {body : (Hp → Prop) → V → Hp → Prop} {Qd : Hp → Prop} {H1 : Hp} (Pv : Nat → Hp → Prop) (h0 : Pv 0 H1) (hl : ∀ i H, i ≤ xs.length → Pv i H → SqL K H a xs) (hs : ∀ i x H, xs[i]? = some x → Pv i H → body (Pv (i + 1)) x H) (hd : ∀ H, Pv xs.length H → Qd H) :
    ∃ W : Nat → Nat → Hp → Prop, (∃ m, W 0 m H1) ∧ ∀ i m H, W i m H → ((Itl K a).stop i H ∧ Qd H) ∨ ((Itl K a).go i H ∧ ∃ Nx : Hp → Prop, (∀ H', Nx H' → ∃ m', m' < m ∧ W (i + 1) m' H') ∧ ∀ x H', (Itl K a).yld i H x H' → body Nx x H') := by
  refine ⟨fun i m H => m = xs.length - i ∧ i ≤ xs.length ∧ Pv i H, ⟨xs.length, by simp, Nat.zero_le _, h0⟩, ?_⟩
  rintro i m H ⟨rfl, hi, p⟩
  have q := hl i H hi p
  by_cases hlt : i < xs.length
  · refine .inr ⟨⟨xs, xs[i], q, by simp [hlt]⟩, Pv (i + 1), fun H' p' => ⟨xs.length - (i + 1), by omega, rfl, hlt, p'⟩, fun x H' y => ?_⟩
    obtain ⟨e, y⟩ := y
    subst e
    exact hs i x _ (y xs q) p
  · have e : i = xs.length := by omega
    subst e
    exact .inl ⟨⟨xs, q, Nat.le_refl _⟩, hd H p⟩
end Sx

set_option Elab.async false
set_option linter.all false
set_option maxRecDepth 100000
/-! a walk over a tuple, any body -/
namespace Sx
open PySem L2
theorem it_tup {K : PySem.W.Frag} {a : Addr} {xs : List V} {body : (Hp → Prop) → V → Hp → Prop} {Qd : Hp → Prop} {H1 : Hp} (Pv : Nat → Hp → Prop) (h0 : Pv 0 H1) (hl : ∀ i H, i ≤ xs.length → Pv i H → SqT K H a xs) (hs : ∀ i x H, xs[i]? = some x → Pv i H → body (Pv (i + 1)) x H) (hd : ∀ H, Pv xs.length H → Qd H) :
    ∃ W : Nat → Nat → Hp → Prop, (∃ m, W 0 m H1) ∧ ∀ i m H, W i m H → ((Itt K a).stop i H ∧ Qd H) ∨ ((Itt K a).go i H ∧ ∃ Nx : Hp → Prop, (∀ H', Nx H' → ∃ m', m' < m ∧ W (i + 1) m' H') ∧ ∀ x H', (Itt K a).yld i H x H' → body Nx x H') := by
  refine ⟨fun i m H => m = xs.length - i ∧ i ≤ xs.length ∧ Pv i H, ⟨xs.length, by simp, Nat.zero_le _, h0⟩, ?_⟩
  rintro i m H ⟨rfl, hi, p⟩
  have q := hl i H hi p
  by_cases hlt : i < xs.length
  · refine .inr ⟨⟨xs, xs[i], q, by simp [hlt]⟩, Pv (i + 1), fun H' p' => ⟨xs.length - (i + 1), by omega, rfl, hlt, p'⟩, fun x H' y => ?_⟩
    obtain ⟨e, y⟩ := y
    subst e
    exact hs i x _ (y xs q) p
  · have e : i = xs.length := by omega
    subst e
    exact .inl ⟨⟨xs, q, Nat.le_refl _⟩, hd H p⟩
end Sx

set_option Elab.async false
set_option linter.all false
/-! a tuple walked within a comprehension -/
namespace Sx
open PySem L2
theorem pi_tupK {X : Cx} {tg l : Expr} {tl : TE} (K : PySem.W.Frag) (ht : PE X l tl) (hk : X.K = K) : PI X tg l (iTup K tl) := by
  subst hk
  exact pi_tup ht
end Sx

set_option Elab.async false
set_option linter.all false
set_option maxRecDepth 100000
set_option maxHeartbeats 1000000
/-! len(d), d a dict whose keys are tuples -/
namespace L2
open PySem PySem.Spec PyProof.Rows
section
variable {X : Cx}
def rLenDT : List V → Hp → VK → Prop := fun xs H Q => ∃ (a : Addr) (kvs : List (List Key × V)), xs = [.ref a] ∧ H a = some (.dT kvs) ∧ Q (.int (kvs.length : Nat)) H
theorem cr_lenDT : CallR X (.builtin "len") rLenDT := by
  intro pins s σ H xs us Q I r h
  obtain ⟨a, kvs, rfl, ha, q⟩ := h
  rw [Vals.ref1 r]
  obtain ⟨z, hd, ys, rel, dd⟩ := dt_of I.hok ha
  have e : kvs.length = ys.length := Paired.length rel
  refine PySem.call_len_dictH hd dd (by rw [← e]; rw [sizeLine_eq] at z; omega) ?_
  rw [← e]
  exact ⟨.int kvs.length, H, I.tok _, ⟨_, rfl⟩, q⟩
end
end L2

set_option Elab.async false
set_option linter.all false
set_option maxRecDepth 100000
set_option maxHeartbeats 1000000
/-! list(d.values()), d a dict with tuple keys -/
namespace Cm
open PySem PySem.Spec PyProof.Rows L2
section
theorem meets_vals_raw {prog : Program} {w : World} (d : Addr) (hd : (d == sysModules) = false) :
    MeetsIn prog w (Builtin.«dict.values» ⟨[.ref d], []⟩) (fun _ R s => s.TypeIs (.ref d) "dict" ∧
      R (.ok (.ret (.ref s.heap.objs.size))) { s with heap := s.heap.push { cls := .type "dict_values", data := .fields #[.ref d] } }) :=
  .of_wp fun A R s ⟨hm, h⟩ => by
    refine wpAny_bind ?_
    unfold Builtin.Dict.noArgs
    refine wpAny_bind (wpAny_notOrdered_dict hm ?_)
    show wpAny _ _ (pure d) _ _ s
    refine wpAny_pure ?_
    show wpAny _ _ (Builtin.Dict.showsAll d >>= _) _ _ s
    unfold Builtin.Dict.showsAll
    rw [if_neg (by rw [hd]; exact Bool.false_ne_true)]
    refine wpAny_bind (wpAny_pure ?_)
    exact wpAny_bind (wpAny_newObj_type (wpAny_pure ⟨_, rfl, h⟩))
variable {X : Cx} {e : Expr} {td : TE}
theorem valsT_snd {H : Hp} : ∀ {kvs : List (List Key × V)} {vs : List (List Key × Addr × Value)}, KT H kvs vs → Vals (kvs.map (·.2)) (vs.map fun x => x.2.2)
  | _, _, .nil => .nil
  | _, _, .cons h t => .cons h.2.2 (valsT_snd t)
/-- its reading -/
def tLVT (td : TE) : TE := fun σ H Q => td σ H fun x H1 => ∃ d kvs, x = .ref d ∧ H1 d = some (.dT kvs) ∧ ∀ p, H1 p = none → Q (.ref p) (upd H1 p (.lst (kvs.map (·.2))))
theorem pe_listValsT {p pos apos cpos : Pos} (hc : X.calm = true) (gl : Gl X "list") (ml : X.mg "list" = none) (he : PE X e td)
    (hbase : attributeBase e "values" X.env (eval e X.env) = eval e X.env := by rfl) (hline : (apos.endLine == cpos.line) = true := by rfl)
    (nl : starEach [Expr.Call (.Attribute e "values" apos) [] [] cpos] X.env = (false, eval (.Call (.Attribute e "values" apos) [] [] cpos) X.env) :: starEach [] X.env := by rfl) :
    PE X (.Call (.Name "list" p) [.Call (.Attribute e "values" apos) [] [] cpos] [] pos) (tLVT td) := by
  refine ⟨fun pins s σ H Q I h => ?_⟩
  refine Call_ (ld_blt I gl ml boot_list (PyProof.Rows.callWith_type1 (args_cons ?_ nl) nl))
  refine wpAny_Call_method (T := "dict") (id := "dict.values") hbase rfl hline F.plainAttrs_dict F.slot_dict_values F.type_dict_values (thn (he.run pins s σ H _ I h) fun u s1 ⟨x, H1, I1, rx, d, kvs, ex, hd, q⟩ => ?_)
  subst ex
  obtain rfl : u = Value.ref d := rx
  obtain ⟨z, hs, ks, pr, o, es, ep, ho, hx, hdt, hes, hn⟩ := (show ObjOk X.prog X.w H1 s1.heap d (.dT kvs) from (show Rd H1 d (.dT kvs) from .inl hd).ok I1.hok)
  have hT : s1.TypeIs (.ref d) "dict" := ⟨o, ho, hx.1⟩
  refine ⟨hT, ?_, ?_⟩
  · intro a ea
    cases ea
    exact ⟨o, ho, hx.2.1⟩
  have I2 : Inv X pins σ H1 { s1 with heap := s1.heap.push { cls := .type "dict_values", data := .fields #[.ref d] } } := I1.kept (t' := s1.toks) fun b ob q => Heap.get?_push_of_some _ q
  show wpAny _ _ (callWith cpos (.builtin "dict.values") [.ref d] [] []) _ X.xe s1
  refine method_meetsIn F.slot_dict_values F.entry_dict_values rfl (PySem.evalArgs_none ⟨rfl, hT, F.args_dict_values_1 _, _, meets_vals_raw d hs, hT, ?_⟩)
  refine args_nil ?_
  have l1 : es.size = ks.length := size_of_entries hes
  have l2 : kvs.length = ks.length := Paired.length pr
  have hv : (s1.heap.push { cls := .type "dict_values", data := .fields #[.ref d] }).IsValuesView s1.heap.objs.size d := ⟨_, Heap.get?_push_size _ rfl, rfl, rfl⟩
  refine PySem.W.kdl_call (PySem.KdlSrc.rawValues (r := s1.heap.objs.size) (d := d) (es := es) (ep := ep)) (I.ok.hd hc) ⟨hv, ⟨o, Heap.get?_push_of_some _ ho, hx, hdt⟩⟩ (by omega) fun h' tk acc' c' kp e it => ?_
  have ea : acc'.toList = ks.map fun x => x.2.2 := by
    have hl : acc'.toList.length = ks.length := by rw [Array.length_toList, it.1]; exact l1
    apply List.ext_getElem?
    intro j
    rw [List.getElem?_map]
    cases hj : acc'.toList[j]? with
    | none =>
      have h1 := List.getElem?_eq_none_iff.mp hj
      rw [List.getElem?_eq_none (by omega)]
      all_goals rfl
    | some v =>
      obtain ⟨hi, hv⟩ := it.2 j v (by rw [← Array.getElem?_toList]; exact hj)
      have hen : es[j]? = some es[j] := Array.getElem?_eq_getElem hi
      have qe := entry_at hes j
      rw [hen] at qe
      cases hb : ks[j]? with
      | none =>
        rw [hb] at qe
        exact nomatch (show some es[j] = none from qe)
      | some b =>
        rw [hb] at qe
        have e2 : es[j] = entryOfKey (tupleKind (mixKind X.prog X.w)) b := Option.some.inj qe
        rw [hv, e2]
        all_goals rfl
  have rv : Vals (kvs.map (·.2)) acc'.toList := by rw [ea]; exact valsT_snd pr
  have hz : (kvs.map (·.2)).length ≤ sizeLine := by rw [List.length_map]; exact z
  have fr : H1 (s1.heap.objs.size + 1) = none := I1.hok.fresh (Nat.le_succ _)
  have e1 : (s1.heap.push { cls := .type "dict_values", data := .fields #[.ref d] }).objs.size = s1.heap.objs.size + 1 := Heap.size_push ..
  refine ⟨.ref (s1.heap.push { cls := .type "dict_values", data := .fields #[.ref d] }).objs.size, _, I2.laid (t' := tk) (o := .lst (kvs.map (·.2))) kp (Nat.le_refl _) ?_, rfl, q _ (by rw [e1]; exact fr)⟩
  exact ⟨hz, acc'.toList, c', rv, by rw [Array.toArray_toList]; exact e⟩
end
end Cm

set_option Elab.async false
set_option linter.all false
set_option maxRecDepth 100000
set_option maxHeartbeats 1000000
/-! a chain of three comparisons, all true -/
namespace L2
open PySem PySem.Spec PyProof.Rows
section
variable {X : Cx} {a b c d : Expr} {ta tb tc td : TE} {pos : Pos} {op op' op'' : CmpOp} {r r' r'' : R2}
def tChain3 (r r' r'' : R2) (ta tb tc td : TE) : TE := fun σ H Q => ta σ H fun x H1 => tb σ H1 fun y H2 => r x y H2 fun z H3 => z = .bl true ∧ tc σ H3 fun y' H4 => r' y y' H4 fun z' H5 => z' = .bl true ∧ td σ H5 fun w' H6 => r'' y' w' H6 Q
theorem pe_chain3 (ho : OpR X (compareOp op) r) (ho' : OpR X (compareOp op') r') (ho'' : OpR X (compareOp op'') r'') (ha : PE X a ta) (hb : PE X b tb) (hc : PE X c tc) (hd : PE X d td) (hm : lastMarks [op, op', op''] [b, c, d] = false := by rfl) :
    PE X (.Compare a [op, op', op''] [b, c, d] pos) (tChain3 r r' r'' ta tb tc td) := by
  refine ⟨fun pins s σ H Q I h => ?_⟩
  refine Compare_chain (thn (ha.run pins s σ H _ I h) fun v s1 ⟨x, H1, I1, r1, q1⟩ => ?_) hm
  refine chain_link (thn (hb.run pins s1 σ H1 _ I1 q1) fun u s2 ⟨y, H2, I2, r2, q2⟩ => thn (ho pins s2 σ H2 x y v u _ I2 r1 r2 q2) fun e s3 ⟨z, H3, I3, r3, ez, q3⟩ => ?_)
  subst ez
  cases r3
  refine wpAny_truthy_bool ?_
  refine ite_tt ?_
  refine chain_link (thn (hc.run pins s3 σ H3 _ I3 q3) fun u' s4 ⟨y', H4, I4, r4, q4⟩ => thn (ho' pins s4 σ H4 y y' u u' _ I4 r2 r4 q4) fun e s5 ⟨z', H5, I5, r5, ez', q5⟩ => ?_)
  subst ez'
  cases r5
  refine wpAny_truthy_bool ?_
  refine ite_tt ?_
  exact chain_last (thn (hd.run pins s5 σ H5 _ I5 q5) fun w' s6 ⟨z'', H6, I6, r6, q6⟩ => ho'' pins s6 σ H6 y' z'' u' w' Q I6 r4 r6 q6)
end
end L2
namespace Sx
open PySem L2
theorem s_chain3 {H : Hp} {Q : VK} {σ : L2.St} {r r' r'' : R2} {ta tb tc td : TE} (h : ta σ H fun x H1 => tb σ H1 fun y H2 => r x y H2 fun z H3 => z = .bl true ∧ tc σ H3 fun y' H4 => r' y y' H4 fun z' H5 => z' = .bl true ∧ td σ H5 fun w' H6 => r'' y' w' H6 Q) : tChain3 r r' r'' ta tb tc td σ H Q := h
end Sx

set_option Elab.async false
set_option linter.all false
set_option maxRecDepth 100000
set_option maxHeartbeats 2000000
namespace K15
open PySem L2 Sx
def top (i : Nat) : Stmt := PySem.Challenge.pw_nextguess_k15_whole_sandwich.main.body.getD i (.Pass ⟨0, 0, 0, 0⟩)
abbrev s_is_an_integer : Stmt := top 5
abbrev s_is_number : Stmt := top 6
abbrev s_is_value : Stmt := top 7
abbrev s_code_of : Stmt := top 13
abbrev s_codes_of : Stmt := top 14
abbrev s_row_of : Stmt := top 15
abbrev s_mask_of : Stmt := top 17
abbrev s_is_row : Stmt := top 19
abbrev s_all_rows : Stmt := top 20
abbrev s_reads_all : Stmt := top 25
abbrev s_holds_all : Stmt := top 26
abbrev s_free_lots : Stmt := top 27
abbrev s_strong_lots : Stmt := top 28
abbrev s_lots_of : Stmt := top 21
abbrev s_lots_to : Stmt := top 22
abbrev s_all_lots : Stmt := top 23
abbrev s_dimension : Stmt := top 29
abbrev s_lots_up_to : Stmt := top 30
abbrev s_are_rows : Stmt := top 32
abbrev s_Rules____init__ : Stmt := inClass (top 34) 0
abbrev s_Rules__has : Stmt := inClass (top 34) 3
abbrev s_Rules__others : Stmt := inClass (top 34) 12
abbrev s_Rules__beside : Stmt := inClass (top 34) 9
abbrev s__law_flow : Stmt := top 36
abbrev s__law_take : Stmt := top 37
abbrev s__law_full : Stmt := top 38
abbrev s__law_row : Stmt := top 39
abbrev s__law_ones : Stmt := top 40
abbrev s__law_listed : Stmt := top 41
abbrev s__law_is_integer : Stmt := top 42
abbrev s__law_is_lot : Stmt := top 43
abbrev s__law_is_free : Stmt := top 44
abbrev s__law_is_strong : Stmt := top 45
abbrev s__law_true_lots : Stmt := top 46
abbrev s__law_up_to : Stmt := top 47
abbrev s__law_chain : Stmt := top 48
abbrev s__law_complement : Stmt := top 49
abbrev s__law_halves : Stmt := top 50
abbrev s__law_product : Stmt := top 51
abbrev s__law_all : Stmt := top 52
abbrev s_law : Stmt := top 53
theorem sc_is_an_integer : FnScope ["value"] ["value"] (defScope s_is_an_integer) := ⟨rfl, rfl, rfl, by decide +kernel, rfl, by decide +kernel, by decide +kernel⟩
theorem sc_is_number : FnScope ["value"] ["value"] (defScope s_is_number) := ⟨rfl, rfl, rfl, by decide +kernel, rfl, by decide +kernel, by decide +kernel⟩
theorem sc_is_value : FnScope ["value"] ["value"] (defScope s_is_value) := ⟨rfl, rfl, rfl, by decide +kernel, rfl, by decide +kernel, by decide +kernel⟩
theorem sc_code_of : FnScope ["row", "code", "value"] ["row"] (defScope s_code_of) := ⟨rfl, rfl, rfl, by decide +kernel, rfl, by decide +kernel, by decide +kernel⟩
theorem sc_codes_of : FnScope ["rows", "row"] ["rows"] (defScope s_codes_of) := ⟨rfl, rfl, rfl, by decide +kernel, rfl, by decide +kernel, by decide +kernel⟩
theorem sc_row_of : FnScope ["code", "size", "point"] ["code", "size"] (defScope s_row_of) := ⟨rfl, rfl, rfl, by decide +kernel, rfl, by decide +kernel, by decide +kernel⟩
theorem sc_mask_of : FnScope ["lot", "size", "point"] ["lot", "size"] (defScope s_mask_of) := ⟨rfl, rfl, rfl, by decide +kernel, rfl, by decide +kernel, by decide +kernel⟩
theorem sc_is_row : FnScope ["value", "size", "member"] ["value", "size"] (defScope s_is_row) := ⟨rfl, rfl, rfl, by decide +kernel, rfl, by decide +kernel, by decide +kernel⟩
theorem sc_all_rows : FnScope ["size", "code"] ["size"] (defScope s_all_rows) := ⟨rfl, rfl, rfl, by decide +kernel, rfl, by decide +kernel, by decide +kernel⟩
theorem sc_reads_all : FnScope ["codes", "mask", "many", "code"] ["codes", "mask", "many"] (defScope s_reads_all) := ⟨rfl, rfl, rfl, by decide +kernel, rfl, by decide +kernel, by decide +kernel⟩
theorem sc_holds_all : FnScope ["codes", "mask", "many", "counts", "code", "rest"] ["codes", "mask", "many"] (defScope s_holds_all) := ⟨rfl, rfl, rfl, by decide +kernel, rfl, by decide +kernel, by decide +kernel⟩
theorem sc_free_lots : FnScope ["rules", "codes", "lots", "lot"] ["rules"] (defScope s_free_lots) := ⟨rfl, rfl, rfl, by decide +kernel, rfl, by decide +kernel, by decide +kernel⟩
theorem sc_strong_lots : FnScope ["rules", "codes", "lots", "lot"] ["rules"] (defScope s_strong_lots) := ⟨rfl, rfl, rfl, by decide +kernel, rfl, by decide +kernel, by decide +kernel⟩
theorem sc_lots_of : FnScope ["size", "many"] ["size", "many"] (defScope s_lots_of) := ⟨rfl, rfl, rfl, by decide +kernel, rfl, by decide +kernel, by decide +kernel⟩
theorem sc_lots_to : FnScope ["size", "most", "many", "lot"] ["size", "most"] (defScope s_lots_to) := ⟨rfl, rfl, rfl, by decide +kernel, rfl, by decide +kernel, by decide +kernel⟩
theorem sc_all_lots : FnScope ["size"] ["size"] (defScope s_all_lots) := ⟨rfl, rfl, rfl, by decide +kernel, rfl, by decide +kernel, by decide +kernel⟩
theorem sc_dimension : FnScope ["rules"] ["rules"] (defScope s_dimension) := ⟨rfl, rfl, rfl, by decide +kernel, rfl, by decide +kernel, by decide +kernel⟩
theorem sc_lots_up_to : FnScope ["size", "d", "many"] ["size", "d"] (defScope s_lots_up_to) := ⟨rfl, rfl, rfl, by decide +kernel, rfl, by decide +kernel, by decide +kernel⟩
theorem sc_are_rows : FnScope ["rows", "size", "row"] ["rows", "size"] (defScope s_are_rows) := ⟨rfl, rfl, rfl, by decide +kernel, rfl, by decide +kernel, by decide +kernel⟩
theorem sc_Rules____init__ : FnScope ["self", "size", "rows", "row"] ["self", "size", "rows"] (defScope s_Rules____init__) := ⟨rfl, rfl, rfl, by decide +kernel, rfl, by decide +kernel, by decide +kernel⟩
theorem sc_Rules__has : FnScope ["self", "row"] ["self", "row"] (defScope s_Rules__has) := ⟨rfl, rfl, rfl, by decide +kernel, rfl, by decide +kernel, by decide +kernel⟩
theorem sc_Rules__others : FnScope ["self", "rows", "row"] ["self"] (defScope s_Rules__others) := ⟨rfl, rfl, rfl, by decide +kernel, rfl, by decide +kernel, by decide +kernel⟩
theorem sc_Rules__beside : FnScope ["self", "other", "size", "mine", "their"] ["self", "other"] (defScope s_Rules__beside) := ⟨rfl, rfl, rfl, by decide +kernel, rfl, by decide +kernel, by decide +kernel⟩
theorem sc__law_flow : FnScope ["script", "place", "cell"] ["script", "place"] (defScope s__law_flow) := ⟨rfl, rfl, rfl, by decide +kernel, rfl, by decide +kernel, by decide +kernel⟩
theorem sc__law_take : FnScope ["flow", "limit", "digit", "mixed"] ["flow", "limit"] (defScope s__law_take) := ⟨rfl, rfl, rfl, by decide +kernel, rfl, by decide +kernel, by decide +kernel⟩
theorem sc__law_full : FnScope ["size"] ["size"] (defScope s__law_full) := ⟨rfl, rfl, rfl, by decide +kernel, rfl, by decide +kernel, by decide +kernel⟩
theorem sc__law_row : FnScope ["number", "size", "row", "k"] ["number", "size"] (defScope s__law_row) := ⟨rfl, rfl, rfl, by decide +kernel, rfl, by decide +kernel, by decide +kernel⟩
theorem sc__law_ones : FnScope ["number", "many", "k"] ["number"] (defScope s__law_ones) := ⟨rfl, rfl, rfl, by decide +kernel, rfl, by decide +kernel, by decide +kernel⟩
theorem sc__law_listed : FnScope ["flow", "size", "full", "shape", "k", "kept", "odd", "one", "other", "numbers", "number"] ["flow", "size"] (defScope s__law_listed) := ⟨rfl, rfl, rfl, by decide +kernel, rfl, by decide +kernel, by decide +kernel⟩
theorem sc__law_is_integer : FnScope ["value", "least", "limit"] ["value", "least", "limit"] (defScope s__law_is_integer) := ⟨rfl, rfl, rfl, by decide +kernel, rfl, by decide +kernel, by decide +kernel⟩
theorem sc__law_is_lot : FnScope ["value", "size", "least", "point"] ["value", "size"] (defScope s__law_is_lot) := ⟨rfl, rfl, rfl, by decide +kernel, rfl, by decide +kernel, by decide +kernel⟩
theorem sc__law_is_free : FnScope ["listed", "lot", "seen", "row", "point"] ["listed", "lot"] (defScope s__law_is_free) := ⟨rfl, rfl, rfl, by decide +kernel, rfl, by decide +kernel, by decide +kernel⟩
theorem sc__law_is_strong : FnScope ["size", "listed", "lot", "rest", "found", "row", "there", "point"] ["size", "listed", "lot"] (defScope s__law_is_strong) := ⟨rfl, rfl, rfl, by decide +kernel, rfl, by decide +kernel, by decide +kernel⟩
theorem sc__law_true_lots : FnScope ["lots", "size", "listed", "strong", "ahead", "lot"] ["lots", "size", "listed", "strong"] (defScope s__law_true_lots) := ⟨rfl, rfl, rfl, by decide +kernel, rfl, by decide +kernel, by decide +kernel⟩
theorem sc__law_up_to : FnScope ["size", "d", "line", "k", "j"] ["size", "d"] (defScope s__law_up_to) := ⟨rfl, rfl, rfl, by decide +kernel, rfl, by decide +kernel, by decide +kernel⟩
theorem sc__law_chain : FnScope ["rules", "size", "listed", "free", "strong", "d", "most", "lot"] ["rules", "size", "listed"] (defScope s__law_chain) := ⟨rfl, rfl, rfl, by decide +kernel, rfl, by decide +kernel, by decide +kernel⟩
theorem sc__law_complement : FnScope ["rules", "size", "listed", "lacking", "others", "k"] ["rules", "size", "listed"] (defScope s__law_complement) := ⟨rfl, rfl, rfl, by decide +kernel, rfl, by decide +kernel, by decide +kernel⟩
theorem sc__law_halves : FnScope ["lots", "one", "other", "strong", "size", "lot", "front", "back", "point"] ["lots", "one", "other", "strong"] (defScope s__law_halves) := ⟨rfl, rfl, rfl, by decide +kernel, rfl, by decide +kernel, by decide +kernel⟩
theorem sc__law_product : FnScope ["one", "other", "first", "second", "beside", "both", "free", "strong"] ["one", "other"] (defScope s__law_product) := ⟨rfl, rfl, rfl, by decide +kernel, rfl, by decide +kernel, by decide +kernel⟩
theorem sc__law_all : FnScope ["script", "flow", "one", "rules", "front", "back", "start"] ["script"] (defScope s__law_all) := ⟨rfl, rfl, rfl, by decide +kernel, rfl, by decide +kernel, by decide +kernel⟩
theorem sc_law : FnScope ["script"] ["script"] (defScope s_law) := ⟨rfl, rfl, rfl, by decide +kernel, rfl, by decide +kernel, by decide +kernel⟩
structure Ad where
  a_is_an_integer : Addr
  d_is_an_integer : FuncData
  a_is_number : Addr
  d_is_number : FuncData
  a_is_value : Addr
  d_is_value : FuncData
  a_code_of : Addr
  d_code_of : FuncData
  a_codes_of : Addr
  d_codes_of : FuncData
  a_row_of : Addr
  d_row_of : FuncData
  a_mask_of : Addr
  d_mask_of : FuncData
  a_is_row : Addr
  d_is_row : FuncData
  a_all_rows : Addr
  d_all_rows : FuncData
  a_reads_all : Addr
  d_reads_all : FuncData
  a_holds_all : Addr
  d_holds_all : FuncData
  a_free_lots : Addr
  d_free_lots : FuncData
  a_strong_lots : Addr
  d_strong_lots : FuncData
  a_lots_of : Addr
  d_lots_of : FuncData
  a_lots_to : Addr
  d_lots_to : FuncData
  a_all_lots : Addr
  d_all_lots : FuncData
  a_dimension : Addr
  d_dimension : FuncData
  a_lots_up_to : Addr
  d_lots_up_to : FuncData
  a_are_rows : Addr
  d_are_rows : FuncData
  a_Rules____init__ : Addr
  d_Rules____init__ : FuncData
  a_Rules__has : Addr
  d_Rules__has : FuncData
  a_Rules__others : Addr
  d_Rules__others : FuncData
  a_Rules__beside : Addr
  d_Rules__beside : FuncData
  a__law_flow : Addr
  d__law_flow : FuncData
  a__law_take : Addr
  d__law_take : FuncData
  a__law_full : Addr
  d__law_full : FuncData
  a__law_row : Addr
  d__law_row : FuncData
  a__law_ones : Addr
  d__law_ones : FuncData
  a__law_listed : Addr
  d__law_listed : FuncData
  a__law_is_integer : Addr
  d__law_is_integer : FuncData
  a__law_is_lot : Addr
  d__law_is_lot : FuncData
  a__law_is_free : Addr
  d__law_is_free : FuncData
  a__law_is_strong : Addr
  d__law_is_strong : FuncData
  a__law_true_lots : Addr
  d__law_true_lots : FuncData
  a__law_up_to : Addr
  d__law_up_to : FuncData
  a__law_chain : Addr
  d__law_chain : FuncData
  a__law_complement : Addr
  d__law_complement : FuncData
  a__law_halves : Addr
  d__law_halves : FuncData
  a__law_product : Addr
  d__law_product : FuncData
  a__law_all : Addr
  d__law_all : FuncData
  a_law : Addr
  d_law : FuncData
  c_Rules : Addr
  t_MOST_POINTS : Tok
structure Txt (P : Program) (K : PySem.W.Frag) (mg : Str → Option Value) (A : Ad) : Prop where
  g_is_an_integer : mg "is_an_integer" = some (.ref A.a_is_an_integer)
  F_is_an_integer : Fun K "is_an_integer" "is_an_integer" s_is_an_integer A.a_is_an_integer A.d_is_an_integer
  g_is_number : mg "is_number" = some (.ref A.a_is_number)
  F_is_number : Fun K "is_number" "is_number" s_is_number A.a_is_number A.d_is_number
  g_is_value : mg "is_value" = some (.ref A.a_is_value)
  F_is_value : Fun K "is_value" "is_value" s_is_value A.a_is_value A.d_is_value
  g_code_of : mg "code_of" = some (.ref A.a_code_of)
  F_code_of : Fun K "code_of" "code_of" s_code_of A.a_code_of A.d_code_of
  g_codes_of : mg "codes_of" = some (.ref A.a_codes_of)
  F_codes_of : Fun K "codes_of" "codes_of" s_codes_of A.a_codes_of A.d_codes_of
  g_row_of : mg "row_of" = some (.ref A.a_row_of)
  F_row_of : Fun K "row_of" "row_of" s_row_of A.a_row_of A.d_row_of
  g_mask_of : mg "mask_of" = some (.ref A.a_mask_of)
  F_mask_of : Fun K "mask_of" "mask_of" s_mask_of A.a_mask_of A.d_mask_of
  g_is_row : mg "is_row" = some (.ref A.a_is_row)
  F_is_row : Fun K "is_row" "is_row" s_is_row A.a_is_row A.d_is_row
  g_all_rows : mg "all_rows" = some (.ref A.a_all_rows)
  F_all_rows : Fun K "all_rows" "all_rows" s_all_rows A.a_all_rows A.d_all_rows
  g_reads_all : mg "reads_all" = some (.ref A.a_reads_all)
  F_reads_all : Fun K "reads_all" "reads_all" s_reads_all A.a_reads_all A.d_reads_all
  g_holds_all : mg "holds_all" = some (.ref A.a_holds_all)
  F_holds_all : Fun K "holds_all" "holds_all" s_holds_all A.a_holds_all A.d_holds_all
  g_free_lots : mg "free_lots" = some (.ref A.a_free_lots)
  F_free_lots : Fun K "free_lots" "free_lots" s_free_lots A.a_free_lots A.d_free_lots
  g_strong_lots : mg "strong_lots" = some (.ref A.a_strong_lots)
  F_strong_lots : Fun K "strong_lots" "strong_lots" s_strong_lots A.a_strong_lots A.d_strong_lots
  g_lots_of : mg "lots_of" = some (.ref A.a_lots_of)
  F_lots_of : Fun K "lots_of" "lots_of" s_lots_of A.a_lots_of A.d_lots_of
  g_lots_to : mg "lots_to" = some (.ref A.a_lots_to)
  F_lots_to : Fun K "lots_to" "lots_to" s_lots_to A.a_lots_to A.d_lots_to
  g_all_lots : mg "all_lots" = some (.ref A.a_all_lots)
  F_all_lots : Fun K "all_lots" "all_lots" s_all_lots A.a_all_lots A.d_all_lots
  g_dimension : mg "dimension" = some (.ref A.a_dimension)
  F_dimension : Fun K "dimension" "dimension" s_dimension A.a_dimension A.d_dimension
  g_lots_up_to : mg "lots_up_to" = some (.ref A.a_lots_up_to)
  F_lots_up_to : Fun K "lots_up_to" "lots_up_to" s_lots_up_to A.a_lots_up_to A.d_lots_up_to
  g_are_rows : mg "are_rows" = some (.ref A.a_are_rows)
  F_are_rows : Fun K "are_rows" "are_rows" s_are_rows A.a_are_rows A.d_are_rows
  F_Rules____init__ : Fun K "__init__" "Rules.__init__" s_Rules____init__ A.a_Rules____init__ A.d_Rules____init__
  F_Rules__has : Fun K "has" "Rules.has" s_Rules__has A.a_Rules__has A.d_Rules__has
  F_Rules__others : Fun K "others" "Rules.others" s_Rules__others A.a_Rules__others A.d_Rules__others
  F_Rules__beside : Fun K "beside" "Rules.beside" s_Rules__beside A.a_Rules__beside A.d_Rules__beside
  g__law_flow : mg "_law_flow" = some (.ref A.a__law_flow)
  F__law_flow : Fun K "_law_flow" "_law_flow" s__law_flow A.a__law_flow A.d__law_flow
  g__law_take : mg "_law_take" = some (.ref A.a__law_take)
  F__law_take : Fun K "_law_take" "_law_take" s__law_take A.a__law_take A.d__law_take
  g__law_full : mg "_law_full" = some (.ref A.a__law_full)
  F__law_full : Fun K "_law_full" "_law_full" s__law_full A.a__law_full A.d__law_full
  g__law_row : mg "_law_row" = some (.ref A.a__law_row)
  F__law_row : Fun K "_law_row" "_law_row" s__law_row A.a__law_row A.d__law_row
  g__law_ones : mg "_law_ones" = some (.ref A.a__law_ones)
  F__law_ones : Fun K "_law_ones" "_law_ones" s__law_ones A.a__law_ones A.d__law_ones
  g__law_listed : mg "_law_listed" = some (.ref A.a__law_listed)
  F__law_listed : Fun K "_law_listed" "_law_listed" s__law_listed A.a__law_listed A.d__law_listed
  g__law_is_integer : mg "_law_is_integer" = some (.ref A.a__law_is_integer)
  F__law_is_integer : Fun K "_law_is_integer" "_law_is_integer" s__law_is_integer A.a__law_is_integer A.d__law_is_integer
  g__law_is_lot : mg "_law_is_lot" = some (.ref A.a__law_is_lot)
  F__law_is_lot : Fun K "_law_is_lot" "_law_is_lot" s__law_is_lot A.a__law_is_lot A.d__law_is_lot
  g__law_is_free : mg "_law_is_free" = some (.ref A.a__law_is_free)
  F__law_is_free : Fun K "_law_is_free" "_law_is_free" s__law_is_free A.a__law_is_free A.d__law_is_free
  g__law_is_strong : mg "_law_is_strong" = some (.ref A.a__law_is_strong)
  F__law_is_strong : Fun K "_law_is_strong" "_law_is_strong" s__law_is_strong A.a__law_is_strong A.d__law_is_strong
  g__law_true_lots : mg "_law_true_lots" = some (.ref A.a__law_true_lots)
  F__law_true_lots : Fun K "_law_true_lots" "_law_true_lots" s__law_true_lots A.a__law_true_lots A.d__law_true_lots
  g__law_up_to : mg "_law_up_to" = some (.ref A.a__law_up_to)
  F__law_up_to : Fun K "_law_up_to" "_law_up_to" s__law_up_to A.a__law_up_to A.d__law_up_to
  g__law_chain : mg "_law_chain" = some (.ref A.a__law_chain)
  F__law_chain : Fun K "_law_chain" "_law_chain" s__law_chain A.a__law_chain A.d__law_chain
  g__law_complement : mg "_law_complement" = some (.ref A.a__law_complement)
  F__law_complement : Fun K "_law_complement" "_law_complement" s__law_complement A.a__law_complement A.d__law_complement
  g__law_halves : mg "_law_halves" = some (.ref A.a__law_halves)
  F__law_halves : Fun K "_law_halves" "_law_halves" s__law_halves A.a__law_halves A.d__law_halves
  g__law_product : mg "_law_product" = some (.ref A.a__law_product)
  F__law_product : Fun K "_law_product" "_law_product" s__law_product A.a__law_product A.d__law_product
  g__law_all : mg "_law_all" = some (.ref A.a__law_all)
  F__law_all : Fun K "_law_all" "_law_all" s__law_all A.a__law_all A.d__law_all
  g_law : mg "law" = some (.ref A.a_law)
  F_law : Fun K "law" "law" s_law A.a_law A.d_law
  g_Rules : mg "Rules" = some (.ref A.c_Rules)
  o_Rules : Sx.OwnK K A.c_Rules
  mk_Rules : Mk K A.c_Rules A.a_Rules____init__
  no_Rules_size : NoAttr K A.c_Rules "size"
  no_Rules_rows : NoAttr K A.c_Rules "rows"
  no_Rules__known : NoAttr K A.c_Rules "_known"
  me_Rules_has : Meth K A.c_Rules "has" A.a_Rules__has
  me_Rules_others : Meth K A.c_Rules "others" A.a_Rules__others
  me_Rules_beside : Meth K A.c_Rules "beside" A.a_Rules__beside
  n_abs : mg "abs" = none
  n_all : mg "all" = none
  n_bool : mg "bool" = none
  n_int : mg "int" = none
  n_isinstance : mg "isinstance" = none
  n_len : mg "len" = none
  n_list : mg "list" = none
  n_max : mg "max" = none
  n_min : mg "min" = none
  n_range : mg "range" = none
  n_set : mg "set" = none
  n_sorted : mg "sorted" = none
  n_sum : mg "sum" = none
  n_tuple : mg "tuple" = none
  m_combinations : mg "combinations" = some (.type "itertools.combinations")
  m_comb : mg "comb" = some (.builtin "math.comb")
  k_MOST_POINTS : mg "MOST_POINTS" = some (.int 8 A.t_MOST_POINTS)
section
variable {P : Program} {K : PySem.W.Frag} {mg : Str → Option Value} {A : Ad}
theorem Txt.cl_Rules (T : Txt P K mg A) : Cls K A.c_Rules := T.o_Rules.cl
theorem B_is_an_integer (T : Txt P K mg A) : Binds K A.d_is_an_integer ["value"] [] := T.F_is_an_integer.binds (ps := ["value"]) fun _ _ _ _ _ _ us hl => match us, hl with | [_], _ => rfl
theorem B_is_number (T : Txt P K mg A) : Binds K A.d_is_number ["value"] [] := T.F_is_number.binds (ps := ["value"]) fun _ _ _ _ _ _ us hl => match us, hl with | [_], _ => rfl
theorem B_is_value (T : Txt P K mg A) : Binds K A.d_is_value ["value"] [] := T.F_is_value.binds (ps := ["value"]) fun _ _ _ _ _ _ us hl => match us, hl with | [_], _ => rfl
theorem B_code_of (T : Txt P K mg A) : Binds K A.d_code_of ["row"] [] := T.F_code_of.binds (ps := ["row"]) fun _ _ _ _ _ _ us hl => match us, hl with | [_], _ => rfl
theorem B_codes_of (T : Txt P K mg A) : Binds K A.d_codes_of ["rows"] [] := T.F_codes_of.binds (ps := ["rows"]) fun _ _ _ _ _ _ us hl => match us, hl with | [_], _ => rfl
theorem B_row_of (T : Txt P K mg A) : Binds K A.d_row_of ["code", "size"] [] := T.F_row_of.binds (ps := ["code", "size"]) fun _ _ _ _ _ _ us hl => match us, hl with | [_, _], _ => rfl
theorem B_mask_of (T : Txt P K mg A) : Binds K A.d_mask_of ["lot", "size"] [] := T.F_mask_of.binds (ps := ["lot", "size"]) fun _ _ _ _ _ _ us hl => match us, hl with | [_, _], _ => rfl
theorem B_is_row (T : Txt P K mg A) : Binds K A.d_is_row ["value", "size"] [] := T.F_is_row.binds (ps := ["value", "size"]) fun _ _ _ _ _ _ us hl => match us, hl with | [_, _], _ => rfl
theorem B_all_rows (T : Txt P K mg A) : Binds K A.d_all_rows ["size"] [] := T.F_all_rows.binds (ps := ["size"]) fun _ _ _ _ _ _ us hl => match us, hl with | [_], _ => rfl
theorem B_reads_all (T : Txt P K mg A) : Binds K A.d_reads_all ["codes", "mask", "many"] [] := T.F_reads_all.binds (ps := ["codes", "mask", "many"]) fun _ _ _ _ _ _ us hl => match us, hl with | [_, _, _], _ => rfl
theorem B_holds_all (T : Txt P K mg A) : Binds K A.d_holds_all ["codes", "mask", "many"] [] := T.F_holds_all.binds (ps := ["codes", "mask", "many"]) fun _ _ _ _ _ _ us hl => match us, hl with | [_, _, _], _ => rfl
theorem B_free_lots (T : Txt P K mg A) : Binds K A.d_free_lots ["rules"] [] := T.F_free_lots.binds (ps := ["rules"]) fun _ _ _ _ _ _ us hl => match us, hl with | [_], _ => rfl
theorem B_strong_lots (T : Txt P K mg A) : Binds K A.d_strong_lots ["rules"] [] := T.F_strong_lots.binds (ps := ["rules"]) fun _ _ _ _ _ _ us hl => match us, hl with | [_], _ => rfl
theorem B_lots_of (T : Txt P K mg A) : Binds K A.d_lots_of ["size", "many"] [] := T.F_lots_of.binds (ps := ["size", "many"]) fun _ _ _ _ _ _ us hl => match us, hl with | [_, _], _ => rfl
theorem B_lots_to (T : Txt P K mg A) : Binds K A.d_lots_to ["size", "most"] [] := T.F_lots_to.binds (ps := ["size", "most"]) fun _ _ _ _ _ _ us hl => match us, hl with | [_, _], _ => rfl
theorem B_all_lots (T : Txt P K mg A) : Binds K A.d_all_lots ["size"] [] := T.F_all_lots.binds (ps := ["size"]) fun _ _ _ _ _ _ us hl => match us, hl with | [_], _ => rfl
theorem B_dimension (T : Txt P K mg A) : Binds K A.d_dimension ["rules"] [] := T.F_dimension.binds (ps := ["rules"]) fun _ _ _ _ _ _ us hl => match us, hl with | [_], _ => rfl
theorem B_lots_up_to (T : Txt P K mg A) : Binds K A.d_lots_up_to ["size", "d"] [] := T.F_lots_up_to.binds (ps := ["size", "d"]) fun _ _ _ _ _ _ us hl => match us, hl with | [_, _], _ => rfl
theorem B_are_rows (T : Txt P K mg A) : Binds K A.d_are_rows ["rows", "size"] [] := T.F_are_rows.binds (ps := ["rows", "size"]) fun _ _ _ _ _ _ us hl => match us, hl with | [_, _], _ => rfl
theorem B_Rules____init__ (T : Txt P K mg A) : Binds K A.d_Rules____init__ ["self", "size", "rows"] [] := T.F_Rules____init__.binds (ps := ["self", "size", "rows"]) fun _ _ _ _ _ _ us hl => match us, hl with | [_, _, _], _ => rfl
theorem B_Rules__has (T : Txt P K mg A) : Binds K A.d_Rules__has ["self", "row"] [] := T.F_Rules__has.binds (ps := ["self", "row"]) fun _ _ _ _ _ _ us hl => match us, hl with | [_, _], _ => rfl
theorem B_Rules__others (T : Txt P K mg A) : Binds K A.d_Rules__others ["self"] [] := T.F_Rules__others.binds (ps := ["self"]) fun _ _ _ _ _ _ us hl => match us, hl with | [_], _ => rfl
theorem B_Rules__beside (T : Txt P K mg A) : Binds K A.d_Rules__beside ["self", "other"] [] := T.F_Rules__beside.binds (ps := ["self", "other"]) fun _ _ _ _ _ _ us hl => match us, hl with | [_, _], _ => rfl
theorem B__law_flow (T : Txt P K mg A) : Binds K A.d__law_flow ["script", "place"] [] := T.F__law_flow.binds (ps := ["script", "place"]) fun _ _ _ _ _ _ us hl => match us, hl with | [_, _], _ => rfl
theorem B__law_take (T : Txt P K mg A) : Binds K A.d__law_take ["flow", "limit"] [] := T.F__law_take.binds (ps := ["flow", "limit"]) fun _ _ _ _ _ _ us hl => match us, hl with | [_, _], _ => rfl
theorem B__law_full (T : Txt P K mg A) : Binds K A.d__law_full ["size"] [] := T.F__law_full.binds (ps := ["size"]) fun _ _ _ _ _ _ us hl => match us, hl with | [_], _ => rfl
theorem B__law_row (T : Txt P K mg A) : Binds K A.d__law_row ["number", "size"] [] := T.F__law_row.binds (ps := ["number", "size"]) fun _ _ _ _ _ _ us hl => match us, hl with | [_, _], _ => rfl
theorem B__law_ones (T : Txt P K mg A) : Binds K A.d__law_ones ["number"] [] := T.F__law_ones.binds (ps := ["number"]) fun _ _ _ _ _ _ us hl => match us, hl with | [_], _ => rfl
theorem B__law_listed (T : Txt P K mg A) : Binds K A.d__law_listed ["flow", "size"] [] := T.F__law_listed.binds (ps := ["flow", "size"]) fun _ _ _ _ _ _ us hl => match us, hl with | [_, _], _ => rfl
theorem B__law_is_integer (T : Txt P K mg A) : Binds K A.d__law_is_integer ["value", "least", "limit"] [] := T.F__law_is_integer.binds (ps := ["value", "least", "limit"]) fun _ _ _ _ _ _ us hl => match us, hl with | [_, _, _], _ => rfl
theorem B__law_is_lot (T : Txt P K mg A) : Binds K A.d__law_is_lot ["value", "size"] [] := T.F__law_is_lot.binds (ps := ["value", "size"]) fun _ _ _ _ _ _ us hl => match us, hl with | [_, _], _ => rfl
theorem B__law_is_free (T : Txt P K mg A) : Binds K A.d__law_is_free ["listed", "lot"] [] := T.F__law_is_free.binds (ps := ["listed", "lot"]) fun _ _ _ _ _ _ us hl => match us, hl with | [_, _], _ => rfl
theorem B__law_is_strong (T : Txt P K mg A) : Binds K A.d__law_is_strong ["size", "listed", "lot"] [] := T.F__law_is_strong.binds (ps := ["size", "listed", "lot"]) fun _ _ _ _ _ _ us hl => match us, hl with | [_, _, _], _ => rfl
theorem B__law_true_lots (T : Txt P K mg A) : Binds K A.d__law_true_lots ["lots", "size", "listed", "strong"] [] := T.F__law_true_lots.binds (ps := ["lots", "size", "listed", "strong"]) fun _ _ _ _ _ _ us hl => match us, hl with | [_, _, _, _], _ => rfl
theorem B__law_up_to (T : Txt P K mg A) : Binds K A.d__law_up_to ["size", "d"] [] := T.F__law_up_to.binds (ps := ["size", "d"]) fun _ _ _ _ _ _ us hl => match us, hl with | [_, _], _ => rfl
theorem B__law_chain (T : Txt P K mg A) : Binds K A.d__law_chain ["rules", "size", "listed"] [] := T.F__law_chain.binds (ps := ["rules", "size", "listed"]) fun _ _ _ _ _ _ us hl => match us, hl with | [_, _, _], _ => rfl
theorem B__law_complement (T : Txt P K mg A) : Binds K A.d__law_complement ["rules", "size", "listed"] [] := T.F__law_complement.binds (ps := ["rules", "size", "listed"]) fun _ _ _ _ _ _ us hl => match us, hl with | [_, _, _], _ => rfl
theorem B__law_halves (T : Txt P K mg A) : Binds K A.d__law_halves ["lots", "one", "other", "strong"] [] := T.F__law_halves.binds (ps := ["lots", "one", "other", "strong"]) fun _ _ _ _ _ _ us hl => match us, hl with | [_, _, _, _], _ => rfl
theorem B__law_product (T : Txt P K mg A) : Binds K A.d__law_product ["one", "other"] [] := T.F__law_product.binds (ps := ["one", "other"]) fun _ _ _ _ _ _ us hl => match us, hl with | [_, _], _ => rfl
theorem B__law_all (T : Txt P K mg A) : Binds K A.d__law_all ["script"] [] := T.F__law_all.binds (ps := ["script"]) fun _ _ _ _ _ _ us hl => match us, hl with | [_], _ => rfl
theorem B_law (T : Txt P K mg A) : Binds K A.d_law ["script"] [] := T.F_law.binds (ps := ["script"]) fun _ _ _ _ _ _ us hl => match us, hl with | [_], _ => rfl
end
local macro_rules | `(tactic| walk_at "cond") => `(tactic| first
  | assumption
  | decide
  | exact c_mul_r (by first | decide | omega) (by first | decide | omega)
  | exact c_mul_l (by first | decide | omega) (by first | decide | omega)
  | exact c_div (by first | decide | omega) (by first | decide | omega)
  | exact c_pow (by first | decide | omega) (by first | decide | omega) (by first | decide | omega)
  | omega)
local macro_rules | `(tactic| walk_at "ne") => `(tactic| first
  | assumption
  | (refine Ne.symm ?_; assumption)
  | (refine' Flow.ne ?nh ?nn; (case nn => assumption); (case nh => walk_at "fl"))
  | (refine Ne.symm ?_; refine' Flow.ne ?nh ?nn; (case nn => assumption); (case nh => walk_at "fl"))
  | (refine' ne_of_none ?nh ?nn; (case nn => assumption); (case nh => walk_at "at"))
  | (refine Ne.symm ?_; refine' ne_of_none ?nh ?nn; (case nn => assumption); (case nh => walk_at "at")))
local macro_rules | `(tactic| walk_at "at") => `(tactic| first
  | assumption
  | (refine Same.up (by assumption) ?_; walk_at "at")
  | (refine Keep.up (by assumption) (by walk_at "ne") ?_; walk_at "at"))
local macro_rules | `(tactic| walk_at "fl") => `(tactic| first
  | assumption
  | (refine Flow.same (by assumption) ?_; walk_at "fl")
  | (refine Flow.keep (by assumption) (by walk_at "ne") ?_; walk_at "fl"))
local macro_rules | `(tactic| walk_at "fr") => `(tactic| first
  | assumption
  | (refine same_free (by assumption) ?_; walk_at "fr")
  | (refine Keep.free (by assumption) (by walk_at "ne") ?_; walk_at "fr"))
local macro_rules | `(tactic| walk_at "kp") => `(tactic| first
  | assumption
  | exact Keep.refl _ _
  | (refine Keep.trans ?_ (by assumption); walk_at "kp")
  | (refine Keep.trans ?_ (Keep.same (by assumption)); walk_at "kp"))
local macro_rules | `(tactic| walk_at "sm") => `(tactic| first
  | assumption
  | exact L2.Same.refl _
  | (refine L2.Same.trans ?_ (by assumption); walk_at "sm"))
local macro_rules | `(tactic| walk_at "sz") => `(tactic| first | exact Nat.le_of_ble_eq_true rfl | omega)
local macro_rules | `(tactic| walk_at "new") => `(tactic| (intro p np; generalize hE : upd _ p _ = H2; have s2 := new_same np hE; have h2 := new_at hE; clear hE))
local macro_rules | `(tactic| walk_at "newx") => `(tactic| (intro e d na nd hda; generalize hE : upd (upd _ d _) e _ = H2; have s2 := newx_same na nd hE; have h2 := newx_at hE; have h3 := newx_d hda hE; clear hE))
local macro_rules | `(tactic| walk_at "s1") => `(tactic| first
  | with_reducible refine s_seq ?_
  | with_reducible refine s_asg ?_
  | with_reducible refine s_name ?_
  | with_reducible refine s_ret ?_
  | with_reducible refine s_c ?_
  | ((with_reducible refine' s_var ?hv ?_); (case hv => rfl))
  | with_reducible refine s_op ?_
  | with_reducible refine s_un ?_
  | with_reducible refine s_ifS ?_
  | with_reducible refine s_cb ?_
  | with_reducible refine s_cons ?_
  | with_reducible refine s_nil ?_
  | with_reducible refine s_call ?_
  | with_reducible refine s_test ?_
  | with_reducible refine s_tB ?_
  | with_reducible refine s_bl ?_
  | with_reducible refine s_and ?_
  | with_reducible refine s_or ?_
  | with_reducible refine s_not ?_
  | with_reducible refine s_andV ?_
  | with_reducible refine s_orV ?_
  | with_reducible refine s_notV ?_
  | with_reducible refine s_blV ?_
  | with_reducible refine s_if ?_
  | with_reducible refine s_tup ?_
  | with_reducible refine s_lst ?_
  | with_reducible refine s_drop ?_
  | with_reducible refine s_next ?_
  | with_reducible refine s_sub ?_
  | with_reducible refine s_bm ?_
  | with_reducible refine s_callK ?_
  | with_reducible refine s_brk ?_
  | with_reducible refine s_cont ?_
  | with_reducible refine r_I0 ?_
  | with_reducible refine r_U ?_
  | with_reducible refine r_eqI ?_
  | with_reducible refine r_neI ?_
  | with_reducible refine r_isB ?_
  | with_reducible refine r_notB ?_
  | with_reducible refine i_t ?_
  | with_reducible refine i_f ?_
  | with_reducible refine i_nt ?_
  | with_reducible refine i_nf ?_
  | ((with_reducible refine' r_I ?hc ?_); (case hc => walk_at "cond"))
  | (with_reducible refine .inl ⟨_, rfl, ?_⟩)
  | (with_reducible refine ⟨_, rfl, ?_⟩)
  | ((with_reducible refine' r_ixL ?hx ?ha ?_); (case hx => walk_at "at"); (case ha => rfl))
  | ((with_reducible refine' r_ixT ?hx ?ha ?_); (case hx => walk_at "at"); (case ha => rfl))
  | ((with_reducible refine' r_setL ?hx ?ha ?_); (case hx => walk_at "at"); (case ha => rfl); intro H2 k2 h2; (try dsimp only [List.set, Int.toNat] at h2))
  | ((with_reducible refine' r_app ?hx ?hl ?_); (case hx => walk_at "at"); (case hl => first | exact Nat.lt_of_ble_eq_true rfl | omega); intro H2 k2 h2)
  | ((with_reducible refine' ty_list ?hx ?_); (case hx => walk_at "at"))
  | (refine And.intro (by (with_reducible show _ ≤ sizeLine); walk_at "sz") ?_; walk_at "new")
  | with_reducible refine s_exv ?_
  | walk_at "newx")
local macro_rules | `(tactic| walk_at "sx") => `(tactic| repeat (walk_at "s1"))
local macro_rules | `(tactic| walk_at "s2") => `(tactic| first
  | ((with_reducible refine' r_ixG ?hx ?hn ?_); (case hx => walk_at "at"); (case hn => omega))
  | ((with_reducible refine' r_ixGT ?hx ?hn ?_); (case hx => walk_at "at"); (case hn => omega))
  | (with_reducible refine ig_cons (fun hix => ?_) (fun hix => ?_))
  | ((with_reducible refine ig_nil ?_); omega)
  | ((with_reducible refine' i_T ?hc ?_); (case hc => omega))
  | ((with_reducible refine' i_F ?hc ?_); (case hc => omega))
  | (with_reducible refine i_2 (fun hc => ?_) (fun hc => ?_))
  | (with_reducible refine i_n2 (fun hc => ?_) (fun hc => ?_)))
local macro_rules | `(tactic| walk_at "go") => `(tactic| repeat' (first | walk_at "s1" | walk_at "s2"))

section
variable {P : Program} {w : World} {K : PySem.W.Frag} {mg : Str → Option Value} {base : Heap} {A : Ad}
def spTake : Sp := fun vs H Q _ => ∃ (a : Addr) (m : Int), vs = [.ref a, .int m] ∧ Flow H a ∧ 0 < m ∧ m < 1073741824 ∧ ∀ d H', 0 ≤ d → d < m → Flow H' a → Keep a H H' → Q (.int d) H'
theorem c_take {H : Hp} {Q : VK} {E : XK} {a : Addr} {m : Int} (f : Flow H a) (m0 : 0 < m) (m1 : m < 1073741824) (q : ∀ d H', 0 ≤ d → d < m → Flow H' a → Keep a H H' → Q (.int d) H') : spTake ([.ref a, .int m] ++ []) H Q E := ⟨a, m, rfl, f, m0, m1, q⟩
theorem ok_take (T : Txt P K mg A) : FnOk P w K mg base CX0 1 A.a__law_take A.d__law_take ["flow", "limit"] spTake := by
  refine T.F__law_take.ok sc__law_take (fun vs H Q E h => ?_) (fun cdv A' outer s H vs Q E hr h => ?_)
  · obtain ⟨a, m, rfl, _⟩ := h
    rfl
  · obtain ⟨a, m, rfl, ⟨c, n, b, p, hL⟩, m0, m1, k⟩ := h
    refine ⟨_, (pss_cons (ps_asg (pe_op op_add (pe_ix ix_seq (pv 0) pe_int (fun _ _ => rfl)) pe_int) (pg_sub (pv 0) pe_int set_list))
  (pss_cons (ps_if (pt_val (pe_ix ix_seq (pv 0) pe_int (fun _ _ => rfl))) (pss_cons (ps_set (i := 2) sc__law_take.nd rfl (Or.inl rfl) (pe_op op_mod (pe_callTy call_int1 (by rfl) T.n_int (by decide +kernel) (pa_cons (pe_ix ix_seq (pv 0) pe_int (fun _ _ => rfl)) pa_nil)) (pv 1)))
  (pss_cons (ps_asg (pe_op op_fdiv (pe_ix ix_seq (pv 0) pe_int (fun _ _ => rfl)) (pv 1)) (pg_sub (pv 0) pe_int set_list))
  (pss_one (ps_ret (pv 2))))) pss_nil)
  (pss_cons (ps_set (i := 3) sc__law_take.nd rfl (Or.inl rfl) (pe_op op_mod (pe_callTy call_int1 (by rfl) T.n_int (by decide +kernel) (pa_cons (pe_op op_add (pe_op op_add (pe_op op_mul (pe_ix ix_seq (pv 0) pe_int (fun _ _ => rfl)) pe_int) (pe_op op_mul (pe_ix ix_seq (pv 0) pe_int (fun _ _ => rfl)) pe_int)) (pe_op op_mul (pe_ix ix_seq (pv 0) pe_int (fun _ _ => rfl)) pe_int)) pa_nil)) pe_int))
  (pss_cons (ps_set (i := 3) sc__law_take.nd rfl (Or.inl rfl) (pe_op op_mod (pe_callTy call_int1 (by rfl) T.n_int (by decide +kernel) (pa_cons (pe_op op_add (pe_op op_add (pe_op op_mul (pv 3) pe_int) (pe_op op_mul (pe_ix ix_seq (pv 0) pe_int (fun _ _ => rfl)) pe_int)) pe_int) pa_nil)) pe_int))
  (pss_one (ps_ret (pe_op op_mod (pe_callTy call_int1 (by rfl) T.n_int (by decide +kernel) (pa_cons (pe_op op_fdiv (pv 3) pe_int) pa_nil)) (pv 1)))))))), ?_⟩
    walk_at "sx"
    refine i_b2 (fun hb => ?_) (fun hb => ?_)
    · walk_at "sx"
      exact k _ _ (Int.emod_nonneg _ (by omega)) (Int.emod_lt_of_pos _ m0) ⟨_, _, _, _, by assumption⟩ (by walk_at "kp")
    · walk_at "sx"
      exact k _ _ (Int.emod_nonneg _ (by omega)) (Int.emod_lt_of_pos _ m0) ⟨_, _, _, _, by assumption⟩ (by walk_at "kp")
def spFlow (K : PySem.W.Frag) : Sp := fun vs H Q _ => ∃ (l : Addr) (ns : List Int) (j : Nat), vs = [.ref l, .int (j : Int)] ∧ SqL K H l (ns.map V.int) ∧ ∀ p H', H p = none → Same H H' → Flow H' p → Q (.ref p) H'
theorem c_flow {H : Hp} {Q : VK} {E : XK} {l : Addr} {ns : List Int} {i : Int} (hi : 0 ≤ i) (h : SqL K H l (ns.map V.int)) (q : ∀ p H', H p = none → Same H H' → Flow H' p → Q (.ref p) H') : spFlow K ([.ref l, .int i] ++ []) H Q E :=
  ⟨l, ns, i.toNat, by rw [Int.toNat_of_nonneg hi]; rfl, h, q⟩
theorem ok_flow (T : Txt P K mg A) : FnOk P w K mg base CX0 1 A.a__law_flow A.d__law_flow ["script", "place"] (spFlow K) := by
  refine T.F__law_flow.ok sc__law_flow (fun vs H Q E h => ?_) (fun cdv A' outer s H vs Q E hr h => ?_)
  · obtain ⟨l, ns, j, rfl, _⟩ := h
    rfl
  · obtain ⟨l, ns, j, rfl, hs, k⟩ := h
    refine ⟨_, (pss_cons (ps_set (i := 2) sc__law_flow.nd rfl (Or.inl rfl) pe_int)
  (pss_cons (ps_if (pt_cmpR op_lt (pv 1) (pe_callB call_len (by rfl) T.n_len (by decide +kernel) (pa_cons (pv 0) pa_nil)) (nomark _)) (pss_one (ps_set (i := 2) sc__law_flow.nd rfl (Or.inl rfl) (pe_callB call_abs (by rfl) T.n_abs (by decide +kernel) (pa_cons (pe_callTy call_int1 (by rfl) T.n_int (by decide +kernel) (pa_cons (pe_ix ix_seq (pv 0) (pv 1) (fun _ _ => rfl)) pa_nil)) pa_nil)))) pss_nil)
  (pss_one (ps_ret (pe_lst (pa_cons (pv 2) (pa_cons pe_int (pa_cons (pe_cmpR op_ge (pv 2) (pe_op op_pow pe_int pe_int) (nomark _)) (pa_cons (pv 1) pa_nil))))))))), ?_⟩
    walk_at "sx"
    refine ⟨_, _, rfl, .inl ⟨_, hs, rfl⟩, ?_⟩
    walk_at "sx"
    refine i_2 (fun hb => ?_) (fun hb => ?_)
    · walk_at "sx"
      have hj : j < ns.length := by
        rw [List.length_map] at hb
        omega
      refine r_ixS hs (v := .int (ns[j])) (atI_nat (by rw [List.getElem?_map, List.getElem?_eq_getElem hj]; rfl)) ?_
      walk_at "sx"
      exact k _ _ (by walk_at "fr") (by walk_at "sm") ⟨_, _, _, _, by assumption⟩
    · walk_at "sx"
      exact k _ _ (by walk_at "fr") (by walk_at "sm") ⟨_, _, _, _, by assumption⟩

end
end K15

set_option Elab.async false
set_option linter.all false
set_option maxRecDepth 100000
set_option maxHeartbeats 2000000
namespace K15
open PySem L2 Sx
local macro_rules | `(tactic| walk_at "cond") => `(tactic| first
  | assumption
  | decide
  | exact c_mul_r (by first | decide | omega) (by first | decide | omega)
  | exact c_mul_l (by first | decide | omega) (by first | decide | omega)
  | exact c_div (by first | decide | omega) (by first | decide | omega)
  | exact c_pow (by first | decide | omega) (by first | decide | omega) (by first | decide | omega)
  | omega)
local macro_rules | `(tactic| walk_at "ne") => `(tactic| first
  | assumption
  | (refine Ne.symm ?_; assumption)
  | (refine' Flow.ne ?nh ?nn; (case nn => assumption); (case nh => walk_at "fl"))
  | (refine Ne.symm ?_; refine' Flow.ne ?nh ?nn; (case nn => assumption); (case nh => walk_at "fl"))
  | (refine' ne_of_none ?nh ?nn; (case nn => assumption); (case nh => walk_at "at"))
  | (refine Ne.symm ?_; refine' ne_of_none ?nh ?nn; (case nn => assumption); (case nh => walk_at "at")))
local macro_rules | `(tactic| walk_at "at") => `(tactic| first
  | assumption
  | (refine Same.up (by assumption) ?_; walk_at "at")
  | (refine Keep.up (by assumption) (by walk_at "ne") ?_; walk_at "at"))
local macro_rules | `(tactic| walk_at "fl") => `(tactic| first
  | assumption
  | (refine Flow.same (by assumption) ?_; walk_at "fl")
  | (refine Flow.keep (by assumption) (by walk_at "ne") ?_; walk_at "fl"))
local macro_rules | `(tactic| walk_at "fr") => `(tactic| first
  | assumption
  | (refine same_free (by assumption) ?_; walk_at "fr")
  | (refine Keep.free (by assumption) (by walk_at "ne") ?_; walk_at "fr"))
local macro_rules | `(tactic| walk_at "kp") => `(tactic| first
  | assumption
  | exact Keep.refl _ _
  | (refine Keep.trans ?_ (by assumption); walk_at "kp")
  | (refine Keep.trans ?_ (Keep.same (by assumption)); walk_at "kp"))
local macro_rules | `(tactic| walk_at "sm") => `(tactic| first
  | assumption
  | exact L2.Same.refl _
  | (refine L2.Same.trans ?_ (by assumption); walk_at "sm"))
local macro_rules | `(tactic| walk_at "sz") => `(tactic| first | exact Nat.le_of_ble_eq_true rfl | omega)
local macro_rules | `(tactic| walk_at "new") => `(tactic| (intro p np; generalize hE : upd _ p _ = H2; have s2 := new_same np hE; have h2 := new_at hE; clear hE))
local macro_rules | `(tactic| walk_at "newx") => `(tactic| (intro e d na nd hda; generalize hE : upd (upd _ d _) e _ = H2; have s2 := newx_same na nd hE; have h2 := newx_at hE; have h3 := newx_d hda hE; clear hE))
local macro_rules | `(tactic| walk_at "s1") => `(tactic| first
  | with_reducible refine s_seq ?_
  | with_reducible refine s_asg ?_
  | with_reducible refine s_name ?_
  | with_reducible refine s_ret ?_
  | with_reducible refine s_c ?_
  | ((with_reducible refine' s_var ?hv ?_); (case hv => rfl))
  | with_reducible refine s_op ?_
  | with_reducible refine s_un ?_
  | with_reducible refine s_ifS ?_
  | with_reducible refine s_cb ?_
  | with_reducible refine s_cons ?_
  | with_reducible refine s_nil ?_
  | with_reducible refine s_call ?_
  | with_reducible refine s_test ?_
  | with_reducible refine s_tB ?_
  | with_reducible refine s_bl ?_
  | with_reducible refine s_and ?_
  | with_reducible refine s_or ?_
  | with_reducible refine s_not ?_
  | with_reducible refine s_andV ?_
  | with_reducible refine s_orV ?_
  | with_reducible refine s_notV ?_
  | with_reducible refine s_blV ?_
  | with_reducible refine s_if ?_
  | with_reducible refine s_tup ?_
  | with_reducible refine s_lst ?_
  | with_reducible refine s_drop ?_
  | with_reducible refine s_next ?_
  | with_reducible refine s_sub ?_
  | with_reducible refine s_bm ?_
  | with_reducible refine s_callK ?_
  | with_reducible refine s_brk ?_
  | with_reducible refine s_cont ?_
  | with_reducible refine r_I0 ?_
  | with_reducible refine r_U ?_
  | with_reducible refine r_eqI ?_
  | with_reducible refine r_neI ?_
  | with_reducible refine r_isB ?_
  | with_reducible refine r_notB ?_
  | with_reducible refine i_t ?_
  | with_reducible refine i_f ?_
  | with_reducible refine i_nt ?_
  | with_reducible refine i_nf ?_
  | ((with_reducible refine' r_I ?hc ?_); (case hc => walk_at "cond"))
  | (with_reducible refine .inl ⟨_, rfl, ?_⟩)
  | (with_reducible refine ⟨_, rfl, ?_⟩)
  | ((with_reducible refine' r_ixL ?hx ?ha ?_); (case hx => walk_at "at"); (case ha => rfl))
  | ((with_reducible refine' r_ixT ?hx ?ha ?_); (case hx => walk_at "at"); (case ha => rfl))
  | ((with_reducible refine' r_setL ?hx ?ha ?_); (case hx => walk_at "at"); (case ha => rfl); intro H2 k2 h2; (try dsimp only [List.set, Int.toNat] at h2))
  | ((with_reducible refine' r_app ?hx ?hl ?_); (case hx => walk_at "at"); (case hl => first | exact Nat.lt_of_ble_eq_true rfl | omega); intro H2 k2 h2)
  | ((with_reducible refine' ty_list ?hx ?_); (case hx => walk_at "at"))
  | (refine And.intro (by (with_reducible show _ ≤ sizeLine); walk_at "sz") ?_; walk_at "new")
  | with_reducible refine s_exv ?_
  | walk_at "newx")
local macro_rules | `(tactic| walk_at "sx") => `(tactic| repeat (walk_at "s1"))
local macro_rules | `(tactic| walk_at "s2") => `(tactic| first
  | ((with_reducible refine' r_ixG ?hx ?hn ?_); (case hx => walk_at "at"); (case hn => omega))
  | ((with_reducible refine' r_ixGT ?hx ?hn ?_); (case hx => walk_at "at"); (case hn => omega))
  | (with_reducible refine ig_cons (fun hix => ?_) (fun hix => ?_))
  | ((with_reducible refine ig_nil ?_); omega)
  | ((with_reducible refine' i_T ?hc ?_); (case hc => omega))
  | ((with_reducible refine' i_F ?hc ?_); (case hc => omega))
  | (with_reducible refine i_2 (fun hc => ?_) (fun hc => ?_))
  | (with_reducible refine i_n2 (fun hc => ?_) (fun hc => ?_)))
local macro_rules | `(tactic| walk_at "go") => `(tactic| repeat' (first | walk_at "s1" | walk_at "s2"))

local macro_rules | `(tactic| walk_at "s1") => `(tactic| first
  | with_reducible refine s_chain ?_
  | with_reducible refine s_fldS ?_
  | with_reducible refine s_fld ?_
  | with_reducible refine s_dIn ?_
  | with_reducible refine s_dNotIn ?_
  | with_reducible refine s_sl ?_
  | with_reducible refine s_noPart ?_
  | with_reducible refine s_part ?_
  | with_reducible refine s_meth ?_
  | with_reducible refine s_make ?_)

section
variable {P : Program} {w : World} {K : PySem.W.Frag} {mg : Str → Option Value} {base : Heap} {A : Ad}
/-- a test of one value -/
def spT1 (K : PySem.W.Frag) (f : V → Bool) : Sp := fun vs H Q _ => ∃ v, vs = [v] ∧ NI K H v ∧ Q (.bl (f v)) H
theorem c_t1 {H : Hp} {Q : VK} {E : XK} {f : V → Bool} {v : V} (n : NI K H v) (q : Q (.bl (f v)) H) : spT1 K f ([v] ++ []) H Q E := ⟨v, rfl, n, q⟩
theorem i_cases (v : V) : (∃ i, v = .int i) ∨ isI v = false := by cases v <;> simp [isI]
theorem num_no {f : Int → Bool} {v : V} (h : isI v = false) : num? f v = false := by cases v <;> first | rfl | cases h
theorem ok_isi (T : Txt P K mg A) : FnOk P w K mg base CX0 1 A.a_is_an_integer A.d_is_an_integer ["value"] (spT1 K isI) := by
  refine T.F_is_an_integer.ok sc_is_an_integer (fun vs H Q E h => ?_) (fun cdv A' outer s H vs Q E hr h => ?_)
  · obtain ⟨v, rfl, _⟩ := h
    rfl
  · obtain ⟨v, rfl, ⟨b, c, hb, hc, e⟩, k⟩ := h
    refine ⟨_, (pss_one (ps_ret (pe_and (pe_callB (id := "isinstance") (r := rIsiV K) call_isiV (by rfl) T.n_isinstance (by decide +kernel) (pa_cons (pv 0) (pa_cons (pe_bltn (v := .ty "int") (u := .type "int") (by rfl) T.n_int (by decide +kernel) rfl) pa_nil))) (pe_one (pe_not (pe_callB (id := "isinstance") (r := rIsiV K) call_isiV (by rfl) T.n_isinstance (by decide +kernel) (pa_cons (pv 0) (pa_cons (pe_bltn (v := .ty "bool") (u := .type "bool") (by rfl) T.n_bool (by decide +kernel) rfl) pa_nil)))))))), ?_⟩
    rw [← e] at k
    walk_at "sx"
    refine isi_in hb ?_
    cases b
    · walk_at "sx"
      exact k
    · walk_at "sx"
      refine isi_in hc ?_
      walk_at "sx"
      exact k
abbrev isN : V → Bool := num? fun i => decide (0 ≤ i)
theorem ok_isn (T : Txt P K mg A) : FnOk P w K mg base CX0 2 A.a_is_number A.d_is_number ["value"] (spT1 K isN) := by
  refine T.F_is_number.ok sc_is_number (fun vs H Q E h => ?_) (fun cdv A' outer s H vs Q E hr h => ?_)
  · obtain ⟨v, rfl, _⟩ := h
    rfl
  · obtain ⟨v, rfl, n, k⟩ := h
    have G_is_an_integer := ok_isi (w := w) (base := base) T
    refine ⟨_, (pss_one (ps_ret (pe_and (pe_call G_is_an_integer (hr.mono (by decide)) rfl T.g_is_an_integer T.F_is_an_integer.kp (B_is_an_integer T) .nil pass0 (pa_cons (pv 0) pa_nil)) (pe_one (pe_cmpR op_ge (pv 0) pe_int (nomark _)))))), ?_⟩
    walk_at "sx"
    refine c_t1 n ?_
    rcases i_cases v with ⟨i, rfl⟩ | h
    · walk_at "sx"
      refine iteT ?_
      walk_at "sx"
      exact k
    · have e : isN v = false := num_no h
      rw [e] at k
      rw [h]
      walk_at "sx"
      exact k
theorem ok_isv (T : Txt P K mg A) : FnOk P w K mg base CX0 2 A.a_is_value A.d_is_value ["value"] (spT1 K isBit) := by
  refine T.F_is_value.ok sc_is_value (fun vs H Q E h => ?_) (fun cdv A' outer s H vs Q E hr h => ?_)
  · obtain ⟨v, rfl, _⟩ := h
    rfl
  · obtain ⟨v, rfl, n, k⟩ := h
    have G_is_an_integer := ok_isi (w := w) (base := base) T
    refine ⟨_, (pss_one (ps_ret (pe_and (pe_call G_is_an_integer (hr.mono (by decide)) rfl T.g_is_an_integer T.F_is_an_integer.kp (B_is_an_integer T) .nil pass0 (pa_cons (pv 0) pa_nil)) (pe_one (pe_chain op_le op_le pe_int (pv 0) pe_int))))), ?_⟩
    walk_at "sx"
    refine c_t1 n ?_
    rcases i_cases v with ⟨i, rfl⟩ | h
    · walk_at "sx"
      refine iteT ?_
      have e : isBit (.int i) = (decide (0 ≤ i) && decide (i ≤ 1)) := rfl
      rw [e] at k
      walk_at "sx"
      refine i_2 (fun hc => ?_) (fun hc => ?_)
      · rw [decide_eq_true hc] at k
        walk_at "sx"
        exact k
      · rw [decide_eq_false hc] at k
        exact k
    · have e : isBit v = false := num_no h
      rw [e] at k
      rw [h]
      walk_at "sx"
      exact k
/-- is_row -/
def spRow (K : PySem.W.Frag) : Sp := fun vs H Q _ => ∃ v n, vs = [v, .int n] ∧ ((IsIn K H v "tuple" false ∧ Q (.bl false) H) ∨
  ∃ p xs, v = .ref p ∧ H p = some (.tup xs) ∧ (∀ x ∈ xs, NI K H x) ∧ xs.length < 1000 ∧ ∀ H', Same H H' → Q (.bl (decide ((xs.length : Int) = n) && xs.all isBit)) H')
theorem ok_row (T : Txt P K mg A) : FnOk P w K mg base CX0 3 A.a_is_row A.d_is_row ["value", "size"] (spRow K) := by
  refine T.F_is_row.ok sc_is_row (fun vs H Q E h => ?_) (fun cdv A' outer s H vs Q E hr h => ?_)
  · obtain ⟨v, m, rfl, _⟩ := h
    rfl
  · obtain ⟨v, m, rfl, h⟩ := h
    have G_is_value := ok_isv (w := w) (base := base) T
    refine ⟨_, (pss_one (ps_ret (pe_and (pe_callB (id := "isinstance") (r := rIsiV K) call_isiV (by rfl) T.n_isinstance (by decide +kernel) (pa_cons (pv 0) (pa_cons (pe_bltn (v := .ty "tuple") (u := .type "tuple") (by rfl) T.n_tuple (by decide +kernel) rfl) pa_nil))) (pe_and (pe_cmpR op_eq (pe_callB call_len (by rfl) T.n_len (by decide +kernel) (pa_cons (pv 0) pa_nil)) (pv 1) (nomark _)) (pe_one (pe_callB (cr_all rfl) (by rfl) T.n_all (by decide +kernel) (pa_cons (pe_lc (own := [("member", 2)]) (g := (gName 2)) (by rfl) sc_is_row.nd (pi_tup (pv 0)) (blkOk_by (own := [("member", 2)]) (N := ["value", "size", "member"]) (sc := defScope s_is_row) (by decide +kernel)) (fun _ _ _ _ _ => (pg_name (i := 2) sc_is_row.nd rfl (Or.inl rfl))) (fun _ _ _ _ _ => pts_nil) (fun _ _ _ _ _ => (pe_call G_is_value (hr.mono (by decide)) rfl T.g_is_value T.F_is_value.kp (B_is_value T) .nil pass0 (pa_cons (pv 2) pa_nil)))) pa_nil))))))), ?_⟩
    walk_at "sx"
    rcases h with ⟨no, k⟩ | ⟨p, xs, rfl, hp, mem, sz, k⟩
    · refine isi_in no ?_
      walk_at "sx"
      exact k
    · refine isi_in (in_tup hp) ?_
      walk_at "sx"
      refine ⟨_, _, rfl, .inr ⟨xs, SqT.of hp, rfl⟩, ?_⟩
      walk_at "sx"
      refine i_2 (fun hc => ?_) (fun hc => ?_)
      · rw [decide_eq_true hc] at k
        walk_at "sx"
        refine ⟨_, rfl, p, rfl, ⟨_, SqT.of hp⟩, fun D hD => lc_tup (K := K) (a := p) (xs := xs) (fun i H' => Same H H' ∧ H' D = some (.lst ((xs.take i).map fun x => V.bl (isBit x)))) ⟨Same.new hD, upd_same⟩ (fun i H' _ ⟨s, _⟩ => SqT.of (s _ _ hp)) ?_ ?_⟩
        · rintro i x H' hx ⟨s', hD'⟩
          refine s_name ⟨rfl, ?_⟩
          refine s_yes (i_t ?_)
          walk_at "sx"
          refine c_t1 (ni_same s' (mem x (List.mem_of_getElem? hx))) ?_
          refine ⟨_, hD', ?_, Sx.Same.put s' hD, ?_⟩
          · rw [List.length_map, List.length_take]
            exact Nat.lt_of_le_of_lt (Nat.min_le_right _ _) (by show xs.length < 16777216; omega)
          · rw [upd_same, List.take_succ, hx]
            simp
        · rintro H' ⟨s', hD'⟩
          rw [List.take_length] at hD'
          have e : (xs.map fun x => V.bl (isBit x)) = (xs.map isBit).map V.bl := by
            rw [List.map_map]
            rfl
          rw [e] at hD'
          have k' := k H' s'
          rw [Bool.true_and, show xs.all isBit = (xs.map isBit).all id by rw [List.all_map]; rfl] at k'
          walk_at "sx"
          exact r_all hD' k'
      · rw [decide_eq_false hc] at k
        exact k H (L2.Same.refl _)
end
end K15

set_option Elab.async false
set_option linter.all false
set_option maxRecDepth 100000
set_option maxHeartbeats 2000000
namespace K15
open PySem L2 Sx
local macro_rules | `(tactic| walk_at "cond") => `(tactic| first
  | assumption
  | decide
  | exact c_mul_r (by first | decide | omega) (by first | decide | omega)
  | exact c_mul_l (by first | decide | omega) (by first | decide | omega)
  | exact c_div (by first | decide | omega) (by first | decide | omega)
  | exact c_pow (by first | decide | omega) (by first | decide | omega) (by first | decide | omega)
  | omega)
local macro_rules | `(tactic| walk_at "ne") => `(tactic| first
  | assumption
  | (refine Ne.symm ?_; assumption)
  | (refine' Flow.ne ?nh ?nn; (case nn => assumption); (case nh => walk_at "fl"))
  | (refine Ne.symm ?_; refine' Flow.ne ?nh ?nn; (case nn => assumption); (case nh => walk_at "fl"))
  | (refine' ne_of_none ?nh ?nn; (case nn => assumption); (case nh => walk_at "at"))
  | (refine Ne.symm ?_; refine' ne_of_none ?nh ?nn; (case nn => assumption); (case nh => walk_at "at")))
local macro_rules | `(tactic| walk_at "at") => `(tactic| first
  | assumption
  | (refine Same.up (by assumption) ?_; walk_at "at")
  | (refine Keep.up (by assumption) (by walk_at "ne") ?_; walk_at "at"))
local macro_rules | `(tactic| walk_at "fl") => `(tactic| first
  | assumption
  | (refine Flow.same (by assumption) ?_; walk_at "fl")
  | (refine Flow.keep (by assumption) (by walk_at "ne") ?_; walk_at "fl"))
local macro_rules | `(tactic| walk_at "fr") => `(tactic| first
  | assumption
  | (refine same_free (by assumption) ?_; walk_at "fr")
  | (refine Keep.free (by assumption) (by walk_at "ne") ?_; walk_at "fr"))
local macro_rules | `(tactic| walk_at "kp") => `(tactic| first
  | assumption
  | exact Keep.refl _ _
  | (refine Keep.trans ?_ (by assumption); walk_at "kp")
  | (refine Keep.trans ?_ (Keep.same (by assumption)); walk_at "kp"))
local macro_rules | `(tactic| walk_at "sm") => `(tactic| first
  | assumption
  | exact L2.Same.refl _
  | (refine L2.Same.trans ?_ (by assumption); walk_at "sm"))
local macro_rules | `(tactic| walk_at "sz") => `(tactic| first | exact Nat.le_of_ble_eq_true rfl | omega)
local macro_rules | `(tactic| walk_at "new") => `(tactic| (intro p np; generalize hE : upd _ p _ = H2; have s2 := new_same np hE; have h2 := new_at hE; clear hE))
local macro_rules | `(tactic| walk_at "newx") => `(tactic| (intro e d na nd hda; generalize hE : upd (upd _ d _) e _ = H2; have s2 := newx_same na nd hE; have h2 := newx_at hE; have h3 := newx_d hda hE; clear hE))
local macro_rules | `(tactic| walk_at "s1") => `(tactic| first
  | with_reducible refine s_seq ?_
  | with_reducible refine s_asg ?_
  | with_reducible refine s_name ?_
  | with_reducible refine s_ret ?_
  | with_reducible refine s_c ?_
  | ((with_reducible refine' s_var ?hv ?_); (case hv => rfl))
  | with_reducible refine s_op ?_
  | with_reducible refine s_un ?_
  | with_reducible refine s_ifS ?_
  | with_reducible refine s_cb ?_
  | with_reducible refine s_cons ?_
  | with_reducible refine s_nil ?_
  | with_reducible refine s_call ?_
  | with_reducible refine s_test ?_
  | with_reducible refine s_tB ?_
  | with_reducible refine s_bl ?_
  | with_reducible refine s_and ?_
  | with_reducible refine s_or ?_
  | with_reducible refine s_not ?_
  | with_reducible refine s_andV ?_
  | with_reducible refine s_orV ?_
  | with_reducible refine s_notV ?_
  | with_reducible refine s_blV ?_
  | with_reducible refine s_if ?_
  | with_reducible refine s_tup ?_
  | with_reducible refine s_lst ?_
  | with_reducible refine s_drop ?_
  | with_reducible refine s_next ?_
  | with_reducible refine s_sub ?_
  | with_reducible refine s_bm ?_
  | with_reducible refine s_callK ?_
  | with_reducible refine s_brk ?_
  | with_reducible refine s_cont ?_
  | with_reducible refine r_I0 ?_
  | with_reducible refine r_U ?_
  | with_reducible refine r_eqI ?_
  | with_reducible refine r_neI ?_
  | with_reducible refine r_isB ?_
  | with_reducible refine r_notB ?_
  | with_reducible refine i_t ?_
  | with_reducible refine i_f ?_
  | with_reducible refine i_nt ?_
  | with_reducible refine i_nf ?_
  | ((with_reducible refine' r_I ?hc ?_); (case hc => walk_at "cond"))
  | (with_reducible refine .inl ⟨_, rfl, ?_⟩)
  | (with_reducible refine ⟨_, rfl, ?_⟩)
  | ((with_reducible refine' r_ixL ?hx ?ha ?_); (case hx => walk_at "at"); (case ha => rfl))
  | ((with_reducible refine' r_ixT ?hx ?ha ?_); (case hx => walk_at "at"); (case ha => rfl))
  | ((with_reducible refine' r_setL ?hx ?ha ?_); (case hx => walk_at "at"); (case ha => rfl); intro H2 k2 h2; (try dsimp only [List.set, Int.toNat] at h2))
  | ((with_reducible refine' r_app ?hx ?hl ?_); (case hx => walk_at "at"); (case hl => first | exact Nat.lt_of_ble_eq_true rfl | omega); intro H2 k2 h2)
  | ((with_reducible refine' ty_list ?hx ?_); (case hx => walk_at "at"))
  | (refine And.intro (by (with_reducible show _ ≤ sizeLine); walk_at "sz") ?_; walk_at "new")
  | with_reducible refine s_exv ?_
  | walk_at "newx")
local macro_rules | `(tactic| walk_at "sx") => `(tactic| repeat (walk_at "s1"))
local macro_rules | `(tactic| walk_at "s2") => `(tactic| first
  | ((with_reducible refine' r_ixG ?hx ?hn ?_); (case hx => walk_at "at"); (case hn => omega))
  | ((with_reducible refine' r_ixGT ?hx ?hn ?_); (case hx => walk_at "at"); (case hn => omega))
  | (with_reducible refine ig_cons (fun hix => ?_) (fun hix => ?_))
  | ((with_reducible refine ig_nil ?_); omega)
  | ((with_reducible refine' i_T ?hc ?_); (case hc => omega))
  | ((with_reducible refine' i_F ?hc ?_); (case hc => omega))
  | (with_reducible refine i_2 (fun hc => ?_) (fun hc => ?_))
  | (with_reducible refine i_n2 (fun hc => ?_) (fun hc => ?_)))
local macro_rules | `(tactic| walk_at "go") => `(tactic| repeat' (first | walk_at "s1" | walk_at "s2"))

local macro_rules | `(tactic| walk_at "s1") => `(tactic| first
  | with_reducible refine s_chain ?_
  | with_reducible refine s_fldS ?_
  | with_reducible refine s_fld ?_
  | with_reducible refine s_dIn ?_
  | with_reducible refine s_dNotIn ?_
  | with_reducible refine s_sl ?_
  | with_reducible refine s_noPart ?_
  | with_reducible refine s_part ?_
  | with_reducible refine s_meth ?_
  | with_reducible refine s_make ?_)

section
variable {P : Program} {w : World} {K : PySem.W.Frag} {mg : Str → Option Value} {base : Heap} {A : Ad}
/-- bits -/
def Bits (n : Nat) (r : List Int) : Prop := r.length = n ∧ ∀ x ∈ r, x = 0 ∨ x = 1
abbrev rf (p : Addr × List Int) : V := .ref p.1
/-- rows of n bits that stand each at its place -/
def RowsAt (H : Hp) (n : Nat) (ks : List (Addr × List Int)) : Prop := ∀ p ∈ ks, H p.1 = some (.tup (p.2.map V.int)) ∧ Bits n p.2
theorem RowsAt.same {H H' : Hp} {n : Nat} {ks : List (Addr × List Int)} (e : Same H H') (h : RowsAt H n ks) : RowsAt H' n ks := fun p hp => ⟨e _ _ (h p hp).1, (h p hp).2⟩
theorem bit_all {n : Nat} {r : List Int} (h : Bits n r) : ((r.map V.int).all isBit) = true := by
  rw [List.all_eq_true]
  intro x hx
  obtain ⟨i, hi, rfl⟩ := List.mem_map.mp hx
  rcases h.2 i hi with rfl | rfl <;> rfl
theorem ints_ni {H : Hp} {r : List Int} : ∀ x ∈ r.map V.int, NI K H x := fun x hx => by
  obtain ⟨i, hi, rfl⟩ := List.mem_map.mp hx
  exact ni_int i
theorem c_row {H : Hp} {Q : VK} {E : XK} {p : Addr} {r : List Int} {n m : Nat} (hp : H p = some (.tup (r.map V.int))) (b : Bits m r) (sm : m < 1000) (q : ∀ H', Same H H' → Q (.bl (decide ((m : Int) = n))) H') : spRow K ([.ref p, .int n] ++ []) H Q E :=
  ⟨_, _, rfl, .inr ⟨p, _, rfl, hp, ints_ni, by rw [List.length_map, b.1]; exact sm, fun H' s => by
    rw [bit_all b, Bool.and_true, List.length_map, b.1]
    exact q H' s⟩⟩
theorem kit_any_l : PySem.W.kitAny K (.type "list") [.type "list", .type "tuple"] = some true := kitAny_cons (b := true) (kit_ty (by decide +kernel)) (fun z => nomatch z) (fun _ => rfl)
/-- are_rows of what are rows -/
def spAre : Sp := fun vs H Q _ => ∃ (l : Addr) (n : Nat) (ks : List (Addr × List Int)), vs = [.ref l, .int n] ∧ H l = some (.lst (ks.map rf)) ∧ ks ≠ [] ∧ ks.length < 1000 ∧ n < 1000 ∧ RowsAt H n ks ∧ ∀ H', Same H H' → Q (.bl true) H'
theorem ok_are (T : Txt P K mg A) : FnOk P w K mg base CX0 4 A.a_are_rows A.d_are_rows ["rows", "size"] spAre := by
  refine T.F_are_rows.ok sc_are_rows (fun vs H Q E h => ?_) (fun cdv A' outer s H vs Q E hr h => ?_)
  · obtain ⟨l, n, ks, rfl, _⟩ := h
    rfl
  · obtain ⟨l, n, ks, rfl, hl, ne, sz, sn, rows, k⟩ := h
    have G_is_row := ok_row (w := w) (base := base) T
    refine ⟨_, (pss_cons (ps_if (PW.pt (pw_or (pt_not (pt_val (pe_callB (id := "isinstance") (r := rIsiT K) call_isiT (by rfl) T.n_isinstance (by decide +kernel) (pa_cons (pv 0) (pa_cons (pe_tup (pa_cons (pe_bltn (v := .ty "list") (u := .type "list") (by rfl) T.n_list (by decide +kernel) rfl) (pa_cons (pe_bltn (v := .ty "tuple") (u := .type "tuple") (by rfl) T.n_tuple (by decide +kernel) rfl) pa_nil))) pa_nil))))) (pw_or1 (pt_cmpR op_eq (pe_callB call_len (by rfl) T.n_len (by decide +kernel) (pa_cons (pv 0) pa_nil)) pe_int (nomark _))))) (pss_one (ps_ret pe_bl)) pss_nil)
  (pss_one (ps_ret (pe_callB (cr_all rfl) (by rfl) T.n_all (by decide +kernel) (pa_cons (pe_lc (own := [("row", 2)]) (g := (gName 2)) (by rfl) sc_are_rows.nd (pi_list (pv 0)) (blkOk_by (own := [("row", 2)]) (N := ["rows", "size", "row"]) (sc := defScope s_are_rows) (by decide +kernel)) (fun _ _ _ _ _ => (pg_name (i := 2) sc_are_rows.nd rfl (Or.inl rfl))) (fun _ _ _ _ _ => pts_nil) (fun _ _ _ _ _ => (pe_call G_is_row (hr.mono (by decide)) rfl T.g_is_row T.F_is_row.kp (B_is_row T) .nil pass0 (pa_cons (pv 2) (pa_cons (pv 1) pa_nil))))) pa_nil))))), ?_⟩
    walk_at "sx"
    rename_i pt nt H1 s1 ht
    refine ⟨.ref l, pt, _, _, [.type "list", .type "tuple"], true, rfl, ht, .cons (.ty _) (.cons (.ty _) .nil), .base (.lst (s1 _ _ hl)), kit_any_l, ?_⟩
    walk_at "sx"
    refine ⟨_, _, rfl, .inl ⟨_, SqL.of (s1 _ _ hl), rfl⟩, ?_⟩
    walk_at "sx"
    have hn : ¬ (((ks.map rf).length : Int) = 0) := by
      rw [List.length_map]
      cases ks with
      | nil => exact absurd rfl ne
      | cons a b => simp; omega
    refine i_F hn ?_
    walk_at "sx"
    refine ⟨_, rfl, l, rfl, ⟨_, SqL.of (s1 _ _ hl)⟩, fun D hD => lc_list (K := K) (a := l) (xs := ks.map rf) (fun i H' => Same H1 H' ∧ H' D = some (.lst ((ks.take i).map fun _ => V.bl true))) ⟨Same.new hD, upd_same⟩ (fun i H' _ ⟨s, _⟩ => SqL.of (s _ _ (s1 _ _ hl))) ?_ ?_⟩
    · rintro i x H' hx ⟨s', hD'⟩
      obtain ⟨p, hp, rfl⟩ : ∃ p, ks[i]? = some p ∧ rf p = x := by
        rw [List.getElem?_map] at hx
        exact Option.map_eq_some_iff.mp hx
      obtain ⟨at', b⟩ := rows.same s1 p (List.mem_of_getElem? hp)
      refine s_name ⟨rfl, ?_⟩
      refine s_yes (i_t ?_)
      walk_at "sx"
      refine c_row (s' _ _ at') b sn fun H3 s3 => ?_
      rw [decide_eq_true rfl]
      refine ⟨_, s3 _ _ hD', ?_, Sx.Same.put (s'.trans s3) hD, ?_⟩
      · rw [List.length_map, List.length_take]
        exact Nat.lt_of_le_of_lt (Nat.min_le_right _ _) (by show ks.length < 16777216; omega)
      · rw [upd_same, List.take_succ, hp]
        simp
    · rintro H' ⟨s', hD'⟩
      rw [List.length_map, List.take_length] at hD'
      have e : (ks.map fun _ => V.bl true) = (ks.map fun _ => true).map V.bl := by
        rw [List.map_map]
        rfl
      rw [e] at hD'
      walk_at "sx"
      refine r_all hD' ?_
      have z : ((ks.map fun _ => true).all id) = true := by
        rw [List.all_eq_true]
        intro x hx
        obtain ⟨_, _, rfl⟩ := List.mem_map.mp hx
        rfl
      rw [z]
      exact k _ (s1.trans s')
end
end K15

set_option Elab.async false
set_option linter.all false
set_option maxRecDepth 100000
set_option maxHeartbeats 4000000
namespace K15
open PySem L2 Sx
local macro_rules | `(tactic| walk_at "cond") => `(tactic| first
  | assumption
  | decide
  | exact c_mul_r (by first | decide | omega) (by first | decide | omega)
  | exact c_mul_l (by first | decide | omega) (by first | decide | omega)
  | exact c_div (by first | decide | omega) (by first | decide | omega)
  | exact c_pow (by first | decide | omega) (by first | decide | omega) (by first | decide | omega)
  | omega)
local macro_rules | `(tactic| walk_at "ne") => `(tactic| first
  | assumption
  | (refine Ne.symm ?_; assumption)
  | (refine' Flow.ne ?nh ?nn; (case nn => assumption); (case nh => walk_at "fl"))
  | (refine Ne.symm ?_; refine' Flow.ne ?nh ?nn; (case nn => assumption); (case nh => walk_at "fl"))
  | (refine' ne_of_none ?nh ?nn; (case nn => assumption); (case nh => walk_at "at"))
  | (refine Ne.symm ?_; refine' ne_of_none ?nh ?nn; (case nn => assumption); (case nh => walk_at "at")))
local macro_rules | `(tactic| walk_at "at") => `(tactic| first
  | assumption
  | (refine Same.up (by assumption) ?_; walk_at "at")
  | (refine Keep.up (by assumption) (by walk_at "ne") ?_; walk_at "at"))
local macro_rules | `(tactic| walk_at "fl") => `(tactic| first
  | assumption
  | (refine Flow.same (by assumption) ?_; walk_at "fl")
  | (refine Flow.keep (by assumption) (by walk_at "ne") ?_; walk_at "fl"))
local macro_rules | `(tactic| walk_at "fr") => `(tactic| first
  | assumption
  | (refine same_free (by assumption) ?_; walk_at "fr")
  | (refine Keep.free (by assumption) (by walk_at "ne") ?_; walk_at "fr"))
local macro_rules | `(tactic| walk_at "kp") => `(tactic| first
  | assumption
  | exact Keep.refl _ _
  | (refine Keep.trans ?_ (by assumption); walk_at "kp")
  | (refine Keep.trans ?_ (Keep.same (by assumption)); walk_at "kp"))
local macro_rules | `(tactic| walk_at "sm") => `(tactic| first
  | assumption
  | exact L2.Same.refl _
  | (refine L2.Same.trans ?_ (by assumption); walk_at "sm"))
local macro_rules | `(tactic| walk_at "sz") => `(tactic| first | exact Nat.le_of_ble_eq_true rfl | omega)
local macro_rules | `(tactic| walk_at "new") => `(tactic| (intro p np; generalize hE : upd _ p _ = H2; have s2 := new_same np hE; have h2 := new_at hE; clear hE))
local macro_rules | `(tactic| walk_at "newx") => `(tactic| (intro e d na nd hda; generalize hE : upd (upd _ d _) e _ = H2; have s2 := newx_same na nd hE; have h2 := newx_at hE; have h3 := newx_d hda hE; clear hE))
local macro_rules | `(tactic| walk_at "s1") => `(tactic| first
  | with_reducible refine s_seq ?_
  | with_reducible refine s_asg ?_
  | with_reducible refine s_name ?_
  | with_reducible refine s_ret ?_
  | with_reducible refine s_c ?_
  | ((with_reducible refine' s_var ?hv ?_); (case hv => rfl))
  | with_reducible refine s_op ?_
  | with_reducible refine s_un ?_
  | with_reducible refine s_ifS ?_
  | with_reducible refine s_cb ?_
  | with_reducible refine s_cons ?_
  | with_reducible refine s_nil ?_
  | with_reducible refine s_call ?_
  | with_reducible refine s_test ?_
  | with_reducible refine s_tB ?_
  | with_reducible refine s_bl ?_
  | with_reducible refine s_and ?_
  | with_reducible refine s_or ?_
  | with_reducible refine s_not ?_
  | with_reducible refine s_andV ?_
  | with_reducible refine s_orV ?_
  | with_reducible refine s_notV ?_
  | with_reducible refine s_blV ?_
  | with_reducible refine s_if ?_
  | with_reducible refine s_tup ?_
  | with_reducible refine s_lst ?_
  | with_reducible refine s_drop ?_
  | with_reducible refine s_next ?_
  | with_reducible refine s_sub ?_
  | with_reducible refine s_bm ?_
  | with_reducible refine s_callK ?_
  | with_reducible refine s_brk ?_
  | with_reducible refine s_cont ?_
  | with_reducible refine r_I0 ?_
  | with_reducible refine r_U ?_
  | with_reducible refine r_eqI ?_
  | with_reducible refine r_neI ?_
  | with_reducible refine r_isB ?_
  | with_reducible refine r_notB ?_
  | with_reducible refine i_t ?_
  | with_reducible refine i_f ?_
  | with_reducible refine i_nt ?_
  | with_reducible refine i_nf ?_
  | ((with_reducible refine' r_I ?hc ?_); (case hc => walk_at "cond"))
  | (with_reducible refine .inl ⟨_, rfl, ?_⟩)
  | (with_reducible refine ⟨_, rfl, ?_⟩)
  | ((with_reducible refine' r_ixL ?hx ?ha ?_); (case hx => walk_at "at"); (case ha => rfl))
  | ((with_reducible refine' r_ixT ?hx ?ha ?_); (case hx => walk_at "at"); (case ha => rfl))
  | ((with_reducible refine' r_setL ?hx ?ha ?_); (case hx => walk_at "at"); (case ha => rfl); intro H2 k2 h2; (try dsimp only [List.set, Int.toNat] at h2))
  | ((with_reducible refine' r_app ?hx ?hl ?_); (case hx => walk_at "at"); (case hl => first | exact Nat.lt_of_ble_eq_true rfl | omega); intro H2 k2 h2)
  | ((with_reducible refine' ty_list ?hx ?_); (case hx => walk_at "at"))
  | (refine And.intro (by (with_reducible show _ ≤ sizeLine); walk_at "sz") ?_; walk_at "new")
  | with_reducible refine s_exv ?_
  | walk_at "newx")
local macro_rules | `(tactic| walk_at "sx") => `(tactic| repeat (walk_at "s1"))
local macro_rules | `(tactic| walk_at "s2") => `(tactic| first
  | ((with_reducible refine' r_ixG ?hx ?hn ?_); (case hx => walk_at "at"); (case hn => omega))
  | ((with_reducible refine' r_ixGT ?hx ?hn ?_); (case hx => walk_at "at"); (case hn => omega))
  | (with_reducible refine ig_cons (fun hix => ?_) (fun hix => ?_))
  | ((with_reducible refine ig_nil ?_); omega)
  | ((with_reducible refine' i_T ?hc ?_); (case hc => omega))
  | ((with_reducible refine' i_F ?hc ?_); (case hc => omega))
  | (with_reducible refine i_2 (fun hc => ?_) (fun hc => ?_))
  | (with_reducible refine i_n2 (fun hc => ?_) (fun hc => ?_)))
local macro_rules | `(tactic| walk_at "go") => `(tactic| repeat' (first | walk_at "s1" | walk_at "s2"))

local macro_rules | `(tactic| walk_at "s1") => `(tactic| first
  | with_reducible refine s_chain ?_
  | with_reducible refine s_fldS ?_
  | with_reducible refine s_fld ?_
  | with_reducible refine s_dIn ?_
  | with_reducible refine s_dNotIn ?_
  | with_reducible refine s_sl ?_
  | with_reducible refine s_noPart ?_
  | with_reducible refine s_part ?_
  | with_reducible refine s_meth ?_
  | with_reducible refine s_make ?_)

section
variable {P : Program} {w : World} {K : PySem.W.Frag} {mg : Str → Option Value} {base : Heap} {A : Ad}
abbrev rkey (p : Addr × List Int) : List L2.Key × V := (p.2.map Sum.inl, .bl true)
/-- the rows ascending, each once -/
def Asc (ks : List (Addr × List Int)) : Prop := (ks.map (·.2)).Nodup ∧ ks.Pairwise (fun q r => TS.code 2 q.2 ≤ TS.code 2 r.2)
/-- a list of rules stands at x: its rows ks, each at its place -/
def RuAt (C : Addr) (H : Hp) (x : Addr) (n : Nat) (ks : List (Addr × List Int)) : Prop := ∃ dx t kn, H x = some (.ins C dx [("size", .int n), ("rows", .ref t), ("_known", .ref kn)]) ∧ H t = some (.tup (ks.map rf)) ∧ H kn = some (.dT (ks.map rkey)) ∧
  RowsAt H n ks ∧ Asc ks ∧ ks ≠ [] ∧ ks.length ≤ 64
theorem RuAt.same {C : Addr} {H H' : Hp} {x : Addr} {n : Nat} {ks : List (Addr × List Int)} (e : Same H H') (h : RuAt C H x n ks) : RuAt C H' x n ks := by
  obtain ⟨dx, t, kn, h1, h2, h3, h4, h5⟩ := h
  exact ⟨dx, t, kn, e _ _ h1, e _ _ h2, e _ _ h3, h4.same e, h5⟩
theorem bits_bd {n : Nat} {r : List Int} (h : Bits n r) : TS.Bd 2 r := fun m hm => by
  rcases h.2 m hm with rfl | rfl <;> decide
theorem rf_sq {H : Hp} {n : Nat} {ks : List (Addr × List Int)} (h : RowsAt H n ks) : ∀ p ∈ ks, SqT K H p.1 (p.2.map V.int) := fun p hp => SqT.of (h p hp).1
/-- what is made of the rows of a sequence: the same rows, ascending, each once -/
def Of (ks ks' : List (Addr × List Int)) : Prop := (∀ p ∈ ks', p ∈ ks) ∧ (∀ p ∈ ks, p.2 ∈ ks'.map (·.2)) ∧ Asc ks' ∧ ks' ≠ [] ∧ ks'.length ≤ 64
theorem one_pw {α : Type} {R : α → α → Prop} : ∀ {L : List α}, L.length ≤ 1 → L.Pairwise R
  | [], _ => .nil
  | [_], _ => List.pairwise_singleton _ _
theorem of_ne {ks L : List (Addr × List Int)} (ne : ks ≠ []) (all : ∀ p ∈ ks, p.2 ∈ L.map (·.2)) : L ≠ [] := fun e => by
  subst e
  cases ks with
  | nil => exact ne rfl
  | cons q r => exact nomatch all q List.mem_cons_self
theorem inl_inj : ∀ {r r' : List Int}, (r.map Sum.inl : List L2.Key) = r'.map Sum.inl → r = r'
  | [], [], _ => rfl
  | a :: r, b :: r', e => by
    rw [List.map_cons, List.map_cons] at e
    obtain ⟨h1, h2⟩ := List.cons.inj e
    rw [Sum.inl.inj h1, inl_inj h2]
theorem valV_none {κ : Type} [DecidableEq κ] {k : κ} : ∀ {kvs : List (κ × V)}, (∀ p ∈ kvs, p.1 ≠ k) → valV kvs k = none
  | [], _ => rfl
  | p :: r, h => by
    rw [valV_neg (h p List.mem_cons_self)]
    exact valV_none fun q hq => h q (List.mem_cons_of_mem _ hq)
theorem rkeys_next {L : List (Addr × List Int)} (nd : (L.map (·.2)).Nodup) {i : Nat} {q : Addr × List Int} (hq : L[i]? = some q) : putK ((L.take i).map rkey) (q.2.map Sum.inl) (.bl true) = (L.take (i + 1)).map rkey := by
  rw [List.take_succ, hq, putK_new]
  · simp
  · refine valV_none fun p hp e => ?_
    obtain ⟨z, hz, rfl⟩ := List.mem_map.mp hp
    have e2 : z.2 = q.2 := inl_inj e
    obtain ⟨j, hj, hjz⟩ := List.getElem_of_mem hz
    rw [List.length_take] at hj
    have hji : j < i := by omega
    have hjl : j < L.length := by omega
    rw [List.getElem_take] at hjz
    have hil : i < L.length := (List.getElem?_eq_some_iff.mp hq).1
    have hqi : L[i] = q := (List.getElem?_eq_some_iff.mp hq).2
    have z1 := List.pairwise_iff_getElem.mp nd j i (by rw [List.length_map]; exact hjl) (by rw [List.length_map]; exact hil) hji
    apply z1
    rw [List.getElem_map, List.getElem_map, hjz, hqi]
    exact e2
def spMake (C : Addr) : Sp := fun vs H Q _ => ∃ (x dx l : Addr) (n : Nat) (ks : List (Addr × List Int)), vs = [.ref x, .int n, .ref l] ∧ H x = some (.ins C dx []) ∧ H l = some (.lst (ks.map rf)) ∧ ks ≠ [] ∧ ks.length ≤ 64 ∧ n < 1000 ∧ RowsAt H n ks ∧
  (∀ p ∈ ks, p.1 ≠ x) ∧ ∀ H' ks', Keep x H H' → Of ks ks' → RuAt C H' x n ks' → Q .non H'
theorem ok_make (T : Txt P K mg A) : FnOk P w K mg base CX0 5 A.a_Rules____init__ A.d_Rules____init__ ["self", "size", "rows"] (spMake A.c_Rules) := by
  refine T.F_Rules____init__.ok sc_Rules____init__ (fun vs H Q E h => ?_) (fun cdv A' outer s H vs Q E hr h => ?_)
  · obtain ⟨x, dx, l, n, ks, rfl, _⟩ := h
    rfl
  · obtain ⟨x, dx, l, n, ks, rfl, hx, hl, ne, sz, sn, rows, nx, k⟩ := h
    have G_is_number := ok_isn (w := w) (base := base) T
    have G_are_rows := ok_are (w := w) (base := base) T
    have en : isN (.int (n : Int)) = true := decide_eq_true (Int.natCast_nonneg n)
    have lx : l ≠ x := ne_of hl hx fun z => nomatch z
    refine ⟨_, (pss_cons (ps_if (PW.pt (pw_or (pt_not (pt_val (pe_call G_is_number (hr.mono (by decide)) rfl T.g_is_number T.F_is_number.kp (B_is_number T) .nil pass0 (pa_cons (pv 1) pa_nil)))) (pw_or1 (pt_not (pt_val (pe_call G_are_rows (hr.mono (by decide)) rfl T.g_are_rows T.F_are_rows.kp (B_are_rows T) .nil pass0 (pa_cons (pv 2) (pa_cons (pv 1) pa_nil)))))))) (pss_one ps_never) pss_nil)
  (pss_cons (ps_fld (pv 0) (pv 1) (by rfl))
  (pss_cons (ps_fld (pv 0) (pe_callTy call_tuple_of (by rfl) T.n_tuple (by decide +kernel) (pa_cons (pe_callB (cr_sortedB rfl) (by rfl) T.n_sorted (by decide +kernel) (pa_cons (pe_callTy (cr_setB rfl hr.units) (by rfl) T.n_set (by decide +kernel) (pa_cons (pv 2) pa_nil)) pa_nil)) pa_nil)) (by rfl))
  (pss_one (ps_fld (pv 0) (pe_dcP (u0 := .dT []) (own := [("row", 3)]) (g := (gName 3)) (.inr rfl) hr.units0 rfl sc_Rules____init__.nd (pi_tup (pe_fld (pv 0) rfl)) (blkOk_by (own := [("row", 3)]) (N := ["self", "size", "rows", "row"]) (sc := defScope s_Rules____init__) (by decide +kernel)) ⟨fun _ _ _ _ _ => (pg_name (i := 3) sc_Rules____init__.nd rfl (Or.inl rfl)), fun _ _ _ _ _ => pts_nil, fun _ _ _ _ _ => (pv 3), fun _ _ _ _ _ => pe_bl⟩) (by rfl)))))), ?_⟩
    walk_at "sx"
    refine c_t1 (ni_int _) ?_
    rw [en]
    walk_at "sx"
    refine ⟨l, n, ks, rfl, hl, ne, by omega, sn, rows, fun H1 s1 => ?_⟩
    walk_at "sx"
    refine r_put rfl (s1 _ _ hx) T.cl_Rules T.no_Rules_size (by decide) (fun H2 k2 h2 => ?_)
    walk_at "sx"
    refine ⟨l, ks, rfl, SqL.of (k2 _ _ lx (s1 _ _ hl)), fun p hp => SqT.of (k2 _ _ (nx p hp) (s1 _ _ (rows p hp).1)), sz, fun a L na sub all => ?_⟩
    generalize hE3 : upd H2 a _ = H3
    have s3 := new_same na hE3
    have h3 := new_at hE3
    walk_at "sx"
    refine ⟨a, L, n, 2, rfl, h3, fun p hp => SqT.of (s3 _ _ (k2 _ _ (nx p (sub p hp)) (s1 _ _ (rows p (sub p hp)).1))), fun p hp => ⟨(rows p (sub p hp)).2.1, bits_bd (rows p (sub p hp)).2⟩, fun L' p pm nd len pw np => ?_⟩
    have of' : Of ks L' := ⟨fun q hq => sub q (pm.mem_iff.mp hq), fun q hq => (pm.map (·.2)).mem_iff.mpr (all q hq), ⟨nd, pw⟩, fun e => of_ne ne all (by rw [e] at pm; exact pm.symm.eq_nil), len⟩
    generalize hE4 : upd H3 p _ = H4
    have s4 := new_same np hE4
    have h4 := new_at hE4
    walk_at "sx"
    refine ⟨p, _, rfl, .inl ⟨SqL.of h4, fun t nt => ?_⟩⟩
    generalize hE5 : upd H4 t _ = H5
    have s5 := new_same nt hE5
    have h5 := new_at hE5
    have hx4 := s4 _ _ (s3 _ _ h2)
    have tx : t ≠ x := fun e => by rw [e, hx4] at nt; cases nt
    walk_at "sx"
    refine r_put rfl (s5 _ _ hx4) T.cl_Rules T.no_Rules_rows (Nat.le_of_ble_eq_true rfl) (fun H6 k6 h6 => ?_)
    have rows6 : RowsAt H6 n L' := fun q hq => ⟨k6 _ _ (nx q (of'.1 q hq)) (s5 _ _ (s4 _ _ (s3 _ _ (k2 _ _ (nx q (of'.1 q hq)) (s1 _ _ (rows q (of'.1 q hq)).1))))), (rows q (of'.1 q hq)).2⟩
    walk_at "sx"
    refine ⟨_, rfl, _, _, _, _, _, rfl, h6, T.cl_Rules, T.no_Rules_rows, rfl, t, rfl, ⟨_, SqT.of (k6 _ _ tx h5)⟩, fun D hD => dcp_tup (K := K) (a := t) (xs := L'.map rf) (fun i H' => Same H6 H' ∧ H' D = some (.dT ((L'.take i).map rkey))) ⟨Same.new hD, upd_same⟩ (fun i H' _ ⟨s, _⟩ => SqT.of (s _ _ (k6 _ _ tx h5))) ?_ ?_⟩
    · rintro i y H' hy ⟨s', hD'⟩
      obtain ⟨q, hq, rfl⟩ : ∃ q, L'[i]? = some q ∧ rf q = y := by
        rw [List.getElem?_map] at hy
        exact Option.map_eq_some_iff.mp hy
      have hm := List.mem_of_getElem? hq
      refine s_name ⟨rfl, ?_⟩
      refine s_yes (i_t ?_)
      walk_at "sx"
      refine ⟨_, DPut.t (k := q.2.map Sum.inl) hD' ?_ ?_, Sx.Same.put s' hD, ?_⟩
      · rw [List.map_map]
        exact s' _ _ (rows6 q hm).1
      · rw [List.length_map, List.length_take]
        exact Nat.lt_of_le_of_lt (Nat.min_le_right _ _) (by show L'.length < 16777216; have := of'.2.2.2.2; omega)
      · rw [upd_same, rkeys_next of'.2.2.1.1 hq]
    · rintro H' ⟨s', hD'⟩
      rw [List.length_map, List.take_length] at hD'
      have dx' : D ≠ x := fun e => by rw [e, h6] at hD; cases hD
      walk_at "sx"
      refine r_put rfl (s' _ _ h6) T.cl_Rules T.no_Rules__known (Nat.le_of_ble_eq_true rfl) (fun H7 k7 h7 => ?_)
      walk_at "sx"
      refine k H7 L' ?_ of' ⟨dx, t, D, h7, k7 _ _ tx (s' _ _ (k6 _ _ tx h5)), k7 _ _ dx' hD', fun q hq => ⟨k7 _ _ (nx q (of'.1 q hq)) (s' _ _ (rows6 q hq).1), (rows6 q hq).2⟩, of'.2.2.1, of'.2.2.2.1, of'.2.2.2.2⟩
      exact (Keep.same s1).trans (k2.trans ((Keep.same s3).trans ((Keep.same s4).trans ((Keep.same s5).trans (k6.trans ((Keep.same s').trans k7))))))
end
end K15

set_option Elab.async false
set_option linter.all false
set_option maxRecDepth 100000
set_option maxHeartbeats 4000000
namespace K15
open PySem L2 Sx
local macro_rules | `(tactic| walk_at "cond") => `(tactic| first
  | assumption
  | decide
  | exact c_mul_r (by first | decide | omega) (by first | decide | omega)
  | exact c_mul_l (by first | decide | omega) (by first | decide | omega)
  | exact c_div (by first | decide | omega) (by first | decide | omega)
  | exact c_pow (by first | decide | omega) (by first | decide | omega) (by first | decide | omega)
  | omega)
local macro_rules | `(tactic| walk_at "ne") => `(tactic| first
  | assumption
  | (refine Ne.symm ?_; assumption)
  | (refine' Flow.ne ?nh ?nn; (case nn => assumption); (case nh => walk_at "fl"))
  | (refine Ne.symm ?_; refine' Flow.ne ?nh ?nn; (case nn => assumption); (case nh => walk_at "fl"))
  | (refine' ne_of_none ?nh ?nn; (case nn => assumption); (case nh => walk_at "at"))
  | (refine Ne.symm ?_; refine' ne_of_none ?nh ?nn; (case nn => assumption); (case nh => walk_at "at")))
local macro_rules | `(tactic| walk_at "at") => `(tactic| first
  | assumption
  | (refine Same.up (by assumption) ?_; walk_at "at")
  | (refine Keep.up (by assumption) (by walk_at "ne") ?_; walk_at "at"))
local macro_rules | `(tactic| walk_at "fl") => `(tactic| first
  | assumption
  | (refine Flow.same (by assumption) ?_; walk_at "fl")
  | (refine Flow.keep (by assumption) (by walk_at "ne") ?_; walk_at "fl"))
local macro_rules | `(tactic| walk_at "fr") => `(tactic| first
  | assumption
  | (refine same_free (by assumption) ?_; walk_at "fr")
  | (refine Keep.free (by assumption) (by walk_at "ne") ?_; walk_at "fr"))
local macro_rules | `(tactic| walk_at "kp") => `(tactic| first
  | assumption
  | exact Keep.refl _ _
  | (refine Keep.trans ?_ (by assumption); walk_at "kp")
  | (refine Keep.trans ?_ (Keep.same (by assumption)); walk_at "kp"))
local macro_rules | `(tactic| walk_at "sm") => `(tactic| first
  | assumption
  | exact L2.Same.refl _
  | (refine L2.Same.trans ?_ (by assumption); walk_at "sm"))
local macro_rules | `(tactic| walk_at "sz") => `(tactic| first | exact Nat.le_of_ble_eq_true rfl | omega)
local macro_rules | `(tactic| walk_at "new") => `(tactic| (intro p np; generalize hE : upd _ p _ = H2; have s2 := new_same np hE; have h2 := new_at hE; clear hE))
local macro_rules | `(tactic| walk_at "newx") => `(tactic| (intro e d na nd hda; generalize hE : upd (upd _ d _) e _ = H2; have s2 := newx_same na nd hE; have h2 := newx_at hE; have h3 := newx_d hda hE; clear hE))
local macro_rules | `(tactic| walk_at "s1") => `(tactic| first
  | with_reducible refine s_seq ?_
  | with_reducible refine s_asg ?_
  | with_reducible refine s_name ?_
  | with_reducible refine s_ret ?_
  | with_reducible refine s_c ?_
  | ((with_reducible refine' s_var ?hv ?_); (case hv => rfl))
  | with_reducible refine s_op ?_
  | with_reducible refine s_un ?_
  | with_reducible refine s_ifS ?_
  | with_reducible refine s_cb ?_
  | with_reducible refine s_cons ?_
  | with_reducible refine s_nil ?_
  | with_reducible refine s_call ?_
  | with_reducible refine s_test ?_
  | with_reducible refine s_tB ?_
  | with_reducible refine s_bl ?_
  | with_reducible refine s_and ?_
  | with_reducible refine s_or ?_
  | with_reducible refine s_not ?_
  | with_reducible refine s_andV ?_
  | with_reducible refine s_orV ?_
  | with_reducible refine s_notV ?_
  | with_reducible refine s_blV ?_
  | with_reducible refine s_if ?_
  | with_reducible refine s_tup ?_
  | with_reducible refine s_lst ?_
  | with_reducible refine s_drop ?_
  | with_reducible refine s_next ?_
  | with_reducible refine s_sub ?_
  | with_reducible refine s_bm ?_
  | with_reducible refine s_callK ?_
  | with_reducible refine s_brk ?_
  | with_reducible refine s_cont ?_
  | with_reducible refine r_I0 ?_
  | with_reducible refine r_U ?_
  | with_reducible refine r_eqI ?_
  | with_reducible refine r_neI ?_
  | with_reducible refine r_isB ?_
  | with_reducible refine r_notB ?_
  | with_reducible refine i_t ?_
  | with_reducible refine i_f ?_
  | with_reducible refine i_nt ?_
  | with_reducible refine i_nf ?_
  | ((with_reducible refine' r_I ?hc ?_); (case hc => walk_at "cond"))
  | (with_reducible refine .inl ⟨_, rfl, ?_⟩)
  | (with_reducible refine ⟨_, rfl, ?_⟩)
  | ((with_reducible refine' r_ixL ?hx ?ha ?_); (case hx => walk_at "at"); (case ha => rfl))
  | ((with_reducible refine' r_ixT ?hx ?ha ?_); (case hx => walk_at "at"); (case ha => rfl))
  | ((with_reducible refine' r_setL ?hx ?ha ?_); (case hx => walk_at "at"); (case ha => rfl); intro H2 k2 h2; (try dsimp only [List.set, Int.toNat] at h2))
  | ((with_reducible refine' r_app ?hx ?hl ?_); (case hx => walk_at "at"); (case hl => first | exact Nat.lt_of_ble_eq_true rfl | omega); intro H2 k2 h2)
  | ((with_reducible refine' ty_list ?hx ?_); (case hx => walk_at "at"))
  | (refine And.intro (by (with_reducible show _ ≤ sizeLine); walk_at "sz") ?_; walk_at "new")
  | with_reducible refine s_exv ?_
  | walk_at "newx")
local macro_rules | `(tactic| walk_at "sx") => `(tactic| repeat (walk_at "s1"))
local macro_rules | `(tactic| walk_at "s2") => `(tactic| first
  | ((with_reducible refine' r_ixG ?hx ?hn ?_); (case hx => walk_at "at"); (case hn => omega))
  | ((with_reducible refine' r_ixGT ?hx ?hn ?_); (case hx => walk_at "at"); (case hn => omega))
  | (with_reducible refine ig_cons (fun hix => ?_) (fun hix => ?_))
  | ((with_reducible refine ig_nil ?_); omega)
  | ((with_reducible refine' i_T ?hc ?_); (case hc => omega))
  | ((with_reducible refine' i_F ?hc ?_); (case hc => omega))
  | (with_reducible refine i_2 (fun hc => ?_) (fun hc => ?_))
  | (with_reducible refine i_n2 (fun hc => ?_) (fun hc => ?_)))
local macro_rules | `(tactic| walk_at "go") => `(tactic| repeat' (first | walk_at "s1" | walk_at "s2"))

local macro_rules | `(tactic| walk_at "s1") => `(tactic| first
  | with_reducible refine s_chain ?_
  | with_reducible refine s_fldS ?_
  | with_reducible refine s_fld ?_
  | with_reducible refine s_dIn ?_
  | with_reducible refine s_dNotIn ?_
  | with_reducible refine s_sl ?_
  | with_reducible refine s_noPart ?_
  | with_reducible refine s_part ?_
  | with_reducible refine s_meth ?_
  | with_reducible refine s_make ?_)

section
variable {P : Program} {w : World} {K : PySem.W.Frag} {mg : Str → Option Value} {base : Heap} {A : Ad}
/-! numbers and their rows -/
/-- the n lowest bits of m, the highest first -/
def bitsOf : Nat → Nat → List Int
  | 0, _ => []
  | n + 1, m => bitsOf n (m / 2) ++ [((m % 2 : Nat) : Int)]
theorem bitsOf_bits : ∀ n m, Bits n (bitsOf n m)
  | 0, _ => ⟨rfl, fun x h => nomatch h⟩
  | n + 1, m => by
    obtain ⟨h1, h2⟩ := bitsOf_bits n (m / 2)
    refine ⟨by simp [bitsOf, h1], fun x hx => ?_⟩
    rcases List.mem_append.mp hx with z | z
    · exact h2 x z
    · rw [List.mem_singleton.mp z]
      omega
/-- what is left of the row behind i turns -/
theorem bitsOf_add : ∀ i n m, bitsOf (n + i) m = bitsOf n (m / 2 ^ i) ++ bitsOf i m
  | 0, n, m => by simp [bitsOf]
  | i + 1, n, m => by
    show bitsOf (n + i) (m / 2) ++ [((m % 2 : Nat) : Int)] = _
    rw [bitsOf_add i n (m / 2), List.append_assoc, Nat.div_div_eq_div_mul, ← Nat.pow_succ', bitsOf]
theorem bitsOf_next (i m : Nat) : bitsOf (i + 1) m = [((m / 2 ^ i % 2 : Nat) : Int)] ++ bitsOf i m := by
  rw [Nat.add_comm i 1, bitsOf_add i 1 m]
  rfl
def spRowOf : Sp := fun vs H Q _ => ∃ (m n : Nat), vs = [.int m, .int n] ∧ n < 1000 ∧ ∀ q H', Same H H' → H' q = some (.tup ((bitsOf n m).map V.int)) → Q (.ref q) H'
theorem ok_rowOf (T : Txt P K mg A) : FnOk P w K mg base CX0 1 A.a__law_row A.d__law_row ["number", "size"] spRowOf := by
  refine T.F__law_row.ok sc__law_row (fun vs H Q E h => ?_) (fun cdv A' outer s H vs Q E hr h => ?_)
  · obtain ⟨m, n, rfl, _⟩ := h
    rfl
  · obtain ⟨m, n, rfl, sn, k⟩ := h
    refine ⟨_, (pss_cons (ps_set (i := 2) sc__law_row.nd rfl (Or.inl rfl) (pe_tup pa_nil))
  (pss_cons (ps_for PassesOwn.never rfl (pi_range1 rfl T.n_range (pa_cons (pv 1) pa_nil)) (pg_name (i := 3) sc__law_row.nd rfl (Or.inl rfl))
  (pss_cons (ps_set (i := 2) sc__law_row.nd rfl (Or.inl rfl) (pe_op op_catA (pe_tup (pa_cons (pe_op op_mod (pe_callTy call_int1 (by rfl) T.n_int (by decide +kernel) (pa_cons (pv 0) pa_nil)) pe_int) pa_nil)) (pv 2)))
  (pss_one (ps_set (i := 0) sc__law_row.nd rfl (Or.inl rfl) (pe_op op_fdiv (pv 0) pe_int)))))
  (pss_one (ps_ret (pv 2))))), ?_⟩
    walk_at "sx"
    rename_i p0 np0 H1 s1 h1
    refine ⟨_, rfl, _, rfl, by omega, by omega, for_range (lo := 0) (n := n) (fun i σ H' => Same H H' ∧ ∃ (q : Addr) (v : Option V), σ = [some (.int (m / 2 ^ i : Nat)), some (.int n), some (.ref q), v] ∧ H' q = some (.tup ((bitsOf i m).map V.int))) ?_ ?_ ?_⟩
    · refine ⟨s1, p0, none, ?_, h1⟩
      rw [Nat.pow_zero, Nat.div_one]
      rfl
    · rintro i σ H' hi ⟨s', q, v, rfl, hq⟩
      walk_at "sx"
      rename_i p2 np2 H2 s2 h2
      have hb := (bitsOf_bits i m).1
      refine r_cat h2 (s2 _ _ hq) (by rw [List.length_map, hb, sizeLine_eq]; simp; omega) fun p3 H3 s3 h3 => ?_
      walk_at "sx"
      refine ⟨s'.trans (s2.trans s3), p3, some (.int (0 + (i : Int))), ?_, ?_⟩
      · have e : ((m / 2 ^ i : Nat) : Int) / 2 = ((m / 2 ^ (i + 1) : Nat) : Int) := by
          rw [Nat.pow_succ, ← Nat.div_div_eq_div_mul]
          omega
        rw [e]
        rfl
      · have e : (((m / 2 ^ i : Nat) : Int) % 2) = ((m / 2 ^ i % 2 : Nat) : Int) := by omega
        rw [h3, bitsOf_next, List.map_append, e]
        rfl
    · rintro σ H' ⟨s', q, v, rfl, hq⟩
      walk_at "sx"
      exact k q H' s' hq
theorem code_snoc (x : Int) : ∀ r : List Int, TS.code 2 (r ++ [x]) = TS.code 2 r * 2 + x
  | [] => by
    show x * 2 ^ 0 + 0 = 0 * 2 + x
    rw [Int.pow_zero]
    omega
  | d :: r => by
    show d * 2 ^ (r ++ [x]).length + TS.code 2 (r ++ [x]) = (d * 2 ^ r.length + TS.code 2 r) * 2 + x
    rw [code_snoc x r, List.length_append, List.length_singleton, Int.pow_succ, Int.add_mul, ← Int.mul_assoc]
    omega
theorem code_bits : ∀ n m, m < 2 ^ n → TS.code 2 (bitsOf n m) = (m : Int)
  | 0, m, h => by
    have : m = 0 := by simpa using h
    subst this
    rfl
  | n + 1, m, h => by
    rw [bitsOf, code_snoc, code_bits n (m / 2) (by rw [Nat.pow_succ] at h; omega)]
    omega
theorem bits_inj {n a b : Nat} (ha : a < 2 ^ n) (hb : b < 2 ^ n) (e : bitsOf n a = bitsOf n b) : a = b := by
  have z := congrArg (TS.code 2) e
  rw [code_bits n a ha, code_bits n b hb] at z
  omega
/-- numbers of rules: ascending, below 2 ^ n -/
structure Nums (n : Nat) (ns : List Nat) : Prop where
  asc : ns.Pairwise (· < ·)
  lt : ∀ m ∈ ns, m < 2 ^ n
  ne : ns ≠ []
  few : ns.length ≤ 64
abbrev nv (m : Nat) : V := .int m
/-- one row more in the list at D -/
theorem rows_step {H1 H' H2 : Hp} {D p : Addr} {n : Nat} {ls : List (Addr × List Int)} {r : List Int} {rs : List (List Int)} (hD : H1 D = none) (hD' : H' D = some (.lst (ls.map rf))) (s' : Same H1 H') (s2 : Same H' H2) (rl : RowsAt H' n ls) (hp : H2 p = some (.tup (r.map V.int))) (b : Bits n r)
    (sz : ls.length < 1000) (e : ls.map (·.2) ++ [r] = rs) :
    ∃ acc, H2 D = some (.lst acc) ∧ acc.length < sizeLine ∧ Same H1 (upd H2 D (.lst (acc ++ [V.ref p]))) ∧ ∃ ls' : List (Addr × List Int), (upd H2 D (.lst (acc ++ [V.ref p]))) D = some (.lst (ls'.map rf)) ∧ RowsAt (upd H2 D (.lst (acc ++ [V.ref p]))) n ls' ∧ ls'.map (·.2) = rs := by
  have hD2 := s2 _ _ hD'
  refine ⟨_, hD2, ?_, Sx.Same.put (s'.trans s2) hD, ls ++ [(p, r)], ?_, fun z hz => ?_, ?_⟩
  · rw [List.length_map]
    show ls.length < 16777216
    omega
  · rw [upd_same, List.map_append]
    rfl
  · have tu : H2 z.1 = some (.tup (z.2.map V.int)) ∧ Bits n z.2 := by
      rcases List.mem_append.mp hz with m | m
      · exact ⟨s2 _ _ (rl z m).1, (rl z m).2⟩
      · rw [List.mem_singleton.mp m]
        exact ⟨hp, b⟩
    refine ⟨?_, tu.2⟩
    rw [upd_ne (ne_of tu.1 hD2 fun e => nomatch e)]
    exact tu.1
  · rw [List.map_append]
    exact e
theorem rows_nil {H : Hp} {n : Nat} : RowsAt H n [] := fun _ h => nomatch h
/-- a list made of the rows of numbers has just these, in order -/
theorem of_nums {n : Nat} {ns : List Nat} {ls ks : List (Addr × List Int)} (N : Nums n ns) (e : ∀ r, r ∈ ls.map (·.2) ↔ r ∈ ns.map (bitsOf n)) (o : Of ls ks) : ks.map (·.2) = ns.map (bitsOf n) := by
  have ndr : (ns.map (bitsOf n)).Nodup := List.pairwise_map.mpr (List.Pairwise.imp_of_mem (fun {a b} ha hb hlt h => Nat.ne_of_lt hlt (bits_inj (N.lt a ha) (N.lt b hb) h)) N.asc)
  have mem : ∀ r, r ∈ ks.map (·.2) ↔ r ∈ ns.map (bitsOf n) := fun r => by
    rw [← e r]
    exact ⟨fun h => (List.mem_map.mp h).elim fun p hp => List.mem_map.mpr ⟨p, o.1 p hp.1, hp.2⟩, fun h => (List.mem_map.mp h).elim fun p hp => hp.2 ▸ o.2.1 p hp.1⟩
  have perm := (List.perm_ext_iff_of_nodup o.2.2.1.1 ndr).mpr mem
  refine List.Perm.eq_of_pairwise (le := fun a b => TS.code 2 a ≤ TS.code 2 b) (fun a b ha hb h1 h2 => ?_) (List.pairwise_map.mpr o.2.2.1.2) (List.pairwise_map.mpr (List.Pairwise.imp_of_mem (fun {a b} ha hb h => ?_) N.asc)) perm
  · obtain ⟨c, hc, rfl⟩ := List.mem_map.mp ((mem a).mp ha)
    obtain ⟨d, hd, rfl⟩ := List.mem_map.mp hb
    rw [code_bits n c (N.lt c hc), code_bits n d (N.lt d hd)] at h1 h2
    have : c = d := by omega
    rw [this]
  · show TS.code 2 (bitsOf n a) ≤ TS.code 2 (bitsOf n b)
    rw [code_bits n a (N.lt a ha), code_bits n b (N.lt b hb)]
    omega
end
end K15

set_option Elab.async false
set_option linter.all false
set_option maxRecDepth 100000
set_option maxHeartbeats 4000000
namespace K15
open PySem L2 Sx
/-! distinct values, and how often each comes -/
def ins (x : Nat) : List Nat → List Nat
  | [] => [x]
  | d :: D => if d = x then d :: D else d :: ins x D
def dd (xs : List Nat) : List Nat := xs.foldl (fun D x => ins x D) []
theorem dd_snoc (xs : List Nat) (x : Nat) : dd (xs ++ [x]) = ins x (dd xs) := by
  unfold dd
  rw [List.foldl_append]
  rfl
theorem mem_ins {x y : Nat} : ∀ {D : List Nat}, y ∈ ins x D ↔ y = x ∨ y ∈ D
  | [] => by simp [ins]
  | d :: D => by
    unfold ins
    split
    · rename_i e
      subst e
      simp
    · rw [List.mem_cons, mem_ins (D := D), List.mem_cons]
      exact ⟨fun h => h.elim (fun h => .inr (.inl h)) (fun h => h.elim .inl fun h => .inr (.inr h)), fun h => h.elim (fun h => .inr (.inl h)) fun h => h.elim .inl fun h => .inr (.inr h)⟩
theorem ins_nd {x : Nat} : ∀ {D : List Nat}, D.Nodup → (ins x D).Nodup
  | [], _ => by simp [ins]
  | d :: D, h => by
    unfold ins
    split
    · exact h
    · rename_i ne
      obtain ⟨h1, h2⟩ := List.nodup_cons.mp h
      refine List.nodup_cons.mpr ⟨fun m => ?_, ins_nd h2⟩
      rcases mem_ins.mp m with e | m
      · exact ne e
      · exact h1 m
theorem ins_len {x : Nat} : ∀ {D : List Nat}, (ins x D).length = if x ∈ D then D.length else D.length + 1
  | [] => by simp [ins]
  | d :: D => by
    unfold ins
    by_cases e : d = x
    · subst e
      rw [if_pos rfl, if_pos List.mem_cons_self]
    · rw [if_neg e, List.length_cons, ins_len (D := D)]
      have : (x ∈ d :: D) ↔ x ∈ D := by
        rw [List.mem_cons]
        exact ⟨fun h => h.elim (fun h => absurd h.symm e) id, .inr⟩
      by_cases m : x ∈ D
      · rw [if_pos m, if_pos (this.mpr m), List.length_cons]
      · rw [if_neg m, if_neg (fun h => m (this.mp h)), List.length_cons]
theorem dd_nd : ∀ xs : List Nat, (dd xs).Nodup := fun xs => by
  unfold dd
  generalize hD : ([] : List Nat) = D
  have h : D.Nodup := by rw [← hD]; exact List.nodup_nil
  clear hD
  induction xs generalizing D with
  | nil => exact h
  | cons x xs ih => exact ih _ (ins_nd h)
theorem dd_len : ∀ (xs : List Nat) (k : Nat), (dd (xs.take k)).length ≤ k
  | xs, 0 => by simp [dd]
  | xs, k + 1 => by
    have ih := dd_len xs k
    rw [List.take_succ]
    cases h : xs[k]? with
    | none =>
      rw [Option.toList_none, List.append_nil]
      omega
    | some x =>
      show (dd (xs.take k ++ [x])).length ≤ k + 1
      rw [dd_snoc, ins_len]
      split <;> omega
/-- the set of them -/
def Sd (D : List Nat) : Key → Bool := fun j => D.any fun x => decide (j = Sum.inl (x : Int))
theorem Sd_in {D : List Nat} {x : Nat} : Sd D (Sum.inl (x : Int)) = decide (x ∈ D) := by
  unfold Sd
  rw [Bool.eq_iff_iff, List.any_eq_true, decide_eq_true_eq]
  constructor
  · rintro ⟨y, hy, e⟩
    have e1 := Sum.inl.inj (of_decide_eq_true e)
    have e2 : x = y := by omega
    rw [e2]
    exact hy
  · exact fun h => ⟨x, h, decide_eq_true rfl⟩
theorem Sd_ins {D : List Nat} {x : Nat} : (fun j => Sd D j || decide (j = Sum.inl (x : Int))) = Sd (ins x D) := by
  funext j
  unfold Sd
  rw [Bool.eq_iff_iff, Bool.or_eq_true, List.any_eq_true, List.any_eq_true, decide_eq_true_eq]
  constructor
  · rintro (⟨y, hy, e⟩ | e)
    · exact ⟨y, mem_ins.mpr (.inr hy), e⟩
    · exact ⟨x, mem_ins.mpr (.inl rfl), decide_eq_true e⟩
  · rintro ⟨y, hy, e⟩
    rcases mem_ins.mp hy with rfl | hy
    · exact .inr (of_decide_eq_true e)
    · exact .inl ⟨y, hy, e⟩
theorem Sd_num {D : List Nat} {x : Nat} : (if Sd D (Sum.inl (x : Int)) = true then D.length else D.length + 1) = (ins x D).length := by
  rw [Sd_in, ins_len]
  by_cases h : x ∈ D
  · rw [if_pos (decide_eq_true h), if_pos h]
  · rw [if_neg (by simp [h]), if_neg h]
/-- the dict of them -/
def kvT (D : List Nat) : List (Key × V) := D.map fun x : Nat => ((Sum.inl (x : Int) : Key), V.bl true)
theorem put_cons {p : Key × V} {T : List (Key × V)} {k : Key} {v : V} (nk : ∀ q ∈ T, p.1 = k → q.1 ≠ k) : putK (p :: T) k v = if p.1 = k then (k, v) :: T else p :: putK T k v := by
  unfold putK
  by_cases e : p.1 = k
  · rw [if_pos e, if_pos (by simp [e]), List.map_cons, if_pos e, e]
    congr 1
    refine (List.map_congr_left fun q hq => ?_).trans (List.map_id T)
    rw [if_neg (nk q hq e)]
    rfl
  · rw [if_neg e, List.any_cons, decide_eq_false e, Bool.false_or]
    by_cases h : (T.any fun kv => decide (kv.1 = k)) = true
    · rw [if_pos h, if_pos h, List.map_cons, if_neg e]
    · rw [if_neg h, if_neg h]
      rfl
theorem put_T {x : Nat} : ∀ {D : List Nat}, D.Nodup → putK (kvT D) (Sum.inl (x : Int) : Key) (.bl true) = kvT (ins x D)
  | [], _ => rfl
  | d :: D, h => by
    obtain ⟨h1, h2⟩ := List.nodup_cons.mp h
    unfold kvT
    rw [List.map_cons]
    rw [put_cons (fun q hq e => ?_)]
    · unfold ins
      by_cases e : d = x
      · subst e
        rw [if_pos rfl, if_pos rfl]
        rfl
      · rw [if_neg (fun z => e (by have := Sum.inl.inj z; omega)), if_neg e, List.map_cons]
        congr 1
        exact put_T h2
    · obtain ⟨y, hy, rfl⟩ := List.mem_map.mp hq
      intro e2
      have a := Sum.inl.inj e
      have b := Sum.inl.inj e2
      apply h1
      have : y = d := by omega
      rw [← this]
      exact hy
/-- how often each class comes: its first member, its number -/
def stp (f : Nat → Nat) (x : Nat) : List (Nat × Nat) → List (Nat × Nat)
  | [] => [(x, 1)]
  | p :: T => if f p.1 = f x then (p.1, p.2 + 1) :: T else p :: stp f x T
def tally (f : Nat → Nat) (xs : List Nat) : List (Nat × Nat) := xs.foldl (fun T x => stp f x T) []
def cnt (f : Nat → Nat) (x : Nat) : List (Nat × Nat) → Nat
  | [] => 0
  | p :: T => if f p.1 = f x then p.2 else cnt f x T
theorem tally_snoc (f : Nat → Nat) (xs : List Nat) (x : Nat) : tally f (xs ++ [x]) = stp f x (tally f xs) := by
  unfold tally
  rw [List.foldl_append]
  rfl
def kvC (f : Nat → Nat) (T : List (Nat × Nat)) : List (Key × V) := T.map fun p => (Sum.inl ((f p.1 : Nat) : Int), V.int (p.2 : Nat))
def Un (f : Nat → Nat) (T : List (Nat × Nat)) : Prop := (T.map fun p => f p.1).Nodup
theorem stp_keys (f : Nat → Nat) (x : Nat) : ∀ T : List (Nat × Nat), (stp f x T).map (fun p => f p.1) = ins (f x) (T.map fun p => f p.1)
  | [] => rfl
  | p :: T => by
    unfold stp ins
    rw [List.map_cons]
    by_cases e : f p.1 = f x
    · rw [if_pos e]
      show _ = (if f p.1 = f x then _ else _)
      rw [if_pos e, List.map_cons]
    · rw [if_neg e]
      show _ = (if f p.1 = f x then _ else _)
      rw [if_neg e, List.map_cons, stp_keys f x T]
theorem un_tally (f : Nat → Nat) (xs : List Nat) : Un f (tally f xs) := by
  unfold tally
  generalize hT : ([] : List (Nat × Nat)) = T
  have h : Un f T := by rw [← hT]; exact List.nodup_nil
  clear hT
  induction xs generalizing T with
  | nil => exact h
  | cons x xs ih =>
    refine ih _ ?_
    unfold Un
    rw [stp_keys]
    exact ins_nd h
theorem get_C {f : Nat → Nat} {x : Nat} : ∀ {T : List (Nat × Nat)}, (valV (kvC f T) (Sum.inl ((f x : Nat) : Int))).getD (.int 0) = .int (cnt f x T : Nat)
  | [] => rfl
  | p :: T => by
    unfold kvC cnt
    rw [List.map_cons]
    by_cases e : f p.1 = f x
    · rw [if_pos e, valV_pos (by rw [e])]
      rfl
    · rw [if_neg e, valV_neg (fun z => e (by have := Sum.inl.inj z; omega))]
      exact get_C
theorem put_C {f : Nat → Nat} {x : Nat} : ∀ {T : List (Nat × Nat)}, Un f T → putK (kvC f T) (Sum.inl ((f x : Nat) : Int)) (.int ((cnt f x T : Nat) + 1)) = kvC f (stp f x T)
  | [], _ => rfl
  | p :: T, h => by
    obtain ⟨h1, h2⟩ := List.nodup_cons.mp (show (f p.1 :: T.map fun p => f p.1).Nodup from h)
    unfold kvC
    rw [List.map_cons, put_cons (fun q hq e => ?_)]
    · unfold stp cnt
      by_cases e : f p.1 = f x
      · rw [if_pos (by rw [e]), if_pos e, if_pos e, List.map_cons, e]
        congr 1
      · rw [if_neg (fun z => e (by have := Sum.inl.inj z; omega)), if_neg e, if_neg e, List.map_cons]
        congr 1
        exact put_C h2
    · obtain ⟨y, hy, rfl⟩ := List.mem_map.mp hq
      intro e2
      have a := Sum.inl.inj e
      have b := Sum.inl.inj e2
      apply h1
      have : f y.1 = f p.1 := by omega
      rw [← this]
      exact List.mem_map.mpr ⟨y, hy, rfl⟩
theorem stp_eq {f g : Nat → Nat} {x : Nat} : ∀ {T : List (Nat × Nat)}, (∀ p ∈ T, f p.1 = f x ↔ g p.1 = g x) → stp f x T = stp g x T
  | [], _ => rfl
  | p :: T, h => by
    unfold stp
    have ih := stp_eq (f := f) (g := g) (x := x) (T := T) fun q hq => h q (List.mem_cons_of_mem _ hq)
    have hp := h p List.mem_cons_self
    by_cases e : f p.1 = f x
    · rw [if_pos e, if_pos (hp.mp e)]
    · rw [if_neg e, if_neg (fun z => e (hp.mpr z)), ih]
theorem stp_mem {f : Nat → Nat} {x : Nat} : ∀ {T : List (Nat × Nat)} {p : Nat × Nat}, p ∈ stp f x T → p.1 = x ∨ ∃ q ∈ T, q.1 = p.1
  | [], p, h => by
    rw [show stp f x [] = [(x, 1)] from rfl, List.mem_singleton] at h
    exact .inl (by rw [h])
  | q :: T, p, h => by
    unfold stp at h
    split at h
    · rcases List.mem_cons.mp h with rfl | h
      · exact .inr ⟨q, List.mem_cons_self, rfl⟩
      · exact .inr ⟨p, List.mem_cons_of_mem _ h, rfl⟩
    · rcases List.mem_cons.mp h with rfl | h
      · exact .inr ⟨p, List.mem_cons_self, rfl⟩
      · rcases stp_mem h with e | ⟨r, hr, e⟩
        · exact .inl e
        · exact .inr ⟨r, List.mem_cons_of_mem _ hr, e⟩
theorem tally_eq {f g : Nat → Nat} {xs : List Nat} (h : ∀ a ∈ xs, ∀ b ∈ xs, f a = f b ↔ g a = g b) : tally f xs = tally g xs := by
  unfold tally
  have key : ∀ (ys : List Nat) (T : List (Nat × Nat)), (∀ y ∈ ys, y ∈ xs) → (∀ p ∈ T, p.1 ∈ xs) → ys.foldl (fun T x => stp f x T) T = ys.foldl (fun T x => stp g x T) T := by
    intro ys
    induction ys with
    | nil => intro T _ _; rfl
    | cons y ys ih =>
      intro T hy hT
      have hx := hy y List.mem_cons_self
      rw [List.foldl_cons, List.foldl_cons, stp_eq fun p hp => h _ (hT p hp) _ hx]
      refine ih _ (fun z hz => hy z (List.mem_cons_of_mem _ hz)) fun p hp => ?_
      rcases stp_mem hp with e | ⟨q, hq, e⟩
      · rw [e]
        exact hx
      · rw [← e]
        exact hT q hq
  exact key xs [] (fun _ h => h) fun _ h => nomatch h
theorem tally_ne {f : Nat → Nat} {xs : List Nat} (h : xs ≠ []) : tally f xs ≠ [] := by
  unfold tally
  have key : ∀ (ys : List Nat) (T : List (Nat × Nat)), T ≠ [] → ys.foldl (fun T x => stp f x T) T ≠ [] := by
    intro ys
    induction ys with
    | nil => exact fun T h => h
    | cons y ys ih =>
      intro T hT
      refine ih _ ?_
      cases T with
      | nil => exact absurd rfl hT
      | cons p T =>
        show (if f p.1 = f y then _ else _) ≠ []
        split <;> exact fun z => nomatch z
  cases xs with
  | nil => exact absurd rfl h
  | cons x xs => exact key xs _ fun z => nomatch z
theorem tally_len (f : Nat → Nat) : ∀ (xs : List Nat) (k : Nat), (tally f (xs.take k)).length ≤ k
  | xs, 0 => by simp [tally]
  | xs, k + 1 => by
    have ih := tally_len f xs k
    rw [List.take_succ]
    cases h : xs[k]? with
    | none =>
      rw [Option.toList_none, List.append_nil]
      omega
    | some x =>
      show (tally f (xs.take k ++ [x])).length ≤ k + 1
      rw [tally_snoc]
      have e := congrArg List.length (stp_keys f x (tally f (xs.take k)))
      rw [List.length_map, ins_len, List.length_map] at e
      split at e <;> omega
/-- all else than the mask tells the same as all with it -/
theorem or_is : ∀ a m : Nat, a < 256 → m < 256 → (a ||| m) = a - (a &&& m) + m := by
  have z : ((List.range 256).all fun a => (List.range 256).all fun m => decide ((a ||| m) = a - (a &&& m) + m)) = true := by decide +kernel
  intro a m ha hm
  exact of_decide_eq_true (List.all_eq_true.mp (List.all_eq_true.mp z a (List.mem_range.mpr ha)) m (List.mem_range.mpr hm))
end K15

set_option Elab.async false
set_option linter.all false
set_option maxRecDepth 100000
set_option maxHeartbeats 4000000
namespace K15
open PySem L2 Sx
local macro_rules | `(tactic| walk_at "cond") => `(tactic| first
  | assumption
  | decide
  | exact c_mul_r (by first | decide | omega) (by first | decide | omega)
  | exact c_mul_l (by first | decide | omega) (by first | decide | omega)
  | exact c_div (by first | decide | omega) (by first | decide | omega)
  | exact c_pow (by first | decide | omega) (by first | decide | omega) (by first | decide | omega)
  | omega)
local macro_rules | `(tactic| walk_at "ne") => `(tactic| first
  | assumption
  | (refine Ne.symm ?_; assumption)
  | (refine' Flow.ne ?nh ?nn; (case nn => assumption); (case nh => walk_at "fl"))
  | (refine Ne.symm ?_; refine' Flow.ne ?nh ?nn; (case nn => assumption); (case nh => walk_at "fl"))
  | (refine' ne_of_none ?nh ?nn; (case nn => assumption); (case nh => walk_at "at"))
  | (refine Ne.symm ?_; refine' ne_of_none ?nh ?nn; (case nn => assumption); (case nh => walk_at "at")))
local macro_rules | `(tactic| walk_at "at") => `(tactic| first
  | assumption
  | (refine Same.up (by assumption) ?_; walk_at "at")
  | (refine Keep.up (by assumption) (by walk_at "ne") ?_; walk_at "at"))
local macro_rules | `(tactic| walk_at "fl") => `(tactic| first
  | assumption
  | (refine Flow.same (by assumption) ?_; walk_at "fl")
  | (refine Flow.keep (by assumption) (by walk_at "ne") ?_; walk_at "fl"))
local macro_rules | `(tactic| walk_at "fr") => `(tactic| first
  | assumption
  | (refine same_free (by assumption) ?_; walk_at "fr")
  | (refine Keep.free (by assumption) (by walk_at "ne") ?_; walk_at "fr"))
local macro_rules | `(tactic| walk_at "kp") => `(tactic| first
  | assumption
  | exact Keep.refl _ _
  | (refine Keep.trans ?_ (by assumption); walk_at "kp")
  | (refine Keep.trans ?_ (Keep.same (by assumption)); walk_at "kp"))
local macro_rules | `(tactic| walk_at "sm") => `(tactic| first
  | assumption
  | exact L2.Same.refl _
  | (refine L2.Same.trans ?_ (by assumption); walk_at "sm"))
local macro_rules | `(tactic| walk_at "sz") => `(tactic| first | exact Nat.le_of_ble_eq_true rfl | omega)
local macro_rules | `(tactic| walk_at "new") => `(tactic| (intro p np; generalize hE : upd _ p _ = H2; have s2 := new_same np hE; have h2 := new_at hE; clear hE))
local macro_rules | `(tactic| walk_at "newx") => `(tactic| (intro e d na nd hda; generalize hE : upd (upd _ d _) e _ = H2; have s2 := newx_same na nd hE; have h2 := newx_at hE; have h3 := newx_d hda hE; clear hE))
local macro_rules | `(tactic| walk_at "s1") => `(tactic| first
  | with_reducible refine s_seq ?_
  | with_reducible refine s_asg ?_
  | with_reducible refine s_name ?_
  | with_reducible refine s_ret ?_
  | with_reducible refine s_c ?_
  | ((with_reducible refine' s_var ?hv ?_); (case hv => rfl))
  | with_reducible refine s_op ?_
  | with_reducible refine s_un ?_
  | with_reducible refine s_ifS ?_
  | with_reducible refine s_cb ?_
  | with_reducible refine s_cons ?_
  | with_reducible refine s_nil ?_
  | with_reducible refine s_call ?_
  | with_reducible refine s_test ?_
  | with_reducible refine s_tB ?_
  | with_reducible refine s_bl ?_
  | with_reducible refine s_and ?_
  | with_reducible refine s_or ?_
  | with_reducible refine s_not ?_
  | with_reducible refine s_andV ?_
  | with_reducible refine s_orV ?_
  | with_reducible refine s_notV ?_
  | with_reducible refine s_blV ?_
  | with_reducible refine s_if ?_
  | with_reducible refine s_tup ?_
  | with_reducible refine s_lst ?_
  | with_reducible refine s_drop ?_
  | with_reducible refine s_next ?_
  | with_reducible refine s_sub ?_
  | with_reducible refine s_bm ?_
  | with_reducible refine s_callK ?_
  | with_reducible refine s_brk ?_
  | with_reducible refine s_cont ?_
  | with_reducible refine r_I0 ?_
  | with_reducible refine r_U ?_
  | with_reducible refine r_eqI ?_
  | with_reducible refine r_neI ?_
  | with_reducible refine r_isB ?_
  | with_reducible refine r_notB ?_
  | with_reducible refine i_t ?_
  | with_reducible refine i_f ?_
  | with_reducible refine i_nt ?_
  | with_reducible refine i_nf ?_
  | ((with_reducible refine' r_I ?hc ?_); (case hc => walk_at "cond"))
  | (with_reducible refine .inl ⟨_, rfl, ?_⟩)
  | (with_reducible refine ⟨_, rfl, ?_⟩)
  | ((with_reducible refine' r_ixL ?hx ?ha ?_); (case hx => walk_at "at"); (case ha => rfl))
  | ((with_reducible refine' r_ixT ?hx ?ha ?_); (case hx => walk_at "at"); (case ha => rfl))
  | ((with_reducible refine' r_setL ?hx ?ha ?_); (case hx => walk_at "at"); (case ha => rfl); intro H2 k2 h2; (try dsimp only [List.set, Int.toNat] at h2))
  | ((with_reducible refine' r_app ?hx ?hl ?_); (case hx => walk_at "at"); (case hl => first | exact Nat.lt_of_ble_eq_true rfl | omega); intro H2 k2 h2)
  | ((with_reducible refine' ty_list ?hx ?_); (case hx => walk_at "at"))
  | (refine And.intro (by (with_reducible show _ ≤ sizeLine); walk_at "sz") ?_; walk_at "new")
  | with_reducible refine s_exv ?_
  | walk_at "newx")
local macro_rules | `(tactic| walk_at "sx") => `(tactic| repeat (walk_at "s1"))
local macro_rules | `(tactic| walk_at "s2") => `(tactic| first
  | ((with_reducible refine' r_ixG ?hx ?hn ?_); (case hx => walk_at "at"); (case hn => omega))
  | ((with_reducible refine' r_ixGT ?hx ?hn ?_); (case hx => walk_at "at"); (case hn => omega))
  | (with_reducible refine ig_cons (fun hix => ?_) (fun hix => ?_))
  | ((with_reducible refine ig_nil ?_); omega)
  | ((with_reducible refine' i_T ?hc ?_); (case hc => omega))
  | ((with_reducible refine' i_F ?hc ?_); (case hc => omega))
  | (with_reducible refine i_2 (fun hc => ?_) (fun hc => ?_))
  | (with_reducible refine i_n2 (fun hc => ?_) (fun hc => ?_)))
local macro_rules | `(tactic| walk_at "go") => `(tactic| repeat' (first | walk_at "s1" | walk_at "s2"))

local macro_rules | `(tactic| walk_at "s1") => `(tactic| first
  | with_reducible refine s_chain ?_
  | with_reducible refine s_fldS ?_
  | with_reducible refine s_fld ?_
  | with_reducible refine s_dIn ?_
  | with_reducible refine s_dNotIn ?_
  | with_reducible refine s_sl ?_
  | with_reducible refine s_noPart ?_
  | with_reducible refine s_part ?_
  | with_reducible refine s_meth ?_
  | with_reducible refine s_make ?_)

section
variable {P : Program} {w : World} {K : PySem.W.Frag} {mg : Str → Option Value} {base : Heap} {A : Ad}
/-- a list of rules of these numbers -/
def Rn (C : Addr) (H : Hp) (x : Addr) (n : Nat) (ns : List Nat) : Prop := ∃ ks, RuAt C H x n ks ∧ ks.map (·.2) = ns.map (bitsOf n)
theorem Rn.same {C : Addr} {H H' : Hp} {x : Addr} {n : Nat} {ns : List Nat} (e : Same H H') (h : Rn C H x n ns) : Rn C H' x n ns := by
  obtain ⟨ks, h1, h2⟩ := h
  exact ⟨ks, h1.same e, h2⟩
/-! codes and masks -/
def spCode : Sp := fun vs H Q _ => ∃ (p : Addr) (n m : Nat), vs = [.ref p] ∧ H p = some (.tup ((bitsOf n m).map V.int)) ∧ m < 2 ^ n ∧ n < 1000 ∧ Q (.int m) H
theorem ok_code (T : Txt P K mg A) : FnOk P w K mg base CX0 1 A.a_code_of A.d_code_of ["row"] spCode := by
  refine T.F_code_of.ok sc_code_of (fun vs H Q E h => ?_) (fun cdv A' outer s H vs Q E hr h => ?_)
  · obtain ⟨p, n, m, rfl, _⟩ := h
    rfl
  · obtain ⟨p, n, m, rfl, hp0, lt, sn, k⟩ := h
    have hp : True → H p = some (.tup ((bitsOf n m).map V.int)) := fun _ => hp0
    clear hp0
    refine ⟨_, (pss_cons (ps_set (i := 1) sc_code_of.nd rfl (Or.inl rfl) pe_int)
  (pss_cons (ps_for PassesOwn.never rfl (pi_tup (pv 0)) (pg_name (i := 2) sc_code_of.nd rfl (Or.inl rfl))
  (pss_one (ps_set (i := 1) sc_code_of.nd rfl (Or.inl rfl) (pe_op op_add (pe_op op_mul pe_int (pv 1)) (pv 2)))))
  (pss_one (ps_ret (pv 1))))), ?_⟩
    walk_at "sx"
    refine ⟨_, rfl, p, rfl, ⟨_, SqT.of (hp trivial)⟩, for_tup (K := K) (a := p) (xs := (bitsOf n m).map V.int) (fun i σ H' => H' = H ∧ ∃ v, σ = [some (.ref p), some (.int (TS.code 2 ((bitsOf n m).take i))), v]) ?_ ?_ ?_ ?_⟩
    · exact ⟨rfl, _, rfl⟩
    · rintro i σ H' _ ⟨rfl, _⟩
      exact SqT.of (hp trivial)
    · rintro i x σ H' hx ⟨rfl, v, rfl⟩
      rw [List.getElem?_map] at hx
      obtain ⟨b, hb, rfl⟩ := Option.map_eq_some_iff.mp hx
      walk_at "sx"
      refine ⟨rfl, some (.int b), ?_⟩
      rw [List.take_succ, hb]
      show _ = [_, some (V.int (TS.code 2 ((bitsOf n m).take i ++ [b]))), _]
      rw [code_snoc, Int.mul_comm]
      rfl
    · rintro σ H' ⟨rfl, v, rfl⟩
      rw [List.length_map, List.take_length, code_bits n m lt]
      walk_at "sx"
      exact k
def spCodes : Sp := fun vs H Q _ => ∃ (t : Addr) (n : Nat) (ns : List Nat) (ks : List (Addr × List Int)), vs = [.ref t] ∧ H t = some (.tup (ks.map rf)) ∧ RowsAt H n ks ∧ ks.map (·.2) = ns.map (bitsOf n) ∧ (∀ m ∈ ns, m < 2 ^ n) ∧ n < 1000 ∧ ns.length ≤ 64 ∧
  ∀ l H', Same H H' → H' l = some (.lst (ns.map nv)) → Q (.ref l) H'
theorem ok_codes (T : Txt P K mg A) : FnOk P w K mg base CX0 2 A.a_codes_of A.d_codes_of ["rows"] spCodes := by
  refine T.F_codes_of.ok sc_codes_of (fun vs H Q E h => ?_) (fun cdv A' outer s H vs Q E hr h => ?_)
  · obtain ⟨t, n, ns, ks, rfl, _⟩ := h
    rfl
  · obtain ⟨t, n, ns, ks, rfl, ht0, rows, ek, lt, sn, few, k⟩ := h
    have G_code_of := ok_code (w := w) (base := base) T
    have ht : True → H t = some (.tup (ks.map rf)) := fun _ => ht0
    clear ht0
    have lk : ks.length = ns.length := by simpa using congrArg List.length ek
    refine ⟨_, (pss_one (ps_ret (pe_lc (own := [("row", 1)]) (g := (gName 1)) (by rfl) sc_codes_of.nd (pi_tup (pv 0)) (blkOk_by (own := [("row", 1)]) (N := ["rows", "row"]) (sc := defScope s_codes_of) (by decide +kernel)) (fun _ _ _ _ _ => (pg_name (i := 1) sc_codes_of.nd rfl (Or.inl rfl))) (fun _ _ _ _ _ => pts_nil) (fun _ _ _ _ _ => (pe_call G_code_of (hr.mono (by decide)) rfl T.g_code_of T.F_code_of.kp (B_code_of T) .nil pass0 (pa_cons (pv 1) pa_nil)))))), ?_⟩
    refine ⟨_, rfl, t, rfl, ⟨_, SqT.of (ht trivial)⟩, fun D hD => lc_tup (K := K) (a := t) (xs := ks.map rf) (fun i H' => Same H H' ∧ H' D = some (.lst ((ns.take i).map nv))) ⟨Same.new hD, upd_same⟩ (fun i H' _ h => SqT.of (h.1 _ _ (ht trivial))) ?_ ?_⟩
    · rintro i x H' hx ⟨s', hD'⟩
      rw [List.getElem?_map] at hx
      obtain ⟨q, hq, rfl⟩ := Option.map_eq_some_iff.mp hx
      have e := congrArg (fun l => l[i]?) ek
      simp only [List.getElem?_map, hq, Option.map_some] at e
      obtain ⟨m, hm, em⟩ := Option.map_eq_some_iff.mp e.symm
      have hq' := s' _ _ (rows q (List.mem_of_getElem? hq)).1
      rw [← em] at hq'
      refine s_name ⟨rfl, ?_⟩
      refine s_yes (i_t ?_)
      walk_at "sx"
      refine ⟨q.1, n, m, rfl, hq', lt m (List.mem_of_getElem? hm), sn, ?_⟩
      refine ⟨_, hD', ?_, Sx.Same.put s' hD, ?_⟩
      · rw [List.length_map, List.length_take, sizeLine_eq]
        omega
      · rw [upd_same, List.take_succ, hm]
        simp
    · rintro H' ⟨s', hD'⟩
      rw [List.length_map, lk, List.take_length] at hD'
      exact k D H' s' hD'
/-- the mask of a lot -/
def mk (n : Nat) (js : List Nat) : Nat := (js.map fun j => 2 ^ (n - 1 - j)).sum
theorem mk_lt {n : Nat} : ∀ (js : List Nat) (lo : Nat), js.Pairwise (· < ·) → (∀ j ∈ js, lo ≤ j ∧ j < n) → mk n js < 2 ^ (n - lo)
  | [], lo, _, _ => by
    show 0 < _
    exact Nat.pow_pos (by decide)
  | j :: js, lo, pw, b => by
    obtain ⟨h1, h2⟩ := List.pairwise_cons.mp pw
    have hj := b j List.mem_cons_self
    have ih := mk_lt js (j + 1) h2 fun i hi => ⟨h1 i hi, (b i (List.mem_cons_of_mem _ hi)).2⟩
    have e : mk n (j :: js) = 2 ^ (n - 1 - j) + mk n js := rfl
    have e2 : n - (j + 1) = n - 1 - j := by omega
    rw [e2] at ih
    have e3 : 2 ^ (n - j) = 2 ^ (n - 1 - j) + 2 ^ (n - 1 - j) := by
      rw [show n - j = (n - 1 - j) + 1 by omega, Nat.pow_succ]
      omega
    have : 2 ^ (n - j) ≤ 2 ^ (n - lo) := Nat.pow_le_pow_right (by decide) (by omega)
    omega
theorem sum_nat : ∀ ns : List Nat, (ns.map fun m : Nat => (m : Int)).sum = ((ns.sum : Nat) : Int)
  | [] => rfl
  | n :: ns => by
    rw [List.map_cons, List.sum_cons, List.sum_cons, sum_nat ns]
    omega
def spMask : Sp := fun vs H Q _ => ∃ (p : Addr) (n : Nat) (js : List Nat), vs = [.ref p, .int n] ∧ H p = some (.tup (js.map nv)) ∧ (∀ j ∈ js, j < n) ∧ n ≤ 8 ∧ js.length < 1000 ∧ ∀ H', Same H H' → Q (.int (mk n js : Nat)) H'
theorem ok_mask (T : Txt P K mg A) : FnOk P w K mg base CX0 1 A.a_mask_of A.d_mask_of ["lot", "size"] spMask := by
  refine T.F_mask_of.ok sc_mask_of (fun vs H Q E h => ?_) (fun cdv A' outer s H vs Q E hr h => ?_)
  · obtain ⟨p, n, js, rfl, _⟩ := h
    rfl
  · obtain ⟨p, n, js, rfl, hp0, lt, sn, sz, k⟩ := h
    have hp : True → H p = some (.tup (js.map nv)) := fun _ => hp0
    clear hp0
    refine ⟨_, (pss_one (ps_ret (pe_callB (cr_sum rfl) (by rfl) T.n_sum (by decide +kernel) (pa_cons (pe_lc (own := [("point", 2)]) (g := (gName 2)) (by rfl) sc_mask_of.nd (pi_tup (pv 0)) (blkOk_by (own := [("point", 2)]) (N := ["lot", "size", "point"]) (sc := defScope s_mask_of) (by decide +kernel)) (fun _ _ _ _ _ => (pg_name (i := 2) sc_mask_of.nd rfl (Or.inl rfl))) (fun _ _ _ _ _ => pts_nil) (fun _ _ _ _ _ => (pe_op op_shl pe_int (pe_op op_sub (pe_op op_sub (pv 1) pe_int) (pv 2))))) pa_nil)))), ?_⟩
    walk_at "sx"
    refine ⟨_, rfl, p, rfl, ⟨_, SqT.of (hp trivial)⟩, fun D hD => lc_tup (K := K) (a := p) (xs := js.map nv) (fun i H' => Same H H' ∧ H' D = some (.lst (((js.take i).map fun j => 2 ^ (n - 1 - j)).map nv))) ⟨Same.new hD, upd_same⟩ (fun i H' _ h => SqT.of (h.1 _ _ (hp trivial))) ?_ ?_⟩
    · rintro i x H' hx ⟨s', hD'⟩
      rw [List.getElem?_map] at hx
      obtain ⟨j, hj, rfl⟩ := Option.map_eq_some_iff.mp hx
      have lj := lt j (List.mem_of_getElem? hj)
      refine s_name ⟨rfl, ?_⟩
      refine s_yes (i_t ?_)
      walk_at "sx"
      have e : (1 : Int) * 2 ^ ((n : Int) - 1 - (j : Int)).toNat = ((2 ^ (n - 1 - j) : Nat) : Int) := by
        rw [Int.one_mul, show ((n : Int) - 1 - (j : Int)).toNat = n - 1 - j by omega]
        exact_mod_cast rfl
      rw [e]
      refine ⟨_, hD', ?_, Sx.Same.put s' hD, ?_⟩
      · rw [List.length_map, List.length_map, List.length_take, sizeLine_eq]
        omega
      · rw [upd_same, List.take_succ, hj]
        simp
    · rintro H' ⟨s', hD'⟩
      rw [List.length_map, List.take_length] at hD'
      walk_at "sx"
      refine ⟨D, ((js.map fun j => 2 ^ (n - 1 - j)).map fun m : Nat => (m : Int)), rfl, SqL.of (by rw [List.map_map]; exact hD'), ?_⟩
      rw [sum_nat]
      exact k H' s'
def spReads : Sp := fun vs H Q _ => ∃ (l : Addr) (mask k : Nat) (ns : List Nat), vs = [.ref l, .int mask, .int k] ∧ H l = some (.lst (ns.map nv)) ∧ ns.length ≤ 64 ∧ k ≤ 9 ∧ ∀ H', Same H H' → Q (.bl (decide ((dd (ns.map (· &&& mask))).length = 2 ^ k))) H'
theorem band_n (a b : Nat) : Builtin.bitAnd (a : Int) (b : Int) = ((a &&& b : Nat) : Int) := by
  rw [PyProof.Rows.bitAnd_pp (Int.natCast_nonneg _) (Int.natCast_nonneg _), Int.toNat_natCast, Int.toNat_natCast]
theorem bor_n (a b : Nat) : Builtin.bitOr (a : Int) (b : Int) = ((a ||| b : Nat) : Int) := by
  rw [Bits.bitOr_pp (Int.natCast_nonneg _) (Int.natCast_nonneg _), Int.toNat_natCast, Int.toNat_natCast]
theorem pow_n (k : Nat) : (1 : Int) * 2 ^ (k : Int).toNat = ((2 ^ k : Nat) : Int) := by
  rw [Int.one_mul, Int.toNat_natCast]
  exact_mod_cast rfl
theorem dec_n (a b : Nat) : decide ((a : Int) = (b : Int)) = decide (a = b) := by
  by_cases h : a = b
  · rw [decide_eq_true h, decide_eq_true (by rw [h])]
  · rw [decide_eq_false h, decide_eq_false (by omega)]
theorem ok_reads (T : Txt P K mg A) : FnOk P w K mg base CX0 1 A.a_reads_all A.d_reads_all ["codes", "mask", "many"] spReads := by
  refine T.F_reads_all.ok sc_reads_all (fun vs H Q E h => ?_) (fun cdv A' outer s H vs Q E hr h => ?_)
  · obtain ⟨l, mask, k, ns, rfl, _⟩ := h
    rfl
  · obtain ⟨l, mask, kk, ns, rfl, hl0, few, k9, k⟩ := h
    have hl : True → H l = some (.lst (ns.map nv)) := fun _ => hl0
    clear hl0
    refine ⟨_, (pss_one (ps_ret (pe_cmpR op_eq (pe_callB cr_lenK (by rfl) T.n_len (by decide +kernel) (pa_cons (pe_scP (own := [("code", 3)]) (g := (gName 3)) rfl sc_reads_all.nd (pi_list (pv 0)) (blkOk_by (own := [("code", 3)]) (N := ["codes", "mask", "many", "code"]) (sc := defScope s_reads_all) (by decide +kernel)) ⟨fun _ _ _ _ _ => (pg_name (i := 3) sc_reads_all.nd rfl (Or.inl rfl)), fun _ _ _ _ _ => pts_nil, fun _ _ _ _ _ => (pe_op op_and (pv 3) (pv 1))⟩) pa_nil)) (pe_op op_shl pe_int (pv 2)) (nomark _)))), ?_⟩
    walk_at "sx"
    refine ⟨_, rfl, l, rfl, ⟨_, SqL.of (hl trivial)⟩, fun D hD => scp_list (K := K) (a := l) (xs := ns.map nv) (fun i H' => Same H H' ∧ H' D = some (SetK P w D (Sd (dd ((ns.take i).map (· &&& mask)))) (dd ((ns.take i).map (· &&& mask))).length)) ⟨Same.new hD, by rw [upd_same]; rfl⟩ (fun i H' _ h => SqL.of (h.1 _ _ (hl trivial))) ?_ ?_⟩
    · rintro i x H' hx ⟨s', hD'⟩
      rw [List.getElem?_map] at hx
      obtain ⟨m, hm, rfl⟩ := Option.map_eq_some_iff.mp hx
      have hD2 : True → H' D = _ := fun _ => hD'
      clear hD'
      refine s_name ⟨rfl, ?_⟩
      refine s_yes (i_t ?_)
      walk_at "sx"
      try refine r_I0 ?_
      rw [band_n]
      have ld := dd_len (ns.map (· &&& mask)) i
      rw [← List.map_take] at ld
      refine ⟨Sum.inl ((m &&& mask : Nat) : Int), _, _, rfl, hD2 trivial, by unfold scanBound; have := (List.getElem?_eq_some_iff.mp hm).1; omega, Sx.Same.put s' hD, ?_⟩
      have en : dd ((ns.take (i + 1)).map (· &&& mask)) = ins (m &&& mask) (dd ((ns.take i).map (· &&& mask))) := by
        rw [List.take_succ, hm]
        show dd ((ns.take i ++ [m]).map (· &&& mask)) = _
        rw [List.map_append, List.map_cons, List.map_nil, dd_snoc]
      rw [upd_same, Sd_ins, Sd_num, en]
      rfl
    · rintro H' ⟨s', hD'⟩
      rw [List.length_map, List.take_length] at hD'
      refine ⟨D, _, _, rfl, hD', ?_⟩
      walk_at "sx"
      rw [pow_n, dec_n]
      exact k H' s'
/-- the greatest -/
def mxl (cs : List Nat) : Nat := cs.foldr max 0
theorem mxl_is : ∀ {cs : List Nat} {m : Nat}, m ∈ cs → (∀ y ∈ cs, y ≤ m) → mxl cs = m
  | c :: cs, m, hm, h => by
    show max c (mxl cs) = m
    have up : ∀ {cs : List Nat}, (∀ y ∈ cs, y ≤ m) → mxl cs ≤ m := fun {cs} => by
      induction cs with
      | nil => exact fun _ => Nat.zero_le _
      | cons d cs ih =>
        intro h
        show max d (mxl cs) ≤ m
        exact Nat.max_le.mpr ⟨h d List.mem_cons_self, ih fun y hy => h y (List.mem_cons_of_mem _ hy)⟩
    rcases List.mem_cons.mp hm with rfl | hm
    · exact Nat.max_eq_left (up fun y hy => h y (List.mem_cons_of_mem _ hy))
    · rw [mxl_is hm fun y hy => h y (List.mem_cons_of_mem _ hy)]
      exact Nat.max_eq_right (h c List.mem_cons_self)
def spHolds : Sp := fun vs H Q _ => ∃ (l : Addr) (mask k : Nat) (ns : List Nat), vs = [.ref l, .int mask, .int k] ∧ H l = some (.lst (ns.map nv)) ∧ ns.length ≤ 64 ∧ ns ≠ [] ∧ k ≤ 9 ∧ ∀ H', Same H H' → Q (.bl (decide (mxl ((tally (· ||| mask) ns).map (·.2)) = 2 ^ k))) H'
theorem kvC_vals (f : Nat → Nat) (T : List (Nat × Nat)) : (kvC f T).map (·.2) = (((T.map (·.2)).map fun m : Nat => (m : Int))).map V.int := by
  unfold kvC
  rw [List.map_map, List.map_map, List.map_map]
  rfl
theorem s_dget2 {H : Hp} {Q : VK} {σ : L2.St} {td ty tx : TE} (h : td σ H fun x H1 => ∃ a, x = .ref a ∧ IsD H1 a ∧ ty σ H1 fun y H2 => tx σ H2 fun z H3 => ∃ o, DGet H3 a y o ∧ Q (o.getD z) H3) : tDGet2 td ty tx σ H Q := h
theorem s_lv' {H : Hp} {Q : VK} {σ : L2.St} {td : TE} (h : td σ H fun x H1 => ∃ d kvs, x = .ref d ∧ H1 d = some (.dK kvs) ∧ ∀ p, H1 p = none → Q (.ref p) (upd H1 p (.lst (kvs.map (·.2))))) : Cm.tLV td σ H Q := h
theorem ok_holds (T : Txt P K mg A) : FnOk P w K mg base CX0 1 A.a_holds_all A.d_holds_all ["codes", "mask", "many"] spHolds := by
  refine T.F_holds_all.ok sc_holds_all (fun vs H Q E h => ?_) (fun cdv A' outer s H vs Q E hr h => ?_)
  · obtain ⟨l, mask, k, ns, rfl, _⟩ := h
    rfl
  · obtain ⟨l, mask, kk, ns, rfl, hl0, few, ne, k9, k⟩ := h
    have hl : True → H l = some (.lst (ns.map nv)) := fun _ => hl0
    clear hl0
    refine ⟨_, (pss_cons (ps_set (i := 3) sc_holds_all.nd rfl (Or.inl rfl) pe_dnewK)
  (pss_cons (ps_for PassesOwn.never rfl (pi_list (pv 0)) (pg_name (i := 4) sc_holds_all.nd rfl (Or.inl rfl))
  (pss_cons (ps_set (i := 5) sc_holds_all.nd rfl (Or.inl rfl) (pe_op op_or (pv 4) (pv 1)))
  (pss_one (ps_asg (pe_op op_add (pe_dget2 (Sx.u1 hr) (pv 3) (pv 5) pe_int ⟨by rfl, by rfl, by rfl, by rfl⟩) pe_int) (pg_sub (pv 3) (pv 5) (set_dict (Sx.u1 hr)))))))
  (pss_one (ps_ret (pe_cmpR op_eq (pe_callB (cr_max rfl) (by rfl) T.n_max (by decide +kernel) (pa_cons (Cm.pe_listVals rfl (by rfl) T.n_list (pv 3)) pa_nil)) (pe_op op_shl pe_int (pv 2)) (nomark _)))))), ?_⟩
    intro pa npa
    generalize hE : upd H pa _ = H1
    have s1 := new_same npa hE
    have g1 : H1 pa = some (.dK (kvC (· ||| mask) (tally (· ||| mask) (ns.take 0)))) := new_at hE
    clear hE
    have lp : l ≠ pa := ne_of_none (hl trivial) npa
    walk_at "sx"
    refine ⟨_, rfl, l, rfl, ⟨_, SqL.of (s1 _ _ (hl trivial))⟩, for_list (K := K) (a := l) (xs := ns.map nv) (fun i σ H' => Keep pa H1 H' ∧ (True → H' pa = some (.dK (kvC (· ||| mask) (tally (· ||| mask) (ns.take i))))) ∧ ∃ v4 v5, σ = [some (.ref l), some (.int mask), some (.int kk), some (.ref pa), v4, v5]) ?_ ?_ ?_ ?_⟩
    · exact ⟨Keep.refl _ _, fun _ => g1, _, _, rfl⟩
    · rintro i σ H' _ ⟨kp, _⟩
      exact SqL.of (kp _ _ lp (s1 _ _ (hl trivial)))
    · rintro i x σ H' hx ⟨kp, hp, v4, v5, rfl⟩
      rw [List.getElem?_map] at hx
      obtain ⟨m, hm, rfl⟩ := Option.map_eq_some_iff.mp hx
      walk_at "sx"
      try refine r_I0 ?_
      rw [bor_n]
      have ld := tally_len (· ||| mask) ns i
      have li := (List.getElem?_eq_some_iff.mp hm).1
      refine s_dget2 (s_var rfl ⟨pa, rfl, .inl ⟨_, .inl (hp trivial)⟩, s_var rfl (s_c ⟨_, DGet.k (k := Sum.inl ((m ||| mask : Nat) : Int)) (hp trivial), ?_⟩)⟩)
      rw [get_C (f := (· ||| mask)) (x := m)]
      walk_at "sx"
      refine ⟨pa, _, rfl, DPut.k (k := Sum.inl ((m ||| mask : Nat) : Int)) (hp trivial) (by unfold kvC; rw [List.length_map, sizeLine_eq]; omega), ?_⟩
      have kp2 : Keep pa H' (upd H' pa (.dK (putK (kvC (· ||| mask) (tally (· ||| mask) (ns.take i))) (Sum.inl ((m ||| mask : Nat) : Int)) (.int ((cnt (· ||| mask) m (tally (· ||| mask) (ns.take i)) : Nat) + 1))))) := put_keep rfl
      refine ⟨kp.trans kp2, fun _ => ?_, _, _, rfl⟩
      rw [upd_same, put_C (f := (· ||| mask)) (x := m) (un_tally _ _), ← tally_snoc, List.take_succ, hm]
      rfl
    · rintro σ H' ⟨kp, hp, v4, v5, rfl⟩
      rw [List.length_map, List.take_length] at hp
      have s' : Same H H' := Keep.toSame s1 npa kp
      walk_at "sx"
      refine s_lv' (s_var rfl ⟨pa, _, rfl, hp trivial, fun p np => ?_⟩)
      have s2 : Same H' (upd H' p (.lst ((kvC (· ||| mask) (tally (· ||| mask) ns)).map (·.2)))) := Same.new np
      have g2 : (upd H' p (.lst ((kvC (· ||| mask) (tally (· ||| mask) ns)).map (·.2)))) p = some (.lst (((((tally (· ||| mask) ns).map (·.2)).map fun m : Nat => (m : Int))).map V.int)) := by rw [upd_same, kvC_vals]
      have tn : tally (· ||| mask) ns ≠ [] := tally_ne ne
      refine ⟨p, _, rfl, SqL.of g2, by rw [List.length_map, List.length_map]; exact List.length_pos_iff.mpr tn, fun mm hm hmx => ?_⟩
      obtain ⟨c, hc, rfl⟩ := List.mem_map.mp hm
      have ec := mxl_is hc fun y hy => by
        have := hmx (y : Int) (List.mem_map.mpr ⟨y, hy, rfl⟩)
        omega
      walk_at "sx"
      rw [pow_n, dec_n, ← ec]
      exact k _ (s'.trans s2)
/-! the two questions -/
def freeB (ns : List Nat) (n : Nat) (js : List Nat) : Bool := decide ((dd (ns.map (· &&& mk n js))).length = 2 ^ js.length)
def strongB (ns : List Nat) (n : Nat) (js : List Nat) : Bool := decide (mxl ((tally (· ||| mk n js) ns).map (·.2)) = 2 ^ js.length)
end
end K15

set_option Elab.async false
set_option linter.all false
set_option maxRecDepth 100000
set_option maxHeartbeats 4000000
namespace K15
open PySem L2 Sx
local macro_rules | `(tactic| walk_at "cond") => `(tactic| first
  | assumption
  | decide
  | exact c_mul_r (by first | decide | omega) (by first | decide | omega)
  | exact c_mul_l (by first | decide | omega) (by first | decide | omega)
  | exact c_div (by first | decide | omega) (by first | decide | omega)
  | exact c_pow (by first | decide | omega) (by first | decide | omega) (by first | decide | omega)
  | omega)
local macro_rules | `(tactic| walk_at "ne") => `(tactic| first
  | assumption
  | (refine Ne.symm ?_; assumption)
  | (refine' Flow.ne ?nh ?nn; (case nn => assumption); (case nh => walk_at "fl"))
  | (refine Ne.symm ?_; refine' Flow.ne ?nh ?nn; (case nn => assumption); (case nh => walk_at "fl"))
  | (refine' ne_of_none ?nh ?nn; (case nn => assumption); (case nh => walk_at "at"))
  | (refine Ne.symm ?_; refine' ne_of_none ?nh ?nn; (case nn => assumption); (case nh => walk_at "at")))
local macro_rules | `(tactic| walk_at "at") => `(tactic| first
  | assumption
  | (refine Same.up (by assumption) ?_; walk_at "at")
  | (refine Keep.up (by assumption) (by walk_at "ne") ?_; walk_at "at"))
local macro_rules | `(tactic| walk_at "fl") => `(tactic| first
  | assumption
  | (refine Flow.same (by assumption) ?_; walk_at "fl")
  | (refine Flow.keep (by assumption) (by walk_at "ne") ?_; walk_at "fl"))
local macro_rules | `(tactic| walk_at "fr") => `(tactic| first
  | assumption
  | (refine same_free (by assumption) ?_; walk_at "fr")
  | (refine Keep.free (by assumption) (by walk_at "ne") ?_; walk_at "fr"))
local macro_rules | `(tactic| walk_at "kp") => `(tactic| first
  | assumption
  | exact Keep.refl _ _
  | (refine Keep.trans ?_ (by assumption); walk_at "kp")
  | (refine Keep.trans ?_ (Keep.same (by assumption)); walk_at "kp"))
local macro_rules | `(tactic| walk_at "sm") => `(tactic| first
  | assumption
  | exact L2.Same.refl _
  | (refine L2.Same.trans ?_ (by assumption); walk_at "sm"))
local macro_rules | `(tactic| walk_at "sz") => `(tactic| first | exact Nat.le_of_ble_eq_true rfl | omega)
local macro_rules | `(tactic| walk_at "new") => `(tactic| (intro p np; generalize hE : upd _ p _ = H2; have s2 := new_same np hE; have h2 := new_at hE; clear hE))
local macro_rules | `(tactic| walk_at "newx") => `(tactic| (intro e d na nd hda; generalize hE : upd (upd _ d _) e _ = H2; have s2 := newx_same na nd hE; have h2 := newx_at hE; have h3 := newx_d hda hE; clear hE))
local macro_rules | `(tactic| walk_at "s1") => `(tactic| first
  | with_reducible refine s_seq ?_
  | with_reducible refine s_asg ?_
  | with_reducible refine s_name ?_
  | with_reducible refine s_ret ?_
  | with_reducible refine s_c ?_
  | ((with_reducible refine' s_var ?hv ?_); (case hv => rfl))
  | with_reducible refine s_op ?_
  | with_reducible refine s_un ?_
  | with_reducible refine s_ifS ?_
  | with_reducible refine s_cb ?_
  | with_reducible refine s_cons ?_
  | with_reducible refine s_nil ?_
  | with_reducible refine s_call ?_
  | with_reducible refine s_test ?_
  | with_reducible refine s_tB ?_
  | with_reducible refine s_bl ?_
  | with_reducible refine s_and ?_
  | with_reducible refine s_or ?_
  | with_reducible refine s_not ?_
  | with_reducible refine s_andV ?_
  | with_reducible refine s_orV ?_
  | with_reducible refine s_notV ?_
  | with_reducible refine s_blV ?_
  | with_reducible refine s_if ?_
  | with_reducible refine s_tup ?_
  | with_reducible refine s_lst ?_
  | with_reducible refine s_drop ?_
  | with_reducible refine s_next ?_
  | with_reducible refine s_sub ?_
  | with_reducible refine s_bm ?_
  | with_reducible refine s_callK ?_
  | with_reducible refine s_brk ?_
  | with_reducible refine s_cont ?_
  | with_reducible refine r_I0 ?_
  | with_reducible refine r_U ?_
  | with_reducible refine r_eqI ?_
  | with_reducible refine r_neI ?_
  | with_reducible refine r_isB ?_
  | with_reducible refine r_notB ?_
  | with_reducible refine i_t ?_
  | with_reducible refine i_f ?_
  | with_reducible refine i_nt ?_
  | with_reducible refine i_nf ?_
  | ((with_reducible refine' r_I ?hc ?_); (case hc => walk_at "cond"))
  | (with_reducible refine .inl ⟨_, rfl, ?_⟩)
  | (with_reducible refine ⟨_, rfl, ?_⟩)
  | ((with_reducible refine' r_ixL ?hx ?ha ?_); (case hx => walk_at "at"); (case ha => rfl))
  | ((with_reducible refine' r_ixT ?hx ?ha ?_); (case hx => walk_at "at"); (case ha => rfl))
  | ((with_reducible refine' r_setL ?hx ?ha ?_); (case hx => walk_at "at"); (case ha => rfl); intro H2 k2 h2; (try dsimp only [List.set, Int.toNat] at h2))
  | ((with_reducible refine' r_app ?hx ?hl ?_); (case hx => walk_at "at"); (case hl => first | exact Nat.lt_of_ble_eq_true rfl | omega); intro H2 k2 h2)
  | ((with_reducible refine' ty_list ?hx ?_); (case hx => walk_at "at"))
  | (refine And.intro (by (with_reducible show _ ≤ sizeLine); walk_at "sz") ?_; walk_at "new")
  | with_reducible refine s_exv ?_
  | walk_at "newx")
local macro_rules | `(tactic| walk_at "sx") => `(tactic| repeat (walk_at "s1"))
local macro_rules | `(tactic| walk_at "s2") => `(tactic| first
  | ((with_reducible refine' r_ixG ?hx ?hn ?_); (case hx => walk_at "at"); (case hn => omega))
  | ((with_reducible refine' r_ixGT ?hx ?hn ?_); (case hx => walk_at "at"); (case hn => omega))
  | (with_reducible refine ig_cons (fun hix => ?_) (fun hix => ?_))
  | ((with_reducible refine ig_nil ?_); omega)
  | ((with_reducible refine' i_T ?hc ?_); (case hc => omega))
  | ((with_reducible refine' i_F ?hc ?_); (case hc => omega))
  | (with_reducible refine i_2 (fun hc => ?_) (fun hc => ?_))
  | (with_reducible refine i_n2 (fun hc => ?_) (fun hc => ?_)))
local macro_rules | `(tactic| walk_at "go") => `(tactic| repeat' (first | walk_at "s1" | walk_at "s2"))

local macro_rules | `(tactic| walk_at "s1") => `(tactic| first
  | with_reducible refine s_chain ?_
  | with_reducible refine s_fldS ?_
  | with_reducible refine s_fld ?_
  | with_reducible refine s_dIn ?_
  | with_reducible refine s_dNotIn ?_
  | with_reducible refine s_sl ?_
  | with_reducible refine s_noPart ?_
  | with_reducible refine s_part ?_
  | with_reducible refine s_meth ?_
  | with_reducible refine s_make ?_)

def Ns (H : Hp) (p : Addr) (js : List Nat) : Prop := H p = some (.tup (js.map nv))
theorem Ns.same {H H' : Hp} {p : Addr} {js : List Nat} (e : Same H H') (h : Ns H p js) : Ns H' p js := e _ _ h
abbrev rN (q : Addr × List Nat) : V := .ref q.1
def NsAt (H : Hp) (ks : List (Addr × List Nat)) : Prop := ∀ q ∈ ks, Ns H q.1 q.2
theorem NsAt.same {H H' : Hp} {ks : List (Addr × List Nat)} (e : Same H H') (h : NsAt H ks) : NsAt H' ks := fun q hq => (h q hq).same e
theorem NsAt.app {H : Hp} {ks ls : List (Addr × List Nat)} (h : NsAt H ks) (g : NsAt H ls) : NsAt H (ks ++ ls) := fun q hq => (List.mem_append.mp hq).elim (h q) (g q)
theorem NsAt.one {H : Hp} {p : Addr} {js : List Nat} (h : Ns H p js) : NsAt H [(p, js)] := fun q hq => by
  rw [List.mem_singleton.mp hq]
  exact h
/-- all lots of n points, those of fewer points ahead -/
def lotsOf (n m : Nat) : List (List Nat) := (List.range (m + 1)).flatMap fun k => Cm.cmb n k
theorem zip_rN : ∀ {as : List Addr} {ls : List (List Nat)}, as.length = ls.length → (as.zip ls).map rN = as.map V.ref ∧ (as.zip ls).map (·.2) = ls
  | [], [], _ => ⟨rfl, rfl⟩
  | [], _ :: _, h => by cases h
  | _ :: _, [], h => by cases h
  | a :: as, x :: ls, h => by
    obtain ⟨e1, e2⟩ := zip_rN (as := as) (ls := ls) (by simpa using h)
    exact ⟨by rw [List.zip_cons_cons, List.map_cons, e1]; rfl, by rw [List.zip_cons_cons, List.map_cons, e2]⟩
/-- the law's own lots -/
def leastN (x : List Nat) : Nat := match x.getLast? with
  | none => 0
  | some y => y + 1
def grow (n : Nat) (x : List Nat) : List (List Nat) := (List.range (n - leastN x)).map fun t => x ++ [leastN x + t]
def lev (n : Nat) : Nat → List (List Nat)
  | 0 => [[]]
  | k + 1 => (lev n k).flatMap (grow n)
def every (n i : Nat) : List (List Nat) := (List.range i).flatMap (lev n)
theorem every_all : ∀ n : Fin 9, lotsOf n.val n.val = every n.val (n.val + 1) := by decide +kernel
theorem lev_all : ∀ n : Fin 9, ∀ i : Fin 9, (lev n.val i.val).length ≤ 70 ∧ (lev n.val i.val).all (fun x => decide (x.length = i.val) && x.all (fun y => decide (y < n.val))) = true := by decide +kernel
theorem every_eq {n : Nat} (h : n ≤ 8) : lotsOf n n = every n (n + 1) := every_all ⟨n, by omega⟩
theorem lev_len {n i : Nat} (h : n ≤ 8) (hi : i ≤ 8) : (lev n i).length ≤ 70 := (lev_all ⟨n, by omega⟩ ⟨i, by omega⟩).1
theorem lev_mem {n i : Nat} {x : List Nat} (h : n ≤ 8) (hi : i ≤ 8) (hx : x ∈ lev n i) : x.length = i ∧ ∀ y ∈ x, y < n := by
  have z := (lev_all ⟨n, by omega⟩ ⟨i, by omega⟩).2
  rw [List.all_eq_true] at z
  have z2 := z x hx
  rw [Bool.and_eq_true, decide_eq_true_eq, List.all_eq_true] at z2
  exact ⟨z2.1, fun y hy => of_decide_eq_true (z2.2 y hy)⟩
theorem atI_last (xs : List V) (x : V) : atI (xs ++ [x]) (-1) = some x := by
  unfold atI ixN
  rw [if_neg (by decide), List.length_append, List.length_singleton]
  rw [if_pos (by omega)]
  show (xs ++ [x])[((-1 : Int) + ((xs.length + 1 : Nat) : Int)).toNat]? = some x
  rw [show ((-1 : Int) + ((xs.length + 1 : Nat) : Int)).toNat = xs.length by omega]
  simp
section
variable {P : Program} {w : World} {K : PySem.W.Frag} {mg : Str → Option Value} {base : Heap} {A : Ad}
/-- 1, 2, 4 .. -/
def spFull : Sp := fun vs H Q _ => ∃ n : Nat, vs = [.int n] ∧ n ≤ 5 ∧ ∀ H', Same H H' → Q (.int (2 ^ n : Nat)) H'
theorem ok_full (T : Txt P K mg A) : FnOk P w K mg base CX0 1 A.a__law_full A.d__law_full ["size"] spFull := by
  refine T.F__law_full.ok sc__law_full (fun vs H Q E h => ?_) (fun cdv A' outer s H vs Q E hr h => ?_)
  · obtain ⟨n, rfl, _⟩ := h
    rfl
  · obtain ⟨n, rfl, sn, k⟩ := h
    refine ⟨_, (pss_one (ps_ret (pe_ix ix_seq (pe_lst (pa_cons pe_int (pa_cons pe_int (pa_cons pe_int (pa_cons pe_int (pa_cons pe_int (pa_cons pe_int pa_nil))))))) (pv 0) (fun _ _ => rfl)))), ?_⟩
    walk_at "sx"
    rename_i p0 np0 H1 s1 h1
    have hn : n = 0 ∨ n = 1 ∨ n = 2 ∨ n = 3 ∨ n = 4 ∨ n = 5 := by omega
    rcases hn with rfl | rfl | rfl | rfl | rfl | rfl
    all_goals
      refine r_ixL h1 (by rfl) ?_
      exact k _ s1
def spLots : Sp := fun vs H Q _ => ∃ n k : Nat, vs = [.int n, .int k] ∧ n ≤ 8 ∧ k ≤ 8 ∧ ∀ (p : Addr) (ks : List (Addr × List Nat)) H', H p = none → Same H H' → H' p = some (.lst (ks.map rN)) → NsAt H' ks → ks.map (·.2) = Cm.cmb n k → ks.length ≤ 70 → Q (.ref p) H'
theorem ok_lots (T : Txt P K mg A) : FnOk P w K mg base CX0 1 A.a_lots_of A.d_lots_of ["size", "many"] spLots := by
  refine T.F_lots_of.ok sc_lots_of (fun vs H Q E h => ?_) (fun cdv A' outer s H vs Q E hr h => ?_)
  · obtain ⟨n, k, rfl, _⟩ := h
    rfl
  · obtain ⟨n, k, rfl, sn, sk, q⟩ := h
    refine ⟨_, (pss_one (ps_ret (Cm.pe_listCm rfl (by rfl) T.n_list (by rfl) T.m_combinations (by rfl) T.n_range (pv 0) (pv 1)))), ?_⟩
    walk_at "sx"
    obtain ⟨c1, c2, c3⟩ := Cm.chain_cmb sn sk
    refine s_var rfl ⟨⟨_, rfl⟩, s_var rfl ⟨n, k, rfl, rfl, by omega, by omega, Cm.cmb n k, c1, c2, fun p as H' np s' hp la hat => ?_⟩⟩
    obtain ⟨e1, e2⟩ := zip_rN la
    refine q p (as.zip (Cm.cmb n k)) H' np s' (by rw [e1]; exact hp) (fun z hz => ?_) e2 (by rw [List.length_zip]; omega)
    obtain ⟨j, hj⟩ := List.mem_iff_getElem?.mp hz
    rw [List.getElem?_zip_eq_some] at hj
    exact hat j z.1 z.2 hj.1 hj.2
def spLotsTo : Sp := fun vs H Q _ => ∃ n m : Nat, vs = [.int n, .int m] ∧ n ≤ 8 ∧ m ≤ n ∧ ∀ (p : Addr) (ks : List (Addr × List Nat)) H', Same H H' → H' p = some (.tup (ks.map rN)) → NsAt H' ks → ks.map (·.2) = lotsOf n m → Q (.ref p) H'
theorem ok_lotsTo (T : Txt P K mg A) : FnOk P w K mg base CX0 2 A.a_lots_to A.d_lots_to ["size", "most"] spLotsTo := by
  refine T.F_lots_to.ok sc_lots_to (fun vs H Q E h => ?_) (fun cdv A' outer s H vs Q E hr h => ?_)
  · obtain ⟨n, m, rfl, _⟩ := h
    rfl
  · obtain ⟨n, m, rfl, sn, sm, q⟩ := h
    have G_lots_of := ok_lots (w := w) (base := base) T
    refine ⟨_, (pss_one (ps_ret (pe_callTy call_tuple_of (by rfl) T.n_tuple (by decide +kernel) (pa_cons (pe_lc2 (own := [("many", 2), ("lot", 3)]) (vs1 := [3]) (g := (gName 2)) (g1 := (gName 3)) (by rfl) sc_lots_to.nd (pi_range1 rfl T.n_range (pa_cons (pe_op op_add (pe_callB (call_min2 rfl) (by rfl) T.n_min (by decide +kernel) (pa_cons (pv 0) (pa_cons (pv 1) pa_nil))) pe_int) pa_nil)) (blkOk_by (own := [("many", 2), ("lot", 3)]) (N := ["size", "most", "many", "lot"]) (sc := defScope s_lots_to) (by decide +kernel)) (by decide) (fun _ _ _ _ _ => (pg_name (i := 2) sc_lots_to.nd rfl (Or.inl rfl))) (fun _ _ _ _ _ => pts_nil) (fun _ _ _ _ _ => (pi_listK K (pe_call G_lots_of (hr.mono (by decide)) rfl T.g_lots_of T.F_lots_of.kp (B_lots_of T) .nil pass0 (pa_cons (pv 0) (pa_cons (pv 2) pa_nil))) rfl)) (fun _ _ _ _ _ => (pg_name (i := 3) sc_lots_to.nd rfl (Or.inl rfl))) (fun _ _ _ _ _ => pts_nil) (fun _ _ _ _ _ => (pv 3))) pa_nil)))), ?_⟩
    walk_at "sx"
    unfold tLc2 iRng1
    walk_at "sx"
    refine ⟨_, _, rfl, ?_⟩
    have em : (if (m : Int) < (n : Int) then (m : Int) else (n : Int)) = (m : Int) := by split <;> omega
    rw [em]
    walk_at "sx"
    refine ⟨by omega, by omega, ?_⟩
    rw [show ((m : Int) + 1).toNat = m + 1 by omega]
    refine fun D hD => it_range (lo := 0) (n := m + 1) (fun i H' => Same H H' ∧ ∃ ks : List (Addr × List Nat), (True → H' D = some (.lst (ks.map rN))) ∧ NsAt H' ks ∧ ks.map (·.2) = (List.range i).flatMap (fun k => Cm.cmb n k) ∧ ks.length ≤ 70 * i) ⟨Same.new hD, [], fun _ => upd_same, (fun q (h : q ∈ []) => by cases h), rfl, Nat.le_refl _⟩ ?_ ?_
    · rintro i H' hi ⟨s', ks, hd, na, ek, lk⟩
      refine s_name ⟨rfl, ?_⟩
      refine s_yes (i_t ?_)
      unfold iList
      walk_at "sx"
      refine ⟨n, i, by rw [Int.zero_add]; rfl, sn, by omega, fun p k2 H2 np s2 h2 n2 e2 l2 => ?_⟩
      have pD : p ≠ D := fun e => by
        rw [e, hd trivial] at np
        cases np
      have hd2 := s2 _ _ (hd trivial)
      have h2' : True → H2 p = some (.lst (k2.map rN)) := fun _ => h2
      clear h2
      refine ⟨p, rfl, ⟨_, SqL.of (h2' trivial)⟩, it_list (K := K) (a := p) (xs := k2.map rN) (fun j H3 => Keep D H2 H3 ∧ ∃ ls : List (Addr × List Nat), (True → H3 D = some (.lst (ls.map rN))) ∧ NsAt H3 ls ∧ ls = ks ++ k2.take j) ⟨Keep.refl _ _, ks, fun _ => hd2, na.same s2, by simp⟩ (fun j H3 _ h => SqL.of (h.1 _ _ pD (h2' trivial))) ?_ ?_⟩
      · rintro j x H3 hx ⟨s3, ls, hd3, na3, rfl⟩
        obtain ⟨z, hz, rfl⟩ : ∃ z, k2[j]? = some z ∧ rN z = x := by
          rw [List.getElem?_map] at hx
          exact Option.map_eq_some_iff.mp hx
        refine s_name ⟨rfl, ?_⟩
        refine s_yes (i_t ?_)
        walk_at "sx"
        have hd4 := hd3 trivial
        have out : ∀ b xs, H3 b = some (.tup xs) → upd H3 D (.lst ((ks ++ k2.take j).map rN ++ [rN z])) b = some (.tup xs) := fun b xs e => by
          rw [upd_ne (fun w => by rw [w, hd4] at e; cases e)]
          exact e
        have hm := List.mem_of_getElem? hz
        refine ⟨_, hd4, by rw [List.length_map, List.length_append, List.length_take, sizeLine_eq]; omega, ?_, ks ++ k2.take (j + 1), fun _ => by rw [upd_same, List.take_succ, hz]; simp, fun q' hq' => ?_, rfl⟩
        · exact s3.trans (put_keep rfl)
        · rcases List.mem_append.mp hq' with h | h
          · exact out _ _ (na3 q' (List.mem_append_left _ h))
          · have h2 := n2 q' (List.mem_of_mem_take h)
            exact out _ _ (s3 _ _ (fun e => by rw [e] at h2; rw [show H2 D = _ from h2] at hd2; cases hd2) h2)
      · rintro H3 ⟨s3, ls, hd3, na3, rfl⟩
        rw [List.length_map, List.take_length] at *
        refine ⟨Keep.toSame (s'.trans s2) hD s3, ks ++ k2, hd3, na3, ?_, by rw [List.length_append]; omega⟩
        rw [List.map_append, ek, e2, List.range_succ, List.flatMap_append]
        simp
    · rintro H' ⟨s', ks, hd, na, ek, lk⟩
      walk_at "sx"
      refine ⟨D, _, rfl, .inl ⟨SqL.of (hd trivial), fun p np => ?_⟩⟩
      have s2 : Same H' (upd H' p (.tup (ks.map rN))) := Same.new np
      exact q p ks _ (s'.trans s2) upd_same (na.same s2) ek
def spAllLots : Sp := fun vs H Q _ => ∃ n : Nat, vs = [.int n] ∧ n ≤ 8 ∧ ∀ (p : Addr) (ks : List (Addr × List Nat)) H', Same H H' → H' p = some (.tup (ks.map rN)) → NsAt H' ks → ks.map (·.2) = lotsOf n n → Q (.ref p) H'
theorem ok_allLots (T : Txt P K mg A) : FnOk P w K mg base CX0 3 A.a_all_lots A.d_all_lots ["size"] spAllLots := by
  refine T.F_all_lots.ok sc_all_lots (fun vs H Q E h => ?_) (fun cdv A' outer s H vs Q E hr h => ?_)
  · obtain ⟨n, rfl, _⟩ := h
    rfl
  · obtain ⟨n, rfl, sn, q⟩ := h
    have G_lots_to := ok_lotsTo (w := w) (base := base) T
    refine ⟨_, (pss_one (ps_ret (pe_call G_lots_to (hr.mono (by decide)) rfl T.g_lots_to T.F_lots_to.kp (B_lots_to T) .nil pass0 (pa_cons (pv 0) (pa_cons (pv 0) pa_nil))))), ?_⟩
    walk_at "sx"
    exact ⟨n, n, rfl, sn, Nat.le_refl _, q⟩
end
end K15

set_option Elab.async false
set_option linter.all false
set_option maxRecDepth 100000
set_option maxHeartbeats 4000000
namespace K15
open PySem L2 Sx
local macro_rules | `(tactic| walk_at "cond") => `(tactic| first
  | assumption
  | decide
  | exact c_mul_r (by first | decide | omega) (by first | decide | omega)
  | exact c_mul_l (by first | decide | omega) (by first | decide | omega)
  | exact c_div (by first | decide | omega) (by first | decide | omega)
  | exact c_pow (by first | decide | omega) (by first | decide | omega) (by first | decide | omega)
  | omega)
local macro_rules | `(tactic| walk_at "ne") => `(tactic| first
  | assumption
  | (refine Ne.symm ?_; assumption)
  | (refine' Flow.ne ?nh ?nn; (case nn => assumption); (case nh => walk_at "fl"))
  | (refine Ne.symm ?_; refine' Flow.ne ?nh ?nn; (case nn => assumption); (case nh => walk_at "fl"))
  | (refine' ne_of_none ?nh ?nn; (case nn => assumption); (case nh => walk_at "at"))
  | (refine Ne.symm ?_; refine' ne_of_none ?nh ?nn; (case nn => assumption); (case nh => walk_at "at")))
local macro_rules | `(tactic| walk_at "at") => `(tactic| first
  | assumption
  | (refine Same.up (by assumption) ?_; walk_at "at")
  | (refine Keep.up (by assumption) (by walk_at "ne") ?_; walk_at "at"))
local macro_rules | `(tactic| walk_at "fl") => `(tactic| first
  | assumption
  | (refine Flow.same (by assumption) ?_; walk_at "fl")
  | (refine Flow.keep (by assumption) (by walk_at "ne") ?_; walk_at "fl"))
local macro_rules | `(tactic| walk_at "fr") => `(tactic| first
  | assumption
  | (refine same_free (by assumption) ?_; walk_at "fr")
  | (refine Keep.free (by assumption) (by walk_at "ne") ?_; walk_at "fr"))
local macro_rules | `(tactic| walk_at "kp") => `(tactic| first
  | assumption
  | exact Keep.refl _ _
  | (refine Keep.trans ?_ (by assumption); walk_at "kp")
  | (refine Keep.trans ?_ (Keep.same (by assumption)); walk_at "kp"))
local macro_rules | `(tactic| walk_at "sm") => `(tactic| first
  | assumption
  | exact L2.Same.refl _
  | (refine L2.Same.trans ?_ (by assumption); walk_at "sm"))
local macro_rules | `(tactic| walk_at "sz") => `(tactic| first | exact Nat.le_of_ble_eq_true rfl | omega)
local macro_rules | `(tactic| walk_at "new") => `(tactic| (intro p np; generalize hE : upd _ p _ = H2; have s2 := new_same np hE; have h2 := new_at hE; clear hE))
local macro_rules | `(tactic| walk_at "newx") => `(tactic| (intro e d na nd hda; generalize hE : upd (upd _ d _) e _ = H2; have s2 := newx_same na nd hE; have h2 := newx_at hE; have h3 := newx_d hda hE; clear hE))
local macro_rules | `(tactic| walk_at "s1") => `(tactic| first
  | with_reducible refine s_seq ?_
  | with_reducible refine s_asg ?_
  | with_reducible refine s_name ?_
  | with_reducible refine s_ret ?_
  | with_reducible refine s_c ?_
  | ((with_reducible refine' s_var ?hv ?_); (case hv => rfl))
  | with_reducible refine s_op ?_
  | with_reducible refine s_un ?_
  | with_reducible refine s_ifS ?_
  | with_reducible refine s_cb ?_
  | with_reducible refine s_cons ?_
  | with_reducible refine s_nil ?_
  | with_reducible refine s_call ?_
  | with_reducible refine s_test ?_
  | with_reducible refine s_tB ?_
  | with_reducible refine s_bl ?_
  | with_reducible refine s_and ?_
  | with_reducible refine s_or ?_
  | with_reducible refine s_not ?_
  | with_reducible refine s_andV ?_
  | with_reducible refine s_orV ?_
  | with_reducible refine s_notV ?_
  | with_reducible refine s_blV ?_
  | with_reducible refine s_if ?_
  | with_reducible refine s_tup ?_
  | with_reducible refine s_lst ?_
  | with_reducible refine s_drop ?_
  | with_reducible refine s_next ?_
  | with_reducible refine s_sub ?_
  | with_reducible refine s_bm ?_
  | with_reducible refine s_callK ?_
  | with_reducible refine s_brk ?_
  | with_reducible refine s_cont ?_
  | with_reducible refine r_I0 ?_
  | with_reducible refine r_U ?_
  | with_reducible refine r_eqI ?_
  | with_reducible refine r_neI ?_
  | with_reducible refine r_isB ?_
  | with_reducible refine r_notB ?_
  | with_reducible refine i_t ?_
  | with_reducible refine i_f ?_
  | with_reducible refine i_nt ?_
  | with_reducible refine i_nf ?_
  | ((with_reducible refine' r_I ?hc ?_); (case hc => walk_at "cond"))
  | (with_reducible refine .inl ⟨_, rfl, ?_⟩)
  | (with_reducible refine ⟨_, rfl, ?_⟩)
  | ((with_reducible refine' r_ixL ?hx ?ha ?_); (case hx => walk_at "at"); (case ha => rfl))
  | ((with_reducible refine' r_ixT ?hx ?ha ?_); (case hx => walk_at "at"); (case ha => rfl))
  | ((with_reducible refine' r_setL ?hx ?ha ?_); (case hx => walk_at "at"); (case ha => rfl); intro H2 k2 h2; (try dsimp only [List.set, Int.toNat] at h2))
  | ((with_reducible refine' r_app ?hx ?hl ?_); (case hx => walk_at "at"); (case hl => first | exact Nat.lt_of_ble_eq_true rfl | omega); intro H2 k2 h2)
  | ((with_reducible refine' ty_list ?hx ?_); (case hx => walk_at "at"))
  | (refine And.intro (by (with_reducible show _ ≤ sizeLine); walk_at "sz") ?_; walk_at "new")
  | with_reducible refine s_exv ?_
  | walk_at "newx")
local macro_rules | `(tactic| walk_at "sx") => `(tactic| repeat (walk_at "s1"))
local macro_rules | `(tactic| walk_at "s2") => `(tactic| first
  | ((with_reducible refine' r_ixG ?hx ?hn ?_); (case hx => walk_at "at"); (case hn => omega))
  | ((with_reducible refine' r_ixGT ?hx ?hn ?_); (case hx => walk_at "at"); (case hn => omega))
  | (with_reducible refine ig_cons (fun hix => ?_) (fun hix => ?_))
  | ((with_reducible refine ig_nil ?_); omega)
  | ((with_reducible refine' i_T ?hc ?_); (case hc => omega))
  | ((with_reducible refine' i_F ?hc ?_); (case hc => omega))
  | (with_reducible refine i_2 (fun hc => ?_) (fun hc => ?_))
  | (with_reducible refine i_n2 (fun hc => ?_) (fun hc => ?_)))
local macro_rules | `(tactic| walk_at "go") => `(tactic| repeat' (first | walk_at "s1" | walk_at "s2"))

local macro_rules | `(tactic| walk_at "s1") => `(tactic| first
  | with_reducible refine s_chain ?_
  | with_reducible refine s_fldS ?_
  | with_reducible refine s_fld ?_
  | with_reducible refine s_dIn ?_
  | with_reducible refine s_dNotIn ?_
  | with_reducible refine s_sl ?_
  | with_reducible refine s_noPart ?_
  | with_reducible refine s_part ?_
  | with_reducible refine s_meth ?_
  | with_reducible refine s_make ?_)

/-- len's reading, where the frame is told -/
abbrev rLenK (K : PySem.W.Frag) : List V → Hp → VK → Prop := fun xs H Q => ∃ x n, xs = [x] ∧ LenV K x H n ∧ Q (V.int (n : Nat)) H
/-- a field, where the frame is told -/
theorem pe_fldK {X : Cx} {e : Expr} {ta : TE} {f : Str} {pos : Pos} (K : PySem.W.Frag) (he : PE X e ta) (hk : X.K = K) (hb : attributeBase e f X.env (eval e X.env) = eval e X.env) : PE X (.Attribute e f pos) (tFld K ta f) := by
  subst hk
  exact pe_fld he hb
theorem lots_all : ∀ n : Fin 9, (lotsOf n.val n.val).length ≤ 256 ∧ (lotsOf n.val n.val).all (fun x => decide (x.Pairwise (· < ·)) && (decide (x.length ≤ 8) && x.all (fun y => decide (y < n.val)))) = true := by decide +kernel
theorem lots_len {n : Nat} (h : n ≤ 8) : (lotsOf n n).length ≤ 256 := (lots_all ⟨n, by omega⟩).1
theorem lots_mem {n : Nat} {x : List Nat} (h : n ≤ 8) (hx : x ∈ lotsOf n n) : x.Pairwise (· < ·) ∧ x.length ≤ 8 ∧ ∀ y ∈ x, y < n := by
  have z := (lots_all ⟨n, by omega⟩).2
  rw [List.all_eq_true] at z
  have z2 := z x hx
  rw [Bool.and_eq_true, Bool.and_eq_true, decide_eq_true_eq, decide_eq_true_eq, List.all_eq_true] at z2
  exact ⟨z2.1, z2.2.1, fun y hy => of_decide_eq_true (z2.2.2 y hy)⟩
theorem kl_len {n : Nat} {kl : List (Addr × List Nat)} (sn : n ≤ 8) (el : kl.map (·.2) = lotsOf n n) : kl.length ≤ 256 := by
  have := congrArg List.length el
  rw [List.length_map] at this
  rw [this]
  exact lots_len sn
theorem kl_mem {n : Nat} {kl : List (Addr × List Nat)} {z : Addr × List Nat} (sn : n ≤ 8) (el : kl.map (·.2) = lotsOf n n) (hz : z ∈ kl) : z.2.Pairwise (· < ·) ∧ z.2.length ≤ 8 ∧ ∀ y ∈ z.2, y < n := lots_mem sn (by rw [← el]; exact List.mem_map.mpr ⟨z, hz, rfl⟩)
theorem filter_map2 (b : List Nat → Bool) : ∀ kl : List (Addr × List Nat), (kl.filter fun q => b q.2).map (·.2) = (kl.map (·.2)).filter b
  | [] => rfl
  | q :: kl => by
    rw [List.map_cons, List.filter_cons, List.filter_cons]
    cases h : b q.2 with
    | true => rw [if_pos rfl, if_pos rfl, List.map_cons, filter_map2 b kl]
    | false => rw [if_neg (by simp), if_neg (by simp), filter_map2 b kl]
theorem filter_next {α : Type} (b : α → Bool) {xs : List α} {i : Nat} {x : α} (h : xs[i]? = some x) : (xs.take (i + 1)).filter b = (xs.take i).filter b ++ (if b x then [x] else []) := by
  rw [List.take_succ, h, List.filter_append]
  show _ ++ [x].filter b = _
  rw [List.filter_cons, List.filter_nil]
section
variable {P : Program} {w : World} {K : PySem.W.Frag} {mg : Str → Option Value} {base : Heap} {A : Ad}
def spFL (C : Addr) (b : List Nat → Nat → List Nat → Bool) : Sp := fun vs H Q _ => ∃ (x : Addr) (n : Nat) (ns : List Nat), vs = [.ref x] ∧ Rn C H x n ns ∧ Nums n ns ∧ n ≤ 8 ∧
  ∀ (p : Addr) (ks : List (Addr × List Nat)) H', Same H H' → H' p = some (.tup (ks.map rN)) → NsAt H' ks → ks.map (·.2) = (lotsOf n n).filter (b ns n) → Q (.ref p) H'
theorem ok_freeLots (T : Txt P K mg A) : FnOk P w K mg base CX0 4 A.a_free_lots A.d_free_lots ["rules"] (spFL A.c_Rules freeB) := by
  refine T.F_free_lots.ok sc_free_lots (fun vs H Q E h => ?_) (fun cdv A' outer s H vs Q E hr h => ?_)
  · obtain ⟨x, n, ns, rfl, _⟩ := h
    rfl
  · obtain ⟨x, n, ns, rfl, R, N, sn, k⟩ := h
    have G_codes_of := ok_codes (w := w) (base := base) T
    have G_all_lots := ok_allLots (w := w) (base := base) T
    have G_mask_of := ok_mask (w := w) (base := base) T
    have G_reads_all := ok_reads (w := w) (base := base) T
    refine ⟨_, (pss_cons (ps_set (i := 1) sc_free_lots.nd rfl (Or.inr rfl) (pe_call G_codes_of (hr.mono (by decide)) rfl T.g_codes_of T.F_codes_of.kp (B_codes_of T) .nil pass0 (pa_cons (pe_fld (pv 0) rfl) pa_nil)))
  (pss_cons (ps_set (i := 2) sc_free_lots.nd rfl (Or.inl rfl) (pe_call G_all_lots (hr.mono (by decide)) rfl T.g_all_lots T.F_all_lots.kp (B_all_lots T) .nil pass0 (pa_cons (pe_fldK K (pv 0) rfl rfl) pa_nil)))
  (pss_one (ps_ret (pe_callTy call_tuple_of (by rfl) T.n_tuple (by decide +kernel) (pa_cons (pe_lc (own := [("lot", 3)]) (g := (gName 3)) (by rfl) sc_free_lots.nd (pi_tup (pv 2)) (blkOk_by (own := [("lot", 3)]) (N := ["rules", "codes", "lots", "lot"]) (sc := defScope s_free_lots) (by decide +kernel)) (fun _ _ _ _ _ => (pg_name (i := 3) sc_free_lots.nd rfl (Or.inl rfl))) (fun _ _ _ _ _ => pts_one (pt_val (pe_call G_reads_all (hr.mono (by decide)) rfl T.g_reads_all T.F_reads_all.kp (B_reads_all T) .nil pass0 (pa_cons (pv 1) (pa_cons (pe_call G_mask_of (hr.mono (by decide)) rfl T.g_mask_of T.F_mask_of.kp (B_mask_of T) .nil pass0 (pa_cons (pv 3) (pa_cons (pe_fldK K (pv 0) rfl rfl) pa_nil))) (pa_cons (pe_callB (r := rLenK K) call_len (by rfl) T.n_len (by decide +kernel) (pa_cons (pv 3) pa_nil)) pa_nil)))))) (fun _ _ _ _ _ => (pv 3))) pa_nil)))))), ?_⟩
    obtain ⟨ks, ⟨dx, t, kn, h1, h2, h3, rows, asc, ne, sz⟩, ek⟩ := id R
    walk_at "sx"
    refine r_get rfl h1 T.cl_Rules T.no_Rules_rows rfl ?_
    walk_at "sx"
    refine ⟨t, n, ns, ks, rfl, h2, rows, ek, N.lt, by omega, N.few, fun l H2 s2 hl0 => ?_⟩
    have hl : True → H2 l = some (.lst (ns.map nv)) := fun _ => hl0
    clear hl0 h2 h3
    walk_at "sx"
    refine r_get rfl (s2 _ _ h1) T.cl_Rules T.no_Rules_size rfl ?_
    walk_at "sx"
    refine ⟨n, rfl, sn, fun p kl H3 s3 hp0 nl el => ?_⟩
    have hp : True → H3 p = some (.tup (kl.map rN)) := fun _ => hp0
    clear hp0
    have s13 := s2.trans s3
    have lk := kl_len sn el
    walk_at "sx"
    refine ⟨_, rfl, p, rfl, ⟨_, SqT.of (hp trivial)⟩, fun D hD => lc_tup (K := K) (a := p) (xs := kl.map rN) (fun i H' => Same H3 H' ∧ H' D = some (.lst (((kl.take i).filter fun q => freeB ns n q.2).map rN))) ⟨Same.new hD, upd_same⟩ (fun i H' _ h => SqT.of (h.1 _ _ (hp trivial))) ?_ ?_⟩
    · rintro i y H' hy ⟨s', hD'⟩
      obtain ⟨z, hz, rfl⟩ : ∃ z, kl[i]? = some z ∧ rN z = y := by
        rw [List.getElem?_map] at hy
        exact Option.map_eq_some_iff.mp hy
      have zm := List.mem_of_getElem? hz
      obtain ⟨pw, l8, lt⟩ := kl_mem sn el zm
      have hD2 : True → H' D = _ := fun _ => hD'
      clear hD'
      refine s_name ⟨rfl, ?_⟩
      walk_at "sx"
      refine r_get rfl (s' _ _ (s13 _ _ h1)) T.cl_Rules T.no_Rules_size rfl ?_
      walk_at "sx"
      refine ⟨z.1, n, z.2, rfl, s' _ _ (nl z zm), lt, sn, by omega, fun H4 s4 => ?_⟩
      walk_at "sx"
      refine ⟨_, _, rfl, .inr ⟨_, SqT.of (s4 _ _ (s' _ _ (nl z zm))), rfl⟩, ?_⟩
      walk_at "sx"
      rw [List.length_map]
      refine ⟨l, _, _, ns, rfl, s4 _ _ (s' _ _ (s3 _ _ (hl trivial))), N.few, by omega, fun H5 s5 => ?_⟩
      have hD5 := s5 _ _ (s4 _ _ (hD2 trivial))
      have s35 := s'.trans (s4.trans s5)
      have fl : (((kl.take i).filter fun q => freeB ns n q.2).map rN).length < sizeLine := by
        rw [List.length_map, sizeLine_eq]
        have := List.length_filter_le (fun q : Addr × List Nat => freeB ns n q.2) (kl.take i)
        rw [List.length_take] at this
        omega
      walk_at "sx"
      refine i_b2 (fun hb => ?_) (fun hb => ?_)
      · have hb' : freeB ns n z.2 = true := hb
        walk_at "sx"
        refine ⟨_, hD5, fl, Sx.Same.put s35 hD, ?_⟩
        rw [upd_same, filter_next _ hz, if_pos hb', List.map_append]
        rfl
      · have hb' : freeB ns n z.2 = false := hb
        refine ⟨s35, ?_⟩
        rw [hD5, filter_next _ hz, if_neg (by rw [hb']; simp), List.append_nil]
    · rintro H' ⟨s', hD'⟩
      rw [List.length_map, List.take_length] at hD'
      refine ⟨D, _, rfl, .inl ⟨SqL.of hD', fun q np => ?_⟩⟩
      have s4 : Same H' (upd H' q (.tup ((kl.filter fun q => freeB ns n q.2).map rN))) := Same.new np
      exact k q _ _ (s13.trans (s'.trans s4)) upd_same (fun z hz => nl.same (s'.trans s4) z (List.mem_filter.mp hz).1) (by rw [filter_map2, el])
theorem ok_strongLots (T : Txt P K mg A) : FnOk P w K mg base CX0 4 A.a_strong_lots A.d_strong_lots ["rules"] (spFL A.c_Rules strongB) := by
  refine T.F_strong_lots.ok sc_strong_lots (fun vs H Q E h => ?_) (fun cdv A' outer s H vs Q E hr h => ?_)
  · obtain ⟨x, n, ns, rfl, _⟩ := h
    rfl
  · obtain ⟨x, n, ns, rfl, R, N, sn, k⟩ := h
    have G_codes_of := ok_codes (w := w) (base := base) T
    have G_all_lots := ok_allLots (w := w) (base := base) T
    have G_mask_of := ok_mask (w := w) (base := base) T
    have G_holds_all := ok_holds (w := w) (base := base) T
    refine ⟨_, (pss_cons (ps_set (i := 1) sc_strong_lots.nd rfl (Or.inr rfl) (pe_call G_codes_of (hr.mono (by decide)) rfl T.g_codes_of T.F_codes_of.kp (B_codes_of T) .nil pass0 (pa_cons (pe_fld (pv 0) rfl) pa_nil)))
  (pss_cons (ps_set (i := 2) sc_strong_lots.nd rfl (Or.inl rfl) (pe_call G_all_lots (hr.mono (by decide)) rfl T.g_all_lots T.F_all_lots.kp (B_all_lots T) .nil pass0 (pa_cons (pe_fldK K (pv 0) rfl rfl) pa_nil)))
  (pss_one (ps_ret (pe_callTy call_tuple_of (by rfl) T.n_tuple (by decide +kernel) (pa_cons (pe_lc (own := [("lot", 3)]) (g := (gName 3)) (by rfl) sc_strong_lots.nd (pi_tup (pv 2)) (blkOk_by (own := [("lot", 3)]) (N := ["rules", "codes", "lots", "lot"]) (sc := defScope s_strong_lots) (by decide +kernel)) (fun _ _ _ _ _ => (pg_name (i := 3) sc_strong_lots.nd rfl (Or.inl rfl))) (fun _ _ _ _ _ => pts_one (pt_val (pe_call G_holds_all (hr.mono (by decide)) rfl T.g_holds_all T.F_holds_all.kp (B_holds_all T) .nil pass0 (pa_cons (pv 1) (pa_cons (pe_call G_mask_of (hr.mono (by decide)) rfl T.g_mask_of T.F_mask_of.kp (B_mask_of T) .nil pass0 (pa_cons (pv 3) (pa_cons (pe_fldK K (pv 0) rfl rfl) pa_nil))) (pa_cons (pe_callB (r := rLenK K) call_len (by rfl) T.n_len (by decide +kernel) (pa_cons (pv 3) pa_nil)) pa_nil)))))) (fun _ _ _ _ _ => (pv 3))) pa_nil)))))), ?_⟩
    obtain ⟨ks, ⟨dx, t, kn, h1, h2, h3, rows, asc, ne, sz⟩, ek⟩ := id R
    walk_at "sx"
    refine r_get rfl h1 T.cl_Rules T.no_Rules_rows rfl ?_
    walk_at "sx"
    refine ⟨t, n, ns, ks, rfl, h2, rows, ek, N.lt, by omega, N.few, fun l H2 s2 hl0 => ?_⟩
    have hl : True → H2 l = some (.lst (ns.map nv)) := fun _ => hl0
    clear hl0 h2 h3
    walk_at "sx"
    refine r_get rfl (s2 _ _ h1) T.cl_Rules T.no_Rules_size rfl ?_
    walk_at "sx"
    refine ⟨n, rfl, sn, fun p kl H3 s3 hp0 nl el => ?_⟩
    have hp : True → H3 p = some (.tup (kl.map rN)) := fun _ => hp0
    clear hp0
    have s13 := s2.trans s3
    have lk := kl_len sn el
    walk_at "sx"
    refine ⟨_, rfl, p, rfl, ⟨_, SqT.of (hp trivial)⟩, fun D hD => lc_tup (K := K) (a := p) (xs := kl.map rN) (fun i H' => Same H3 H' ∧ H' D = some (.lst (((kl.take i).filter fun q => strongB ns n q.2).map rN))) ⟨Same.new hD, upd_same⟩ (fun i H' _ h => SqT.of (h.1 _ _ (hp trivial))) ?_ ?_⟩
    · rintro i y H' hy ⟨s', hD'⟩
      obtain ⟨z, hz, rfl⟩ : ∃ z, kl[i]? = some z ∧ rN z = y := by
        rw [List.getElem?_map] at hy
        exact Option.map_eq_some_iff.mp hy
      have zm := List.mem_of_getElem? hz
      obtain ⟨pw, l8, lt⟩ := kl_mem sn el zm
      have hD2 : True → H' D = _ := fun _ => hD'
      clear hD'
      refine s_name ⟨rfl, ?_⟩
      walk_at "sx"
      refine r_get rfl (s' _ _ (s13 _ _ h1)) T.cl_Rules T.no_Rules_size rfl ?_
      walk_at "sx"
      refine ⟨z.1, n, z.2, rfl, s' _ _ (nl z zm), lt, sn, by omega, fun H4 s4 => ?_⟩
      walk_at "sx"
      refine ⟨_, _, rfl, .inr ⟨_, SqT.of (s4 _ _ (s' _ _ (nl z zm))), rfl⟩, ?_⟩
      walk_at "sx"
      rw [List.length_map]
      refine ⟨l, _, _, ns, rfl, s4 _ _ (s' _ _ (s3 _ _ (hl trivial))), N.few, N.ne, by omega, fun H5 s5 => ?_⟩
      have hD5 := s5 _ _ (s4 _ _ (hD2 trivial))
      have s35 := s'.trans (s4.trans s5)
      have fl : (((kl.take i).filter fun q => strongB ns n q.2).map rN).length < sizeLine := by
        rw [List.length_map, sizeLine_eq]
        have := List.length_filter_le (fun q : Addr × List Nat => strongB ns n q.2) (kl.take i)
        rw [List.length_take] at this
        omega
      walk_at "sx"
      refine i_b2 (fun hb => ?_) (fun hb => ?_)
      · have hb' : strongB ns n z.2 = true := hb
        walk_at "sx"
        refine ⟨_, hD5, fl, Sx.Same.put s35 hD, ?_⟩
        rw [upd_same, filter_next _ hz, if_pos hb', List.map_append]
        rfl
      · have hb' : strongB ns n z.2 = false := hb
        refine ⟨s35, ?_⟩
        rw [hD5, filter_next _ hz, if_neg (by rw [hb']; simp), List.append_nil]
    · rintro H' ⟨s', hD'⟩
      rw [List.length_map, List.take_length] at hD'
      refine ⟨D, _, rfl, .inl ⟨SqL.of hD', fun q np => ?_⟩⟩
      have s4 : Same H' (upd H' q (.tup ((kl.filter fun q => strongB ns n q.2).map rN))) := Same.new np
      exact k q _ _ (s13.trans (s'.trans s4)) upd_same (fun z hz => nl.same (s'.trans s4) z (List.mem_filter.mp hz).1) (by rw [filter_map2, el])
end
end K15

set_option Elab.async false
set_option linter.all false
set_option maxRecDepth 100000
set_option maxHeartbeats 4000000
namespace K15
open PySem L2 Sx
local macro_rules | `(tactic| walk_at "cond") => `(tactic| first
  | assumption
  | decide
  | exact c_mul_r (by first | decide | omega) (by first | decide | omega)
  | exact c_mul_l (by first | decide | omega) (by first | decide | omega)
  | exact c_div (by first | decide | omega) (by first | decide | omega)
  | exact c_pow (by first | decide | omega) (by first | decide | omega) (by first | decide | omega)
  | omega)
local macro_rules | `(tactic| walk_at "ne") => `(tactic| first
  | assumption
  | (refine Ne.symm ?_; assumption)
  | (refine' Flow.ne ?nh ?nn; (case nn => assumption); (case nh => walk_at "fl"))
  | (refine Ne.symm ?_; refine' Flow.ne ?nh ?nn; (case nn => assumption); (case nh => walk_at "fl"))
  | (refine' ne_of_none ?nh ?nn; (case nn => assumption); (case nh => walk_at "at"))
  | (refine Ne.symm ?_; refine' ne_of_none ?nh ?nn; (case nn => assumption); (case nh => walk_at "at")))
local macro_rules | `(tactic| walk_at "at") => `(tactic| first
  | assumption
  | (refine Same.up (by assumption) ?_; walk_at "at")
  | (refine Keep.up (by assumption) (by walk_at "ne") ?_; walk_at "at"))
local macro_rules | `(tactic| walk_at "fl") => `(tactic| first
  | assumption
  | (refine Flow.same (by assumption) ?_; walk_at "fl")
  | (refine Flow.keep (by assumption) (by walk_at "ne") ?_; walk_at "fl"))
local macro_rules | `(tactic| walk_at "fr") => `(tactic| first
  | assumption
  | (refine same_free (by assumption) ?_; walk_at "fr")
  | (refine Keep.free (by assumption) (by walk_at "ne") ?_; walk_at "fr"))
local macro_rules | `(tactic| walk_at "kp") => `(tactic| first
  | assumption
  | exact Keep.refl _ _
  | (refine Keep.trans ?_ (by assumption); walk_at "kp")
  | (refine Keep.trans ?_ (Keep.same (by assumption)); walk_at "kp"))
local macro_rules | `(tactic| walk_at "sm") => `(tactic| first
  | assumption
  | exact L2.Same.refl _
  | (refine L2.Same.trans ?_ (by assumption); walk_at "sm"))
local macro_rules | `(tactic| walk_at "sz") => `(tactic| first | exact Nat.le_of_ble_eq_true rfl | omega)
local macro_rules | `(tactic| walk_at "new") => `(tactic| (intro p np; generalize hE : upd _ p _ = H2; have s2 := new_same np hE; have h2 := new_at hE; clear hE))
local macro_rules | `(tactic| walk_at "newx") => `(tactic| (intro e d na nd hda; generalize hE : upd (upd _ d _) e _ = H2; have s2 := newx_same na nd hE; have h2 := newx_at hE; have h3 := newx_d hda hE; clear hE))
local macro_rules | `(tactic| walk_at "s1") => `(tactic| first
  | with_reducible refine s_seq ?_
  | with_reducible refine s_asg ?_
  | with_reducible refine s_name ?_
  | with_reducible refine s_ret ?_
  | with_reducible refine s_c ?_
  | ((with_reducible refine' s_var ?hv ?_); (case hv => rfl))
  | with_reducible refine s_op ?_
  | with_reducible refine s_un ?_
  | with_reducible refine s_ifS ?_
  | with_reducible refine s_cb ?_
  | with_reducible refine s_cons ?_
  | with_reducible refine s_nil ?_
  | with_reducible refine s_call ?_
  | with_reducible refine s_test ?_
  | with_reducible refine s_tB ?_
  | with_reducible refine s_bl ?_
  | with_reducible refine s_and ?_
  | with_reducible refine s_or ?_
  | with_reducible refine s_not ?_
  | with_reducible refine s_andV ?_
  | with_reducible refine s_orV ?_
  | with_reducible refine s_notV ?_
  | with_reducible refine s_blV ?_
  | with_reducible refine s_if ?_
  | with_reducible refine s_tup ?_
  | with_reducible refine s_lst ?_
  | with_reducible refine s_drop ?_
  | with_reducible refine s_next ?_
  | with_reducible refine s_sub ?_
  | with_reducible refine s_bm ?_
  | with_reducible refine s_callK ?_
  | with_reducible refine s_brk ?_
  | with_reducible refine s_cont ?_
  | with_reducible refine r_I0 ?_
  | with_reducible refine r_U ?_
  | with_reducible refine r_eqI ?_
  | with_reducible refine r_neI ?_
  | with_reducible refine r_isB ?_
  | with_reducible refine r_notB ?_
  | with_reducible refine i_t ?_
  | with_reducible refine i_f ?_
  | with_reducible refine i_nt ?_
  | with_reducible refine i_nf ?_
  | ((with_reducible refine' r_I ?hc ?_); (case hc => walk_at "cond"))
  | (with_reducible refine .inl ⟨_, rfl, ?_⟩)
  | (with_reducible refine ⟨_, rfl, ?_⟩)
  | ((with_reducible refine' r_ixL ?hx ?ha ?_); (case hx => walk_at "at"); (case ha => rfl))
  | ((with_reducible refine' r_ixT ?hx ?ha ?_); (case hx => walk_at "at"); (case ha => rfl))
  | ((with_reducible refine' r_setL ?hx ?ha ?_); (case hx => walk_at "at"); (case ha => rfl); intro H2 k2 h2; (try dsimp only [List.set, Int.toNat] at h2))
  | ((with_reducible refine' r_app ?hx ?hl ?_); (case hx => walk_at "at"); (case hl => first | exact Nat.lt_of_ble_eq_true rfl | omega); intro H2 k2 h2)
  | ((with_reducible refine' ty_list ?hx ?_); (case hx => walk_at "at"))
  | (refine And.intro (by (with_reducible show _ ≤ sizeLine); walk_at "sz") ?_; walk_at "new")
  | with_reducible refine s_exv ?_
  | walk_at "newx")
local macro_rules | `(tactic| walk_at "sx") => `(tactic| repeat (walk_at "s1"))
local macro_rules | `(tactic| walk_at "s2") => `(tactic| first
  | ((with_reducible refine' r_ixG ?hx ?hn ?_); (case hx => walk_at "at"); (case hn => omega))
  | ((with_reducible refine' r_ixGT ?hx ?hn ?_); (case hx => walk_at "at"); (case hn => omega))
  | (with_reducible refine ig_cons (fun hix => ?_) (fun hix => ?_))
  | ((with_reducible refine ig_nil ?_); omega)
  | ((with_reducible refine' i_T ?hc ?_); (case hc => omega))
  | ((with_reducible refine' i_F ?hc ?_); (case hc => omega))
  | (with_reducible refine i_2 (fun hc => ?_) (fun hc => ?_))
  | (with_reducible refine i_n2 (fun hc => ?_) (fun hc => ?_)))
local macro_rules | `(tactic| walk_at "go") => `(tactic| repeat' (first | walk_at "s1" | walk_at "s2"))

local macro_rules | `(tactic| walk_at "s1") => `(tactic| first
  | with_reducible refine s_chain ?_
  | with_reducible refine s_fldS ?_
  | with_reducible refine s_fld ?_
  | with_reducible refine s_dIn ?_
  | with_reducible refine s_dNotIn ?_
  | with_reducible refine s_sl ?_
  | with_reducible refine s_noPart ?_
  | with_reducible refine s_part ?_
  | with_reducible refine s_meth ?_
  | with_reducible refine s_make ?_)

section
variable {P : Program} {w : World} {K : PySem.W.Frag} {mg : Str → Option Value} {base : Heap} {A : Ad}
theorem known_is {r : List Int} : ∀ {ks : List (Addr × List Int)}, (valV (ks.map rkey) (r.map Sum.inl)).isSome = decide (r ∈ ks.map (·.2))
  | [] => by simp [valV_nil]
  | p :: ks => by
    rw [List.map_cons]
    by_cases h : p.2 = r
    · rw [valV_pos (show (rkey p).1 = r.map Sum.inl by rw [← h])]
      simp [h]
    · rw [valV_neg (show ¬ (rkey p).1 = r.map Sum.inl from fun e => h (inl_inj e)), known_is]
      have z : (r ∈ ks.map (·.2)) ↔ (r ∈ (p :: ks).map (·.2)) := by
        rw [List.map_cons, List.mem_cons]
        exact ⟨Or.inr, fun z => z.resolve_left fun e => h e.symm⟩
      exact decide_eq_decide.mpr z
/-- has, asked of a row -/
def spHas (K : PySem.W.Frag) (C : Addr) : Sp := fun vs H Q _ => ∃ (x p : Addr) (n : Nat) (ks : List (Addr × List Int)) (r : List Int), vs = [.ref x, .ref p] ∧ RuAt C H x n ks ∧ H p = some (.tup (r.map V.int)) ∧ Bits n r ∧ n < 1000 ∧ ∀ H', Same H H' → Q (.bl (decide (r ∈ ks.map (·.2)))) H'
theorem ok_has (T : Txt P K mg A) : FnOk P w K mg base CX0 4 A.a_Rules__has A.d_Rules__has ["self", "row"] (spHas K A.c_Rules) := by
  refine T.F_Rules__has.ok sc_Rules__has (fun vs H Q E h => ?_) (fun cdv A' outer s H vs Q E hr h => ?_)
  · obtain ⟨x, p, n, ks, r, rfl, _⟩ := h
    rfl
  · obtain ⟨x, p, n, ks, r, rfl, ⟨dx, t, kn, h1, h2, h3, rows, asc, ne, sz⟩, hp, bt, sn, k⟩ := h
    have G_is_row := ok_row (w := w) (base := base) T
    refine ⟨_, (pss_one (ps_ret (pe_and (pe_call G_is_row (hr.mono (by decide)) rfl T.g_is_row T.F_is_row.kp (B_is_row T) .nil pass0 (pa_cons (pv 1) (pa_cons (pe_fld (pv 0) rfl) pa_nil))) (pe_one (pe_cmp (pc_din (u1 hr) (pv 1) (pe_fld (pv 0) rfl))))))), ?_⟩
    walk_at "sx"
    refine r_get rfl h1 T.cl_Rules T.no_Rules_size rfl ?_
    walk_at "sx"
    refine c_row hp bt sn fun H' s' => ?_
    rw [decide_eq_true rfl]
    walk_at "sx"
    refine r_get rfl (s' _ _ h1) T.cl_Rules T.no_Rules__known rfl ?_
    refine ⟨kn, _, rfl, DGet.t (k := r.map Sum.inl) (s' _ _ h3) (by rw [List.map_map]; exact s' _ _ hp), ?_⟩
    rw [known_is]
    exact k H' s'
end
end K15

set_option Elab.async false
set_option linter.all false
set_option maxRecDepth 100000
set_option maxHeartbeats 4000000
namespace K15
open PySem L2 Sx
local macro_rules | `(tactic| walk_at "cond") => `(tactic| first
  | assumption
  | decide
  | exact c_mul_r (by first | decide | omega) (by first | decide | omega)
  | exact c_mul_l (by first | decide | omega) (by first | decide | omega)
  | exact c_div (by first | decide | omega) (by first | decide | omega)
  | exact c_pow (by first | decide | omega) (by first | decide | omega) (by first | decide | omega)
  | omega)
local macro_rules | `(tactic| walk_at "ne") => `(tactic| first
  | assumption
  | (refine Ne.symm ?_; assumption)
  | (refine' Flow.ne ?nh ?nn; (case nn => assumption); (case nh => walk_at "fl"))
  | (refine Ne.symm ?_; refine' Flow.ne ?nh ?nn; (case nn => assumption); (case nh => walk_at "fl"))
  | (refine' ne_of_none ?nh ?nn; (case nn => assumption); (case nh => walk_at "at"))
  | (refine Ne.symm ?_; refine' ne_of_none ?nh ?nn; (case nn => assumption); (case nh => walk_at "at")))
local macro_rules | `(tactic| walk_at "at") => `(tactic| first
  | assumption
  | (refine Same.up (by assumption) ?_; walk_at "at")
  | (refine Keep.up (by assumption) (by walk_at "ne") ?_; walk_at "at"))
local macro_rules | `(tactic| walk_at "fl") => `(tactic| first
  | assumption
  | (refine Flow.same (by assumption) ?_; walk_at "fl")
  | (refine Flow.keep (by assumption) (by walk_at "ne") ?_; walk_at "fl"))
local macro_rules | `(tactic| walk_at "fr") => `(tactic| first
  | assumption
  | (refine same_free (by assumption) ?_; walk_at "fr")
  | (refine Keep.free (by assumption) (by walk_at "ne") ?_; walk_at "fr"))
local macro_rules | `(tactic| walk_at "kp") => `(tactic| first
  | assumption
  | exact Keep.refl _ _
  | (refine Keep.trans ?_ (by assumption); walk_at "kp")
  | (refine Keep.trans ?_ (Keep.same (by assumption)); walk_at "kp"))
local macro_rules | `(tactic| walk_at "sm") => `(tactic| first
  | assumption
  | exact L2.Same.refl _
  | (refine L2.Same.trans ?_ (by assumption); walk_at "sm"))
local macro_rules | `(tactic| walk_at "sz") => `(tactic| first | exact Nat.le_of_ble_eq_true rfl | omega)
local macro_rules | `(tactic| walk_at "new") => `(tactic| (intro p np; generalize hE : upd _ p _ = H2; have s2 := new_same np hE; have h2 := new_at hE; clear hE))
local macro_rules | `(tactic| walk_at "newx") => `(tactic| (intro e d na nd hda; generalize hE : upd (upd _ d _) e _ = H2; have s2 := newx_same na nd hE; have h2 := newx_at hE; have h3 := newx_d hda hE; clear hE))
local macro_rules | `(tactic| walk_at "s1") => `(tactic| first
  | with_reducible refine s_seq ?_
  | with_reducible refine s_asg ?_
  | with_reducible refine s_name ?_
  | with_reducible refine s_ret ?_
  | with_reducible refine s_c ?_
  | ((with_reducible refine' s_var ?hv ?_); (case hv => rfl))
  | with_reducible refine s_op ?_
  | with_reducible refine s_un ?_
  | with_reducible refine s_ifS ?_
  | with_reducible refine s_cb ?_
  | with_reducible refine s_cons ?_
  | with_reducible refine s_nil ?_
  | with_reducible refine s_call ?_
  | with_reducible refine s_test ?_
  | with_reducible refine s_tB ?_
  | with_reducible refine s_bl ?_
  | with_reducible refine s_and ?_
  | with_reducible refine s_or ?_
  | with_reducible refine s_not ?_
  | with_reducible refine s_andV ?_
  | with_reducible refine s_orV ?_
  | with_reducible refine s_notV ?_
  | with_reducible refine s_blV ?_
  | with_reducible refine s_if ?_
  | with_reducible refine s_tup ?_
  | with_reducible refine s_lst ?_
  | with_reducible refine s_drop ?_
  | with_reducible refine s_next ?_
  | with_reducible refine s_sub ?_
  | with_reducible refine s_bm ?_
  | with_reducible refine s_callK ?_
  | with_reducible refine s_brk ?_
  | with_reducible refine s_cont ?_
  | with_reducible refine r_I0 ?_
  | with_reducible refine r_U ?_
  | with_reducible refine r_eqI ?_
  | with_reducible refine r_neI ?_
  | with_reducible refine r_isB ?_
  | with_reducible refine r_notB ?_
  | with_reducible refine i_t ?_
  | with_reducible refine i_f ?_
  | with_reducible refine i_nt ?_
  | with_reducible refine i_nf ?_
  | ((with_reducible refine' r_I ?hc ?_); (case hc => walk_at "cond"))
  | (with_reducible refine .inl ⟨_, rfl, ?_⟩)
  | (with_reducible refine ⟨_, rfl, ?_⟩)
  | ((with_reducible refine' r_ixL ?hx ?ha ?_); (case hx => walk_at "at"); (case ha => rfl))
  | ((with_reducible refine' r_ixT ?hx ?ha ?_); (case hx => walk_at "at"); (case ha => rfl))
  | ((with_reducible refine' r_setL ?hx ?ha ?_); (case hx => walk_at "at"); (case ha => rfl); intro H2 k2 h2; (try dsimp only [List.set, Int.toNat] at h2))
  | ((with_reducible refine' r_app ?hx ?hl ?_); (case hx => walk_at "at"); (case hl => first | exact Nat.lt_of_ble_eq_true rfl | omega); intro H2 k2 h2)
  | ((with_reducible refine' ty_list ?hx ?_); (case hx => walk_at "at"))
  | (refine And.intro (by (with_reducible show _ ≤ sizeLine); walk_at "sz") ?_; walk_at "new")
  | with_reducible refine s_exv ?_
  | walk_at "newx")
local macro_rules | `(tactic| walk_at "sx") => `(tactic| repeat (walk_at "s1"))
local macro_rules | `(tactic| walk_at "s2") => `(tactic| first
  | ((with_reducible refine' r_ixG ?hx ?hn ?_); (case hx => walk_at "at"); (case hn => omega))
  | ((with_reducible refine' r_ixGT ?hx ?hn ?_); (case hx => walk_at "at"); (case hn => omega))
  | (with_reducible refine ig_cons (fun hix => ?_) (fun hix => ?_))
  | ((with_reducible refine ig_nil ?_); omega)
  | ((with_reducible refine' i_T ?hc ?_); (case hc => omega))
  | ((with_reducible refine' i_F ?hc ?_); (case hc => omega))
  | (with_reducible refine i_2 (fun hc => ?_) (fun hc => ?_))
  | (with_reducible refine i_n2 (fun hc => ?_) (fun hc => ?_)))
local macro_rules | `(tactic| walk_at "go") => `(tactic| repeat' (first | walk_at "s1" | walk_at "s2"))

local macro_rules | `(tactic| walk_at "s1") => `(tactic| first
  | with_reducible refine s_chain ?_
  | with_reducible refine s_fldS ?_
  | with_reducible refine s_fld ?_
  | with_reducible refine s_dIn ?_
  | with_reducible refine s_dNotIn ?_
  | with_reducible refine s_sl ?_
  | with_reducible refine s_noPart ?_
  | with_reducible refine s_part ?_
  | with_reducible refine s_meth ?_
  | with_reducible refine s_make ?_)

theorem filter_nextI {α : Type} (b : α → Bool) {xs : List α} {i : Nat} {x : α} (h : xs[i]? = some x) : (xs.take (i + 1)).filter b = (xs.take i).filter b ++ (if b x then [x] else []) := by
  rw [List.take_succ, h, List.filter_append]
  simp [List.filter_cons]
section
variable {P : Program} {w : World} {K : PySem.W.Frag} {mg : Str → Option Value} {base : Heap} {A : Ad}
theorem bits_at : ∀ (n m j : Nat), j < n → (bitsOf n m)[j]? = some ((m / 2 ^ (n - 1 - j) % 2 : Nat) : Int)
  | 0, _, _, h => absurd h (Nat.not_lt_zero _)
  | n + 1, m, j, h => by
    have hb := (bitsOf_bits n (m / 2)).1
    rw [bitsOf]
    rcases Nat.lt_or_eq_of_le (Nat.le_of_lt_succ h) with l | rfl
    · rw [List.getElem?_append_left (by rw [hb]; exact l), bits_at n (m / 2) j l, show n + 1 - 1 - j = (n - 1 - j) + 1 by omega, Nat.div_div_eq_div_mul, ← Nat.pow_succ']
    · rw [List.getElem?_append_right (by rw [hb]; exact Nat.le_refl _), hb, Nat.sub_self, show j + 1 - 1 - j = 0 by omega, Nat.pow_zero, Nat.div_one]
      rfl
/-- a new list of rules -/
theorem c_makeV {C l : Addr} {n : Nat} {ks : List (Addr × List Int)} {H : Hp} {Q : VK} {E : XK} (hl : H l = some (.lst (ks.map rf))) (ne : ks ≠ []) (sz : ks.length ≤ 64) (sn : n < 1000) (rows : RowsAt H n ks)
    (q : ∀ x H' ks', Same H H' → Of ks ks' → RuAt C H' x n ks' → Q (.ref x) H') : ∀ x dx, H x = none → H dx = none → dx ≠ x → spMake C (.ref x :: ([.int n, .ref l] ++ [])) (upd (upd H dx (.own x)) x (.ins C dx [])) (fun v H2 => v = .non ∧ Q (.ref x) H2) E := by
  intro x dx nx nd hd
  have s := newx_same (H := H) (a := x) (d := dx) (o := .ins C dx []) (u := .own x) nx nd rfl
  refine ⟨x, dx, l, n, ks, rfl, upd_same, s _ _ hl, ne, sz, sn, rows.same s, fun p hp e => ?_, fun H' ks' k o r => ⟨rfl, q x H' ks' (Keep.toSame s nx k) o r⟩⟩
  have z := (rows p hp).1
  rw [e, nx] at z
  cases z
theorem ls_ne {n : Nat} {ns : List Nat} {ls : List (Addr × List Int)} (N : Nums n ns) (e : ls.map (·.2) = ns.map (bitsOf n)) : ls ≠ [] := fun z => by
  subst z
  exact N.ne (List.map_eq_nil_iff.mp e.symm)
theorem ls_few {n : Nat} {ns : List Nat} {ls : List (Addr × List Int)} (N : Nums n ns) (e : ls.map (·.2) = ns.map (bitsOf n)) : ls.length ≤ 64 := by
  have z := congrArg List.length e
  rw [List.length_map, List.length_map] at z
  rw [z]
  exact N.few
/-- a row of a number -/
def spCRow : Sp := fun vs H Q _ => ∃ (c n : Nat), vs = [.int c, .int n] ∧ n ≤ 8 ∧ c < 256 ∧ ∀ (p : Addr) H', Same H H' → H' p = some (.tup ((bitsOf n c).map V.int)) → Q (.ref p) H'
theorem ok_crow (T : Txt P K mg A) : FnOk P w K mg base CX0 1 A.a_row_of A.d_row_of ["code", "size"] spCRow := by
  refine T.F_row_of.ok sc_row_of (fun vs H Q E h => ?_) (fun cdv A' outer s H vs Q E hr h => ?_)
  · obtain ⟨c, n, rfl, _⟩ := h
    rfl
  · obtain ⟨c, n, rfl, sn, cn, k⟩ := h
    have bl := (bitsOf_bits n c).1
    refine ⟨_, (pss_one (ps_ret (pe_callTy call_tuple_of (by rfl) T.n_tuple (by decide +kernel) (pa_cons (pe_lc (own := [("point", 2)]) (g := (gName 2)) (by rfl) sc_row_of.nd (pi_range1 rfl T.n_range (pa_cons (pv 1) pa_nil)) (blkOk_by (own := [("point", 2)]) (N := ["code", "size", "point"]) (sc := defScope s_row_of) (by decide +kernel)) (fun _ _ _ _ _ => (pg_name (i := 2) sc_row_of.nd rfl (Or.inl rfl))) (fun _ _ _ _ _ => pts_nil) (fun _ _ _ _ _ => (pe_op op_and (pe_op op_shr (pv 0) (pe_op op_sub (pe_op op_sub (pv 1) pe_int) (pv 2))) pe_int))) pa_nil)))), ?_⟩
    walk_at "sx"
    refine ⟨_, rfl, _, rfl, by omega, by omega, fun D hD => lc_range (lo := 0) (n := n) (fun i H' => Same H H' ∧ H' D = some (.lst (((bitsOf n c).take i).map V.int))) ⟨Same.new hD, upd_same⟩ ?_ ?_⟩
    · rintro i H' hi ⟨s', hd⟩
      refine s_name ⟨rfl, ?_⟩
      refine s_yes (i_t ?_)
      walk_at "sx"
      have ev : Builtin.bitAnd ((c : Int) / 2 ^ ((n : Int) - 1 - (0 + (i : Int))).toNat) 1 = ((c / 2 ^ (n - 1 - i) % 2 : Nat) : Int) := by
        rw [show ((n : Int) - 1 - (0 + (i : Int))).toNat = n - 1 - i by omega, show (2 : Int) ^ (n - 1 - i) = ((2 ^ (n - 1 - i) : Nat) : Int) by rw [Int.natCast_pow] <;> rfl, ← Int.natCast_ediv]
        unfold Builtin.bitAnd
        rw [decide_eq_true (Int.natCast_nonneg _)]
        show (((((c / 2 ^ (n - 1 - i) : Nat) : Int).toNat &&& (1 : Int).toNat : Nat) : Nat) : Int) = _
        rw [Int.toNat_natCast, show (1 : Int).toNat = 1 from rfl, Nat.and_one_is_mod]
      rw [ev]
      refine ⟨_, hd, ?_, Sx.Same.put s' hD, ?_⟩
      · rw [List.length_map, List.length_take, sizeLine_eq]
        omega
      · rw [upd_same, List.take_succ, bits_at n c i hi]
        simp
    · rintro H' ⟨s', hd⟩
      have e : (bitsOf n c).take n = bitsOf n c := List.take_of_length_le (by omega)
      rw [e] at hd
      walk_at "sx"
      refine ⟨D, _, rfl, .inl ⟨SqL.of hd, fun p np => ?_⟩⟩
      exact k p _ (s'.trans (Same.new np)) upd_same
def spCRows : Sp := fun vs H Q _ => ∃ n : Nat, vs = [.int n] ∧ n ≤ 8 ∧ ∀ (p : Addr) (ks : List (Addr × List Int)) H', Same H H' → H' p = some (.tup (ks.map rf)) → RowsAt H' n ks → ks.map (·.2) = (List.range (2 ^ n)).map (bitsOf n) → Q (.ref p) H'
theorem ok_crows (T : Txt P K mg A) : FnOk P w K mg base CX0 2 A.a_all_rows A.d_all_rows ["size"] spCRows := by
  refine T.F_all_rows.ok sc_all_rows (fun vs H Q E h => ?_) (fun cdv A' outer s H vs Q E hr h => ?_)
  · obtain ⟨n, rfl, _⟩ := h
    rfl
  · obtain ⟨n, rfl, sn, k⟩ := h
    have G_row_of := ok_crow (w := w) (base := base) T
    refine ⟨_, (pss_one (ps_ret (pe_callTy call_tuple_of (by rfl) T.n_tuple (by decide +kernel) (pa_cons (pe_lc (own := [("code", 1)]) (g := (gName 1)) (by rfl) sc_all_rows.nd (pi_range1 rfl T.n_range (pa_cons (pe_op op_shl pe_int (pv 0)) pa_nil)) (blkOk_by (own := [("code", 1)]) (N := ["size", "code"]) (sc := defScope s_all_rows) (by decide +kernel)) (fun _ _ _ _ _ => (pg_name (i := 1) sc_all_rows.nd rfl (Or.inl rfl))) (fun _ _ _ _ _ => pts_nil) (fun _ _ _ _ _ => (pe_call G_row_of (hr.mono (by decide)) rfl T.g_row_of T.F_row_of.kp (B_row_of T) .nil pass0 (pa_cons (pv 1) (pa_cons (pv 0) pa_nil))))) pa_nil)))), ?_⟩
    walk_at "sx"
    unfold tLc iRng1
    walk_at "sx"
    obtain ⟨pp, epp⟩ : ∃ pp, pp = 2 ^ n := ⟨_, rfl⟩
    have p8 : pp ≤ 256 := by
      rw [epp]
      exact Nat.pow_le_pow_right (n := 2) (by decide) sn
    have ei : (1 : Int) * 2 ^ ((n : Int)).toNat = (pp : Int) := by
      rw [Int.toNat_natCast, Int.one_mul, epp, Int.natCast_pow]
      rfl
    rw [ei]
    refine ⟨by omega, by omega, ?_⟩
    rw [Int.toNat_natCast]
    refine fun D hD => lc_range (lo := 0) (n := pp) (fun i H' => Same H H' ∧ ∃ ks : List (Addr × List Int), (True → H' D = some (.lst (ks.map rf))) ∧ RowsAt H' n ks ∧ ks.map (·.2) = (List.range i).map (bitsOf n)) ⟨Same.new hD, [], fun _ => upd_same, rows_nil, rfl⟩ ?_ ?_
    · rintro i H' hi ⟨s', ks, hd, na, ek⟩
      have lk : ks.length = i := by
        have := congrArg List.length ek
        simpa using this
      refine s_name ⟨rfl, ?_⟩
      refine s_yes (i_t ?_)
      walk_at "sx"
      refine ⟨i, n, by rw [Int.zero_add]; rfl, sn, by omega, fun p H2 s2 h2 => ?_⟩
      have hd2 := s2 _ _ (hd trivial)
      refine ⟨_, hd2, by rw [List.length_map, lk, sizeLine_eq]; omega, Sx.Same.put (s'.trans s2) hD, ks ++ [(p, bitsOf n i)], fun _ => by rw [upd_same, List.map_append]; rfl, ?_, by rw [List.map_append, ek, List.range_succ, List.map_append]; rfl⟩
      have out : ∀ b xs, H2 b = some (.tup xs) → upd H2 D (.lst (ks.map rf ++ [.ref p])) b = some (.tup xs) := fun b xs e => by
        rw [upd_ne (fun z => by rw [z, hd2] at e; cases e)]
        exact e
      intro q hq
      rcases List.mem_append.mp hq with h | h
      · exact ⟨out _ _ (s2 _ _ (na q h).1), (na q h).2⟩
      · rw [List.mem_singleton] at h
        subst h
        exact ⟨out _ _ h2, bitsOf_bits n i⟩
    · rintro H' ⟨s', ks, hd, na, ek⟩
      walk_at "sx"
      refine ⟨D, _, rfl, .inl ⟨SqL.of (hd trivial), fun p np => ?_⟩⟩
      have s2 : Same H' (upd H' p (.tup (ks.map rf))) := Same.new np
      exact k p ks _ (s'.trans s2) upd_same (na.same s2) (by rw [ek, epp])
/-- the other numbers -/
def oth (n : Nat) (ns : List Nat) : List Nat := (List.range (2 ^ n)).filter fun m => !decide (m ∈ ns)
theorem oth_nums {n : Nat} {ns : List Nat} (sn : n ≤ 6) (ne : oth n ns ≠ []) : Nums n (oth n ns) := by
  refine ⟨List.Pairwise.filter _ List.pairwise_lt_range, fun m hm => List.mem_range.mp (List.mem_filter.mp hm).1, ne, ?_⟩
  have p : (2 : Nat) ^ n ≤ 64 := Nat.pow_le_pow_right (n := 2) (by decide) sn
  have := List.length_filter_le (fun m => !decide (m ∈ ns)) (List.range (2 ^ n))
  rw [List.length_range] at this
  show (oth n ns).length ≤ 64
  unfold oth
  omega
theorem oth_rows {n : Nat} {ns : List Nat} {kl ks : List (Addr × List Int)} (lt : ∀ m ∈ ns, m < 2 ^ n) (el : kl.map (·.2) = (List.range (2 ^ n)).map (bitsOf n)) (ek : ks.map (·.2) = ns.map (bitsOf n)) : (kl.filter fun q => !decide (q.2 ∈ ks.map (·.2))).map (·.2) = (oth n ns).map (bitsOf n) := by
  have e1 : (kl.filter fun q => !decide (q.2 ∈ ks.map (·.2))).map (·.2) = (kl.map (·.2)).filter fun r => !decide (r ∈ ks.map (·.2)) := by
    rw [List.filter_map]
    rfl
  rw [e1, el, List.filter_map]
  congr 1
  refine List.filter_congr fun m hm => ?_
  have lm := List.mem_range.mp hm
  show (!decide (bitsOf n m ∈ ks.map (·.2))) = !decide (m ∈ ns)
  congr 1
  rw [ek]
  refine decide_eq_decide.mpr ⟨fun h => ?_, fun h => List.mem_map.mpr ⟨m, h, rfl⟩⟩
  obtain ⟨x, hx, e⟩ := List.mem_map.mp h
  rw [← bits_inj (lt x hx) lm e]
  exact hx
theorem rn_of {C : Addr} {H : Hp} {x : Addr} {n : Nat} {ns : List Nat} {ls ks : List (Addr × List Int)} (N : Nums n ns) (e : ls.map (·.2) = ns.map (bitsOf n)) (o : Of ls ks) (r : RuAt C H x n ks) : Rn C H x n ns :=
  ⟨ks, r, of_nums N (fun r => by rw [e]) o⟩
def spOthers (C : Addr) : Sp := fun vs H Q _ => ∃ (x : Addr) (n : Nat) (ns : List Nat), vs = [.ref x] ∧ Rn C H x n ns ∧ (∀ m ∈ ns, m < 2 ^ n) ∧ n ≤ 6 ∧ oth n ns ≠ [] ∧ ∀ y H', Same H H' → Rn C H' y n (oth n ns) → Q (.ref y) H'
theorem ok_others (T : Txt P K mg A) : FnOk P w K mg base CX0 7 A.a_Rules__others A.d_Rules__others ["self"] (spOthers A.c_Rules) := by
  refine T.F_Rules__others.ok sc_Rules__others (fun vs H Q E h => ?_) (fun cdv A' outer s H vs Q E hr h => ?_)
  · obtain ⟨x, n, ns, rfl, _⟩ := h
    rfl
  · obtain ⟨x, n, ns, rfl, R, lt, sn, ne, k⟩ := h
    have G_all_rows := ok_crows (w := w) (base := base) T
    have G_Rules__has := ok_has (w := w) (base := base) T
    have G_Rules____init__ := ok_make (w := w) (base := base) T
    obtain ⟨ks, ru, ek⟩ := id R
    obtain ⟨dx, t, kn, h1, _⟩ := id ru
    refine ⟨_, (pss_cons (ps_setLc (i := 1) (own := [("row", 2)]) (g := (gName 2)) (by rfl) sc_Rules__others.nd rfl rfl (sw_true rfl rfl rfl (by decide +kernel)) (pi_tup (pe_call G_all_rows (hr.mono (by decide)) rfl T.g_all_rows T.F_all_rows.kp (B_all_rows T) .nil pass0 (pa_cons (pe_fld (pv 0) rfl) pa_nil))) (blkOk_by (own := [("row", 2)]) (N := ["self", "rows", "row"]) (sc := defScope s_Rules__others) (by decide +kernel)) (fun _ _ _ _ _ => (pg_name (i := 2) sc_Rules__others.nd rfl (Or.inl rfl))) (fun _ _ _ _ _ => pts_one (pt_not (pt_val (pe_meth (pv 0) T.cl_Rules T.me_Rules_has G_Rules__has (hr.mono (by decide)) (B_Rules__has T) .nil pass0 (pa_cons (pv 2) pa_nil))))) (fun _ _ _ _ _ => (pv 2)))
  (pss_cons (ps_if (pt_cmpR op_eq (pe_callB call_len (by rfl) T.n_len (by decide +kernel) (pa_cons (pv 1) pa_nil)) pe_int (nomark _)) (pss_one ps_never) pss_nil)
  (pss_one (ps_ret (pe_make T.mk_Rules G_Rules____init__ (hr.mono (by decide)) rfl T.g_Rules (B_Rules____init__ T) .nil pass0 (pa_cons (pe_fld (pv 0) rfl) (pa_cons (pv 1) pa_nil))))))), ?_⟩
    walk_at "s1"
    walk_at "s1"
    unfold tLc iTup
    walk_at "sx"
    refine r_get rfl h1 T.cl_Rules T.no_Rules_size rfl ?_
    walk_at "sx"
    refine ⟨n, rfl, by omega, fun p kl H3 s3 hp0 nl el => ?_⟩
    have hp : True → H3 p = some (.tup (kl.map rf)) := fun _ => hp0
    clear hp0
    have lk : kl.length ≤ 64 := by
      have z := congrArg List.length el
      rw [List.length_map, List.length_map, List.length_range] at z
      rw [z]
      exact Nat.pow_le_pow_right (n := 2) (by decide) sn
    refine ⟨p, rfl, ⟨_, SqT.of (hp trivial)⟩, fun D hD => lc_tup (K := K) (a := p) (xs := kl.map rf) (fun i H' => Same H3 H' ∧ (True → H' D = some (.lst (((kl.take i).filter fun q => !decide (q.2 ∈ ks.map (·.2))).map rf)))) ⟨Same.new hD, fun _ => upd_same⟩ (fun i H' _ h => SqT.of (h.1 _ _ (hp trivial))) ?_ ?_⟩
    · rintro i y H' hy ⟨s', hD'⟩
      obtain ⟨z, hz, rfl⟩ : ∃ z, kl[i]? = some z ∧ rf z = y := by
        rw [List.getElem?_map] at hy
        exact Option.map_eq_some_iff.mp hy
      have zm := List.mem_of_getElem? hz
      refine s_name ⟨rfl, ?_⟩
      walk_at "sx"
      refine ⟨x, dx, _, rfl, s' _ _ (s3 _ _ h1), rfl, ?_⟩
      walk_at "sx"
      refine ⟨x, z.1, n, ks, z.2, rfl, ru.same (s3.trans s'), s' _ _ (nl z zm).1, (nl z zm).2, by omega, fun H5 s5 => ?_⟩
      have hD5 := s5 _ _ (hD' trivial)
      have s35 := s'.trans s5
      have fl : (((kl.take i).filter fun q => !decide (q.2 ∈ ks.map (·.2))).map rf).length < sizeLine := by
        rw [List.length_map, sizeLine_eq]
        have := List.length_filter_le (fun q : Addr × List Int => !decide (q.2 ∈ ks.map (·.2))) (kl.take i)
        rw [List.length_take] at this
        omega
      walk_at "sx"
      refine i_n2 (fun hb => ?_) (fun hb => ?_)
      · walk_at "sx"
        refine ⟨_, hD5, fl, Sx.Same.put s35 hD, fun _ => ?_⟩
        rw [upd_same, filter_nextI _ hz, if_pos (by simpa using hb), List.map_append]
        rfl
      · refine ⟨s35, fun _ => ?_⟩
        rw [hD5, filter_nextI _ hz, if_neg (by simpa using hb), List.append_nil]
    · rintro H' ⟨s', hD'⟩
      rw [List.length_map, List.take_length] at hD'
      obtain ⟨ls, els⟩ : ∃ ls, ls = kl.filter fun q => !decide (q.2 ∈ ks.map (·.2)) := ⟨_, rfl⟩
      have eo := oth_rows lt el ek
      rw [← els] at hD' eo
      have N := oth_nums sn ne
      have rl : RowsAt H' n ls := fun q hq => (nl.same s') q (by rw [els] at hq; exact (List.mem_filter.mp hq).1)
      have lne := ls_ne N eo
      have lfew := ls_few N eo
      walk_at "sx"
      refine ⟨_, _, rfl, .inl ⟨_, SqL.of (hD' trivial), rfl⟩, ?_⟩
      rw [List.length_map]
      walk_at "sx"
      refine i_F (fun z => lne (List.length_eq_zero_iff.mp (by omega))) ?_
      walk_at "sx"
      refine r_get rfl (s' _ _ (s3 _ _ h1)) T.cl_Rules T.no_Rules_size rfl ?_
      refine s_cons ?_
      refine s_var rfl ?_
      refine s_nil (c_makeV (hD' trivial) lne lfew (by omega) rl fun y H2 ks' s2 o r => ?_)
      exact k y H2 (s3.trans (s'.trans s2)) (rn_of N eo o r)
end
end K15

set_option Elab.async false
set_option linter.all false
set_option maxRecDepth 100000
set_option maxHeartbeats 4000000
namespace K15
open PySem L2 Sx
local macro_rules | `(tactic| walk_at "cond") => `(tactic| first
  | assumption
  | decide
  | exact c_mul_r (by first | decide | omega) (by first | decide | omega)
  | exact c_mul_l (by first | decide | omega) (by first | decide | omega)
  | exact c_div (by first | decide | omega) (by first | decide | omega)
  | exact c_pow (by first | decide | omega) (by first | decide | omega) (by first | decide | omega)
  | omega)
local macro_rules | `(tactic| walk_at "ne") => `(tactic| first
  | assumption
  | (refine Ne.symm ?_; assumption)
  | (refine' Flow.ne ?nh ?nn; (case nn => assumption); (case nh => walk_at "fl"))
  | (refine Ne.symm ?_; refine' Flow.ne ?nh ?nn; (case nn => assumption); (case nh => walk_at "fl"))
  | (refine' ne_of_none ?nh ?nn; (case nn => assumption); (case nh => walk_at "at"))
  | (refine Ne.symm ?_; refine' ne_of_none ?nh ?nn; (case nn => assumption); (case nh => walk_at "at")))
local macro_rules | `(tactic| walk_at "at") => `(tactic| first
  | assumption
  | (refine Same.up (by assumption) ?_; walk_at "at")
  | (refine Keep.up (by assumption) (by walk_at "ne") ?_; walk_at "at"))
local macro_rules | `(tactic| walk_at "fl") => `(tactic| first
  | assumption
  | (refine Flow.same (by assumption) ?_; walk_at "fl")
  | (refine Flow.keep (by assumption) (by walk_at "ne") ?_; walk_at "fl"))
local macro_rules | `(tactic| walk_at "fr") => `(tactic| first
  | assumption
  | (refine same_free (by assumption) ?_; walk_at "fr")
  | (refine Keep.free (by assumption) (by walk_at "ne") ?_; walk_at "fr"))
local macro_rules | `(tactic| walk_at "kp") => `(tactic| first
  | assumption
  | exact Keep.refl _ _
  | (refine Keep.trans ?_ (by assumption); walk_at "kp")
  | (refine Keep.trans ?_ (Keep.same (by assumption)); walk_at "kp"))
local macro_rules | `(tactic| walk_at "sm") => `(tactic| first
  | assumption
  | exact L2.Same.refl _
  | (refine L2.Same.trans ?_ (by assumption); walk_at "sm"))
local macro_rules | `(tactic| walk_at "sz") => `(tactic| first | exact Nat.le_of_ble_eq_true rfl | omega)
local macro_rules | `(tactic| walk_at "new") => `(tactic| (intro p np; generalize hE : upd _ p _ = H2; have s2 := new_same np hE; have h2 := new_at hE; clear hE))
local macro_rules | `(tactic| walk_at "newx") => `(tactic| (intro e d na nd hda; generalize hE : upd (upd _ d _) e _ = H2; have s2 := newx_same na nd hE; have h2 := newx_at hE; have h3 := newx_d hda hE; clear hE))
local macro_rules | `(tactic| walk_at "s1") => `(tactic| first
  | with_reducible refine s_seq ?_
  | with_reducible refine s_asg ?_
  | with_reducible refine s_name ?_
  | with_reducible refine s_ret ?_
  | with_reducible refine s_c ?_
  | ((with_reducible refine' s_var ?hv ?_); (case hv => rfl))
  | with_reducible refine s_op ?_
  | with_reducible refine s_un ?_
  | with_reducible refine s_ifS ?_
  | with_reducible refine s_cb ?_
  | with_reducible refine s_cons ?_
  | with_reducible refine s_nil ?_
  | with_reducible refine s_call ?_
  | with_reducible refine s_test ?_
  | with_reducible refine s_tB ?_
  | with_reducible refine s_bl ?_
  | with_reducible refine s_and ?_
  | with_reducible refine s_or ?_
  | with_reducible refine s_not ?_
  | with_reducible refine s_andV ?_
  | with_reducible refine s_orV ?_
  | with_reducible refine s_notV ?_
  | with_reducible refine s_blV ?_
  | with_reducible refine s_if ?_
  | with_reducible refine s_tup ?_
  | with_reducible refine s_lst ?_
  | with_reducible refine s_drop ?_
  | with_reducible refine s_next ?_
  | with_reducible refine s_sub ?_
  | with_reducible refine s_bm ?_
  | with_reducible refine s_callK ?_
  | with_reducible refine s_brk ?_
  | with_reducible refine s_cont ?_
  | with_reducible refine r_I0 ?_
  | with_reducible refine r_U ?_
  | with_reducible refine r_eqI ?_
  | with_reducible refine r_neI ?_
  | with_reducible refine r_isB ?_
  | with_reducible refine r_notB ?_
  | with_reducible refine i_t ?_
  | with_reducible refine i_f ?_
  | with_reducible refine i_nt ?_
  | with_reducible refine i_nf ?_
  | ((with_reducible refine' r_I ?hc ?_); (case hc => walk_at "cond"))
  | (with_reducible refine .inl ⟨_, rfl, ?_⟩)
  | (with_reducible refine ⟨_, rfl, ?_⟩)
  | ((with_reducible refine' r_ixL ?hx ?ha ?_); (case hx => walk_at "at"); (case ha => rfl))
  | ((with_reducible refine' r_ixT ?hx ?ha ?_); (case hx => walk_at "at"); (case ha => rfl))
  | ((with_reducible refine' r_setL ?hx ?ha ?_); (case hx => walk_at "at"); (case ha => rfl); intro H2 k2 h2; (try dsimp only [List.set, Int.toNat] at h2))
  | ((with_reducible refine' r_app ?hx ?hl ?_); (case hx => walk_at "at"); (case hl => first | exact Nat.lt_of_ble_eq_true rfl | omega); intro H2 k2 h2)
  | ((with_reducible refine' ty_list ?hx ?_); (case hx => walk_at "at"))
  | (refine And.intro (by (with_reducible show _ ≤ sizeLine); walk_at "sz") ?_; walk_at "new")
  | with_reducible refine s_exv ?_
  | walk_at "newx")
local macro_rules | `(tactic| walk_at "sx") => `(tactic| repeat (walk_at "s1"))
local macro_rules | `(tactic| walk_at "s2") => `(tactic| first
  | ((with_reducible refine' r_ixG ?hx ?hn ?_); (case hx => walk_at "at"); (case hn => omega))
  | ((with_reducible refine' r_ixGT ?hx ?hn ?_); (case hx => walk_at "at"); (case hn => omega))
  | (with_reducible refine ig_cons (fun hix => ?_) (fun hix => ?_))
  | ((with_reducible refine ig_nil ?_); omega)
  | ((with_reducible refine' i_T ?hc ?_); (case hc => omega))
  | ((with_reducible refine' i_F ?hc ?_); (case hc => omega))
  | (with_reducible refine i_2 (fun hc => ?_) (fun hc => ?_))
  | (with_reducible refine i_n2 (fun hc => ?_) (fun hc => ?_)))
local macro_rules | `(tactic| walk_at "go") => `(tactic| repeat' (first | walk_at "s1" | walk_at "s2"))

local macro_rules | `(tactic| walk_at "s1") => `(tactic| first
  | with_reducible refine s_chain ?_
  | with_reducible refine s_fldS ?_
  | with_reducible refine s_fld ?_
  | with_reducible refine s_dIn ?_
  | with_reducible refine s_dNotIn ?_
  | with_reducible refine s_sl ?_
  | with_reducible refine s_noPart ?_
  | with_reducible refine s_part ?_
  | with_reducible refine s_meth ?_
  | with_reducible refine s_make ?_)

/-- how many lots of at most d points -/
def upTo (n d : Nat) : Int := ((List.range (min n d + 1)).map fun i : Nat => PySem.W.mcComb (n : Int) (i : Int)).sum
/-- a line of the triangle -/
def prow : Nat → List Nat
  | 0 => [1]
  | k + 1 => [1] ++ ((List.range ((prow k).length - 1)).map fun j => (prow k).getD j 0 + (prow k).getD (j + 1) 0) ++ [1]
theorem prow_all : ∀ n : Fin 9, ∀ d : Fin 21, (((prow n.val).take (d.val + 1)).map fun m : Nat => (m : Int)).sum = upTo n.val d.val := by decide +kernel
theorem prow_succ (k : Nat) : prow (k + 1) = [1] ++ ((List.range ((prow k).length - 1)).map fun j => (prow k).getD j 0 + (prow k).getD (j + 1) 0) ++ [1] := rfl
theorem getD_at {xs : List Nat} {j : Nat} (h : j < xs.length) : (xs.map nv)[j]? = some (nv (xs.getD j 0)) := by
  rw [List.getElem?_map, List.getElem?_eq_getElem h, List.getD_eq_getElem?_getD, List.getElem?_eq_getElem h]
  rfl
theorem cut_to (xs : List V) (k : Nat) : cutV xs none (some (k : Int)) = xs.take k := by
  unfold cutV
  rw [HT.sIx_none, HT.sIx_nat, List.drop_zero, Nat.sub_zero]
  by_cases h : k ≤ xs.length
  · rw [Nat.min_eq_left h]
  · rw [Nat.min_eq_right (by omega), List.take_length, List.take_of_length_le (by omega)]
theorem prow_len : ∀ n : Fin 9, (prow n.val).length = n.val + 1 := by decide +kernel
section
variable {P : Program} {w : World} {K : PySem.W.Frag} {mg : Str → Option Value} {base : Heap} {A : Ad}
def spUpTo : Sp := fun vs H Q _ => ∃ n d : Nat, vs = [.int n, .int d] ∧ n ≤ 8 ∧ d ≤ 20 ∧ ∀ H', Same H H' → Q (.int (upTo n d)) H'
theorem ok_upTo (T : Txt P K mg A) : FnOk P w K mg base CX0 1 A.a_lots_up_to A.d_lots_up_to ["size", "d"] spUpTo := by
  refine T.F_lots_up_to.ok sc_lots_up_to (fun vs H Q E h => ?_) (fun cdv A' outer s H vs Q E hr h => ?_)
  · obtain ⟨n, d, rfl, _⟩ := h
    rfl
  · obtain ⟨n, d, rfl, sn, sd, k⟩ := h
    refine ⟨_, (pss_one (ps_ret (pe_callB (cr_sum rfl) (by rfl) T.n_sum (by decide +kernel) (pa_cons (pe_lc (own := [("many", 2)]) (g := (gName 2)) (by rfl) sc_lots_up_to.nd (pi_range1 rfl T.n_range (pa_cons (pe_op op_add (pe_callB (call_min2 rfl) (by rfl) T.n_min (by decide +kernel) (pa_cons (pv 0) (pa_cons (pv 1) pa_nil))) pe_int) pa_nil)) (blkOk_by (own := [("many", 2)]) (N := ["size", "d", "many"]) (sc := defScope s_lots_up_to) (by decide +kernel)) (fun _ _ _ _ _ => (pg_name (i := 2) sc_lots_up_to.nd rfl (Or.inl rfl))) (fun _ _ _ _ _ => pts_nil) (fun _ _ _ _ _ => (pe_callBfun cr_comb (by rfl) T.m_comb (pa_cons (pv 0) (pa_cons (pv 2) pa_nil))))) pa_nil)))), ?_⟩
    walk_at "sx"
    refine ⟨_, rfl, _, rfl, _, _, rfl, ?_⟩
    have em : (if (d : Int) < (n : Int) then (d : Int) else (n : Int)) = ((min n d : Nat) : Int) := by split <;> omega
    rw [em]
    walk_at "sx"
    refine ⟨by omega, by omega, fun D hD => lc_range (lo := 0) (n := min n d + 1) (fun i H' => Same H H' ∧ H' D = some (.lst (((List.range i).map fun i : Nat => PySem.W.mcComb (n : Int) (i : Int)).map V.int))) ⟨Same.new hD, upd_same⟩ ?_ ?_⟩
    · rintro i H' hi ⟨s', hD'⟩
      refine s_name ⟨rfl, ?_⟩
      refine s_yes (i_t ?_)
      walk_at "sx"
      refine ⟨_, _, rfl, by omega, by omega, by omega, ?_⟩
      refine ⟨_, hD', ?_, Sx.Same.put s' hD, ?_⟩
      · rw [List.length_map, List.length_map, List.length_range, sizeLine_eq]
        omega
      · rw [upd_same, List.range_succ, List.map_append, List.map_append, Int.zero_add]
        rfl
    · rintro H' ⟨s', hD'⟩
      walk_at "sx"
      exact ⟨D, _, rfl, SqL.of hD', k H' s'⟩
def spLine : Sp := fun vs H Q _ => ∃ n d : Nat, vs = [.int n, .int d] ∧ n ≤ 8 ∧ d ≤ 20 ∧ ∀ H', Same H H' → Q (.int (upTo n d)) H'
theorem ok_line (T : Txt P K mg A) : FnOk P w K mg base CX0 1 A.a__law_up_to A.d__law_up_to ["size", "d"] spLine := by
  refine T.F__law_up_to.ok sc__law_up_to (fun vs H Q E h => ?_) (fun cdv A' outer s H vs Q E hr h => ?_)
  · obtain ⟨n, d, rfl, _⟩ := h
    rfl
  · obtain ⟨n, d, rfl, sn, sd, k⟩ := h
    refine ⟨_, (pss_cons (ps_set (i := 2) sc__law_up_to.nd rfl (Or.inr rfl) (pe_lst (pa_cons pe_int pa_nil)))
  (pss_cons (ps_for PassesOwn.never rfl (pi_range1 rfl T.n_range (pa_cons (pv 0) pa_nil)) (pg_name (i := 3) sc__law_up_to.nd rfl (Or.inl rfl))
  (pss_one (ps_set (i := 2) sc__law_up_to.nd rfl (Or.inr rfl) (pe_op op_cat (pe_op op_cat (pe_lst (pa_cons pe_int pa_nil)) (pe_lc (own := [("j", 4)]) (g := (gName 4)) (by rfl) sc__law_up_to.nd (pi_range1 rfl T.n_range (pa_cons (pe_op op_sub (pe_callB call_len (by rfl) T.n_len (by decide +kernel) (pa_cons (pv 2) pa_nil)) pe_int) pa_nil)) (blkOk_by (own := [("j", 4)]) (N := ["size", "d", "line", "k", "j"]) (sc := defScope s__law_up_to) (by decide +kernel)) (fun _ _ _ _ _ => (pg_name (i := 4) sc__law_up_to.nd rfl (Or.inl rfl))) (fun _ _ _ _ _ => pts_nil) (fun _ _ _ _ _ => (pe_op op_add (pe_ix (r := rIx K) ix_seq (pv 2) (pv 4) (fun _ _ => rfl)) (pe_ix (r := rIx K) ix_seq (pv 2) (pe_op op_add (pv 4) pe_int) (fun _ _ => rfl)))))) (pe_lst (pa_cons pe_int pa_nil))))))
  (pss_one (ps_ret (pe_callB (cr_sum rfl) (by rfl) T.n_sum (by decide +kernel) (pa_cons (pe_slice sl_list (pv 2) po_none (po_some (pe_op op_add (pv 1) pe_int))) pa_nil)))))), ?_⟩
    walk_at "sx"
    rename_i p0 np0 H1 s1 h1
    refine ⟨_, rfl, _, rfl, by omega, by omega, for_range (lo := 0) (n := n) (fun i σ H' => Same H H' ∧ ∃ (ll : Addr) (v3 v4 : Option V), (True → H' ll = some (.lst ((prow i).map nv))) ∧ σ = [some (.int n), some (.int d), some (.ref ll), v3, v4]) ⟨s1, p0, _, _, fun _ => h1, rfl⟩ ?_ ?_⟩
    · rintro i σ H' hi ⟨s', ll, v3, v4, hl, rfl⟩
      have pl : (prow i).length = i + 1 := prow_len ⟨i, by omega⟩
      walk_at "sx"
      rename_i pa npa H2 s2 h2
      have hl2 : True → H2 ll = some (.lst ((prow i).map nv)) := fun _ => s2 _ _ (hl trivial)
      unfold tLc iRng1
      walk_at "sx"
      refine ⟨_, _, rfl, .inl ⟨_, SqL.of (hl2 trivial), rfl⟩, ?_⟩
      rw [List.length_map, pl]
      walk_at "sx"
      refine ⟨by omega, by omega, ?_⟩
      rw [show ((((i + 1 : Nat) : Int)) - 1).toNat = i by omega]
      refine fun D hD => lc_range (lo := 0) (n := i) (fun j G => Same H2 G ∧ G D = some (.lst (((List.range j).map fun j => (prow i).getD j 0 + (prow i).getD (j + 1) 0).map nv))) ⟨Same.new hD, upd_same⟩ ?_ ?_
      · rintro j G hj ⟨sG, hD'⟩
        have hG := sG _ _ (hl2 trivial)
        refine s_name ⟨rfl, ?_⟩
        refine s_yes (i_t ?_)
        refine s_op (s_op (s_var rfl (s_var rfl (r_ixL hG (v := nv ((prow i).getD j 0)) (by rw [Int.zero_add]; exact atI_nat (getD_at (by omega))) ?_))))
        refine s_op (s_var rfl (s_op (s_var rfl (s_c ?_))))
        refine r_I0 ?_
        refine r_ixL hG (v := nv ((prow i).getD (j + 1) 0)) (by rw [Int.zero_add, show ((j : Int) + 1) = ((j + 1 : Nat) : Int) by omega]; exact atI_nat (getD_at (by omega))) ?_
        refine r_I0 ?_
        refine ⟨_, hD', ?_, Sx.Same.put sG hD, ?_⟩
        · rw [List.length_map, List.length_map, List.length_range, sizeLine_eq]
          omega
        · rw [upd_same, List.range_succ, List.map_append, List.map_append, ← Int.natCast_add]
          rfl
      · rintro G ⟨sG, hD'⟩
        refine ⟨pa, D, _, _, rfl, rfl, sG _ _ h2, hD', by rw [List.length_map, List.length_map, List.length_range, sizeLine_eq]; show 1 + _ ≤ _; omega, fun p1 np1 => ?_⟩
        generalize hE : upd G p1 _ = G1
        have t1 := new_same np1 hE
        have g1 := new_at hE
        clear hE
        walk_at "sx"
        rename_i pb npb G2 t2 g2
        refine ⟨p1, pb, _, _, rfl, rfl, t2 _ _ g1, g2, by rw [List.length_append, List.length_map, List.length_map, List.length_range, sizeLine_eq]; show 1 + _ + 1 ≤ _; omega, fun p2 np2 => ?_⟩
        generalize hE : upd G2 p2 _ = G3
        have t3 := new_same np2 hE
        have g3 := new_at hE
        clear hE
        walk_at "sx"
        refine ⟨s'.trans (s2.trans (sG.trans (t1.trans (t2.trans t3)))), p2, _, _, fun _ => ?_, rfl⟩
        rw [g3, prow_succ, pl, List.map_append, List.map_append]
        rfl
    · rintro σ H' ⟨s', ll, v3, v4, hl, rfl⟩
      walk_at "sx"
      refine ⟨ll, _, rfl, SqL.of (hl trivial), fun p np => ?_⟩
      have e : cutV ((prow n).map nv) none (some ((d : Int) + 1)) = ((((prow n).take (d + 1)).map fun m : Nat => (m : Int)).map V.int) := by
        rw [show ((d : Int) + 1) = ((d + 1 : Nat) : Int) by omega, cut_to, ← List.map_take, List.map_map]
        rfl
      rw [e]
      walk_at "sx"
      refine ⟨p, _, rfl, SqL.of upd_same, ?_⟩
      rw [prow_all ⟨n, by omega⟩ ⟨d, by omega⟩]
      exact k _ (s'.trans (Same.new np))
end
end K15

set_option Elab.async false
set_option linter.all false
set_option maxRecDepth 100000
set_option maxHeartbeats 4000000
namespace K15
open PySem L2 Sx
theorem band (a b : Nat) : Builtin.bitAnd (a : Int) (b : Int) = ((a &&& b : Nat) : Int) := by
  unfold Builtin.bitAnd
  rw [decide_eq_true (Int.natCast_nonneg a), decide_eq_true (Int.natCast_nonneg b)]
  rfl
theorem nat_perm {l : List Nat} {ns : List Int} (p : ns.Perm (l.map fun m : Nat => (m : Int))) : ∃ ms : List Nat, ns = (ms.map fun m : Nat => (m : Int)) ∧ ms.Perm l := by
  have z := p.map Int.toNat
  have e : (l.map fun m : Nat => (m : Int)).map Int.toNat = l := by
    rw [List.map_map]
    exact (List.map_congr_left fun x _ => rfl).trans (List.map_id l)
  refine ⟨ns.map Int.toNat, ?_, by rw [e] at z; exact z⟩
  rw [List.map_map]
  refine (List.map_id ns).symm.trans (List.map_congr_left fun x hx => ?_)
  obtain ⟨m, _, rfl⟩ := List.mem_map.mp (p.mem_iff.mp hx)
  rfl
theorem nv_map (l : List Nat) : l.map nv = (l.map fun m : Nat => (m : Int)).map V.int := by
  rw [List.map_map]
  rfl
/-- a number pushed -/
def pn (ns : List Nat) (b m : Nat) : Nat := if m &&& b = b ∧ ¬ (m - b) ∈ ns then m - b else m
theorem and_bit {m k : Nat} : m &&& 2 ^ k = 2 ^ k ↔ m / 2 ^ k % 2 = 1 := by
  have tb : m.testBit k = decide (m / 2 ^ k % 2 = 1) := Nat.testBit_eq_decide_div_mod_eq
  constructor
  · intro e
    have z := congrArg (fun x => x.testBit k) e
    simp only [Nat.testBit_and, Nat.testBit_two_pow_self, Bool.and_true] at z
    rw [tb] at z
    exact of_decide_eq_true z
  · intro h
    refine Nat.eq_of_testBit_eq fun i => ?_
    rw [Nat.testBit_and, Nat.testBit_two_pow]
    by_cases e : k = i
    · subst e
      rw [tb]
      simp [h]
    · simp [e]
theorem pn_inj {n b : Nat} {ns : List Nat} {x y : Nat} (hx : x ∈ ns) (hy : y ∈ ns) (e : pn ns b x = pn ns b y) : x = y := by
  unfold pn at e
  have le : ∀ z, z &&& b = b → b ≤ z := fun z h => by
    have q := Nat.and_le_left (n := z) (m := b)
    omega
  split at e <;> split at e
  · rename_i h1 h2
    have := le _ h1.1
    have := le _ h2.1
    omega
  · rename_i h1 h2
    rw [e] at h1
    exact absurd hy h1.2
  · rename_i h1 h2
    rw [← e] at h2
    exact absurd hx h2.2
  · exact e
theorem pn_lt {n b m : Nat} {ns : List Nat} (h : m < 2 ^ n) : pn ns b m < 2 ^ n := by
  unfold pn
  split <;> omega
end K15

set_option Elab.async false
set_option linter.all false
set_option maxRecDepth 100000
set_option maxHeartbeats 4000000
namespace K15
open PySem L2 Sx
/-- how many ones -/
def ones : Nat → Nat → Nat
  | 0, _ => 0
  | i + 1, m => m % 2 + ones i (m / 2)
def pop (m : Nat) : Nat := ones 9 m
theorem ones_add : ∀ i m, ones (i + 1) m = ones i m + m / 2 ^ i % 2
  | 0, m => by simp [ones]
  | i + 1, m => by
    have e : ones (i + 1 + 1) m = m % 2 + ones (i + 1) (m / 2) := rfl
    have e2 : ones (i + 1) m = m % 2 + ones i (m / 2) := rfl
    rw [e, ones_add i (m / 2), e2, Nat.div_div_eq_div_mul, ← Nat.pow_succ', Nat.add_assoc]
theorem pop_all : ((List.range 256).all fun m => decide (pop m ≤ 8)) = true := by decide +kernel
theorem pop_le {m : Nat} (h : m < 256) : pop m ≤ 8 := of_decide_eq_true (List.all_eq_true.mp pop_all m (List.mem_range.mpr h))
/-- the lot of a mask -/
def lotOf (n m : Nat) : List Nat := (List.range n).filter fun j => m / 2 ^ (n - 1 - j) % 2 == 1
theorem lot_all : ∀ n : Fin 9, ((List.range (2 ^ n.val)).all fun m => mk n.val (lotOf n.val m) == m && (lotOf n.val m).length == pop m) = true := by decide +kernel
theorem lot_in : ∀ n : Fin 9, ((List.range (2 ^ n.val)).all fun m => (lotsOf n.val n.val).contains (lotOf n.val m)) = true := by decide +kernel
theorem lot_pop : ∀ n : Fin 9, ((lotsOf n.val n.val).all fun js => decide (mk n.val js < 2 ^ n.val) && pop (mk n.val js) == js.length) = true := by decide +kernel
theorem lot_sorted : ∀ n : Fin 9, (lotsOf n.val n.val).Pairwise fun a b => a.length ≤ b.length := by decide +kernel
theorem dd_zero : ∀ {xs : List Nat}, xs ≠ [] → (∀ x ∈ xs, x = 0) → dd xs = [0] := fun {xs} ne h => by
  have key : ∀ ys : List Nat, (∀ y ∈ ys, y = 0) → ys.foldl (fun D x => ins x D) [0] = [0] := by
    intro ys
    induction ys with
    | nil => exact fun _ => rfl
    | cons y ys ih =>
      intro h
      rw [List.foldl_cons, h y List.mem_cons_self]
      exact ih fun z hz => h z (List.mem_cons_of_mem _ hz)
  cases xs with
  | nil => exact absurd rfl ne
  | cons x xs =>
    unfold dd
    rw [List.foldl_cons, h x List.mem_cons_self]
    exact key xs fun z hz => h z (List.mem_cons_of_mem _ hz)
theorem free_nil {ns : List Nat} {n : Nat} (ne : ns ≠ []) : freeB ns n [] = true := by
  unfold freeB
  have e : mk n [] = 0 := rfl
  rw [e, dd_zero (xs := ns.map (· &&& 0)) (by simpa using ne) fun x hx => by
    obtain ⟨m, _, rfl⟩ := List.mem_map.mp hx
    exact Nat.and_zero m]
  rfl
theorem lotsOf_nil : ∀ n : Fin 9, (lotsOf n.val n.val).contains [] = true := by decide +kernel

/-! pushing numbers -/
def psh (n j : Nat) (ns : List Nat) : List Nat := (ns.map (pn ns (2 ^ (n - 1 - j)))).mergeSort fun a b => decide (a ≤ b)
theorem psh_perm (n j : Nat) (ns : List Nat) : (psh n j ns).Perm (ns.map (pn ns (2 ^ (n - 1 - j)))) := List.mergeSort_perm _ _
theorem psh_up (n j : Nat) (ns : List Nat) : (psh n j ns).Pairwise (· ≤ ·) := by
  have := List.pairwise_mergeSort (le := fun a b : Nat => decide (a ≤ b)) (fun a b c h1 h2 => by simp at h1 h2 ⊢; omega) (fun a b => by simp; omega) (ns.map (pn ns (2 ^ (n - 1 - j))))
  exact this.imp fun h => of_decide_eq_true h
theorem psh_of {n j : Nat} {ns ms : List Nat} (p : ms.Perm (ns.map (pn ns (2 ^ (n - 1 - j))))) (u : ms.Pairwise (· ≤ ·)) : ms = psh n j ns :=
  List.Perm.eq_of_pairwise (le := fun a b => a ≤ b) (fun a b _ _ h1 h2 => Nat.le_antisymm h1 h2) u (psh_up n j ns) (p.trans (psh_perm n j ns).symm)
theorem mem_psh {n j m : Nat} {ns : List Nat} : m ∈ psh n j ns ↔ ∃ x ∈ ns, pn ns (2 ^ (n - 1 - j)) x = m := by
  rw [(psh_perm n j ns).mem_iff, List.mem_map]
theorem psh_nums {n j : Nat} {ns : List Nat} (N : Nums n ns) : Nums n (psh n j ns) := by
  have nd0 : ns.Nodup := N.asc.imp fun h => Nat.ne_of_lt h
  have nd1 : (ns.map (pn ns (2 ^ (n - 1 - j)))).Nodup :=
    List.pairwise_map.mpr (List.Pairwise.imp_of_mem (fun {a b} ha hb hne h => hne (pn_inj (n := n) ha hb h)) nd0)
  have nd : (psh n j ns).Nodup := (psh_perm n j ns).nodup_iff.mpr nd1
  refine ⟨?_, fun m hm => ?_, fun z => ?_, ?_⟩
  · exact (List.pairwise_and_iff.mpr ⟨psh_up n j ns, nd⟩).imp fun h => Nat.lt_of_le_of_ne h.1 h.2
  · obtain ⟨x, hx, rfl⟩ := mem_psh.mp hm
    exact pn_lt (N.lt x hx)
  · have p := psh_perm n j ns
    rw [z] at p
    exact N.ne (List.map_eq_nil_iff.mp p.symm.eq_nil)
  · rw [(psh_perm n j ns).length_eq, List.length_map]
    exact N.few
def downN (n : Nat) : Nat → List Nat → List Nat
  | 0, ns => ns
  | i + 1, ns => psh n i (downN n i ns)
theorem down_nums {n : Nat} {ns : List Nat} (N : Nums n ns) : ∀ i, Nums n (downN n i ns)
  | 0 => N
  | i + 1 => psh_nums (down_nums N i)
theorem down_len {n : Nat} {ns : List Nat} : ∀ i, (downN n i ns).length = ns.length
  | 0 => rfl
  | i + 1 => by
    show (psh n i (downN n i ns)).length = _
    rw [(psh_perm n i _).length_eq, List.length_map, down_len i]
/-- down at the bit b -/
def Dat (b : Nat) (ns : List Nat) : Prop := ∀ m ∈ ns, m &&& b = b → m - b ∈ ns
theorem bits_all : ((List.range 256).all fun m => (List.range 8).all fun k => (List.range 8).all fun l => k == l || m &&& 2 ^ k != 2 ^ k || (((m - 2 ^ k) &&& 2 ^ l == 2 ^ l) == (m &&& 2 ^ l == 2 ^ l))) = true := by decide +kernel
theorem bits_oth {m k l : Nat} (hm : m < 256) (hk : k < 8) (hl : l < 8) (ne : k ≠ l) (h : m &&& 2 ^ k = 2 ^ k) : (m - 2 ^ k) &&& 2 ^ l = 2 ^ l ↔ m &&& 2 ^ l = 2 ^ l := by
  have z := List.all_eq_true.mp (List.all_eq_true.mp (List.all_eq_true.mp bits_all m (List.mem_range.mpr hm)) k (List.mem_range.mpr hk)) l (List.mem_range.mpr hl)
  simp [ne, h] at z
  constructor
  · intro e
    rw [e] at z
    simpa using z
  · intro e
    rw [e] at z
    simpa using z
theorem bit_off : ((List.range 256).all fun m => (List.range 8).all fun k => m &&& 2 ^ k != 2 ^ k || (m - 2 ^ k) &&& 2 ^ k != 2 ^ k) = true := by decide +kernel
theorem bit_low {m k : Nat} (hm : m < 256) (hk : k < 8) (h : m &&& 2 ^ k = 2 ^ k) : ¬ (m - 2 ^ k) &&& 2 ^ k = 2 ^ k := by
  have z := List.all_eq_true.mp (List.all_eq_true.mp bit_off m (List.mem_range.mpr hm)) k (List.mem_range.mpr hk)
  simpa [h] using z
theorem le_of_and {m b : Nat} (h : m &&& b = b) : b ≤ m := by
  have q := Nat.and_le_left (n := m) (m := b)
  omega
theorem pn_stay {ns : List Nat} {b m : Nat} (h : ¬ m &&& b = b) : pn ns b m = m := if_neg fun z => h z.1
theorem push_dat {n j : Nat} {ns : List Nat} (lt : ∀ m ∈ ns, m < 256) (hn : n - 1 - j < 8) : Dat (2 ^ (n - 1 - j)) (psh n j ns) := by
  intro m hm hb
  obtain ⟨x, hx, e⟩ := mem_psh.mp hm
  have l := lt x hx
  unfold pn at e
  split at e
  · rename_i h
    rw [← e] at hb
    exact absurd hb (bit_low l hn h.1)
  · rename_i h
    subst e
    have inn : x - 2 ^ (n - 1 - j) ∈ ns := Classical.byContradiction fun z => h ⟨hb, z⟩
    exact mem_psh.mpr ⟨_, inn, pn_stay (bit_low l hn hb)⟩
theorem push_keep {n j k : Nat} {ns : List Nat} (lt : ∀ m ∈ ns, m < 256) (hn : n - 1 - j < 8) (hk : k < 8) (ne : n - 1 - j ≠ k) (D : Dat (2 ^ k) ns) : Dat (2 ^ k) (psh n j ns) := by
  intro m hm hb
  obtain ⟨x, hx, e⟩ := mem_psh.mp hm
  have l := lt x hx
  generalize hB : n - 1 - j = B at *
  by_cases hxB : x &&& 2 ^ B = 2 ^ B
  · by_cases hin : x - 2 ^ B ∈ ns
    · have e' : x = m := by
        rw [← e]
        exact (if_neg fun z => z.2 hin).symm
      subst e'
      have h1 := D x hx hb
      have hb2 : (x - 2 ^ B) &&& 2 ^ k = 2 ^ k := (bits_oth l hn hk ne hxB).mpr hb
      have h2 := D _ hin hb2
      have h3 : (x - 2 ^ k) &&& 2 ^ B = 2 ^ B := (bits_oth l hk hn (Ne.symm ne) hb).mpr hxB
      refine mem_psh.mpr ⟨_, h1, ?_⟩
      rw [hB]
      refine if_neg fun z => z.2 ?_
      rw [show x - 2 ^ k - 2 ^ B = x - 2 ^ B - 2 ^ k by omega]
      exact h2
    · have e' : x - 2 ^ B = m := by
        rw [← e]
        exact (if_pos ⟨hxB, hin⟩).symm
      subst e'
      have hb1 : x &&& 2 ^ k = 2 ^ k := (bits_oth l hn hk ne hxB).mp hb
      have h1 := D x hx hb1
      have h3 : (x - 2 ^ k) &&& 2 ^ B = 2 ^ B := (bits_oth l hk hn (Ne.symm ne) hb1).mpr hxB
      rw [show x - 2 ^ B - 2 ^ k = x - 2 ^ k - 2 ^ B by omega]
      by_cases h4 : x - 2 ^ k - 2 ^ B ∈ ns
      · refine mem_psh.mpr ⟨_, h4, ?_⟩
        rw [hB]
        exact pn_stay (bit_low (by omega) hn h3)
      · refine mem_psh.mpr ⟨_, h1, ?_⟩
        rw [hB]
        exact if_pos ⟨h3, h4⟩
  · have e' : x = m := by
      rw [← e]
      exact (pn_stay hxB).symm
    subst e'
    have h1 := D x hx hb
    refine mem_psh.mpr ⟨_, h1, ?_⟩
    rw [hB]
    exact pn_stay fun z => hxB ((bits_oth l hk hn (Ne.symm ne) hb).mp z)
/-- down -/
def Dn (n : Nat) (ns : List Nat) : Prop := ∀ j, j < n → Dat (2 ^ (n - 1 - j)) ns
theorem lt256 {n : Nat} {ns : List Nat} (sn : n ≤ 8) (N : Nums n ns) : ∀ m ∈ ns, m < 256 := fun m hm => Nat.lt_of_lt_of_le (N.lt m hm) (Nat.pow_le_pow_right (n := 2) (by decide) sn)
theorem down_dat {n : Nat} {ns : List Nat} (sn : n ≤ 8) (N : Nums n ns) : ∀ i, i ≤ n → ∀ j, j < i → Dat (2 ^ (n - 1 - j)) (downN n i ns)
  | 0, _, j, h => absurd h (Nat.not_lt_zero j)
  | i + 1, hi, j, h => by
    have lt := lt256 sn (down_nums N i)
    show Dat _ (psh n i (downN n i ns))
    rcases Nat.lt_or_eq_of_le (Nat.le_of_lt_succ h) with l | rfl
    · exact push_keep lt (by omega) (by omega) (by omega) (down_dat sn N i (by omega) j l)
    · exact push_dat lt (by omega)
theorem down_dn {n : Nat} {ns : List Nat} (sn : n ≤ 8) (N : Nums n ns) : Dn n (downN n n ns) := down_dat sn N n (Nat.le_refl n)
/-- a down list stays when pushed -/
theorem psh_same {n j : Nat} {ns : List Nat} (N : Nums n ns) (hj : j < n) (D : Dn n ns) : psh n j ns = ns := by
  have e : ns.map (pn ns (2 ^ (n - 1 - j))) = ns := by
    refine (List.map_congr_left fun m hm => ?_).trans (List.map_id ns)
    refine if_neg fun z => z.2 (D j hj m hm z.1)
  exact (psh_of (by rw [e]) (N.asc.imp fun h => Nat.le_of_lt h)).symm
theorem down_same {n : Nat} {ns : List Nat} (N : Nums n ns) (D : Dn n ns) : ∀ i, i ≤ n → downN n i ns = ns
  | 0, _ => rfl
  | i + 1, h => by
    show psh n i (downN n i ns) = ns
    rw [down_same N D i (by omega), psh_same N h D]
theorem sub_all : ((List.range 256).all fun M => (List.range 256).all fun s => s &&& M != s || s == M || (List.range 8).any fun k => M &&& 2 ^ k == 2 ^ k && s &&& (M - 2 ^ k) == s) = true := by decide +kernel
theorem sub_in {n : Nat} {ms : List Nat} (sn : n ≤ 8) (lt : ∀ m ∈ ms, m < 2 ^ n) (D : Dn n ms) : ∀ M, M ∈ ms → ∀ s, s < 256 → s &&& M = s → s ∈ ms := by
  intro M
  induction M using Nat.strongRecOn with
  | ind M ih =>
    intro hM s hs e
    have l := lt M hM
    have p : (2 : Nat) ^ n ≤ 256 := Nat.pow_le_pow_right (n := 2) (by decide) sn
    have z := List.all_eq_true.mp (List.all_eq_true.mp sub_all M (List.mem_range.mpr (by omega))) s (List.mem_range.mpr hs)
    rw [Bool.or_eq_true, Bool.or_eq_true, bne_iff_ne, beq_iff_eq, List.any_eq_true] at z
    rcases z with (z | z) | ⟨k, hk, z⟩
    · exact absurd e z
    · rw [z]
      exact hM
    · rw [Bool.and_eq_true, beq_iff_eq, beq_iff_eq] at z
      have le := le_of_and z.1
      have pos : 0 < 2 ^ k := Nat.pow_pos (by decide)
      have kn : k < n := (Nat.pow_lt_pow_iff_right (a := 2) (by decide)).mp (by omega)
      have dj := D (n - 1 - k) (by omega) M hM
      rw [show n - 1 - (n - 1 - k) = k by omega] at dj
      exact ih (M - 2 ^ k) (by omega) (dj z.1) s hs z.2
end K15

set_option Elab.async false
set_option linter.all false
set_option maxRecDepth 100000
set_option maxHeartbeats 4000000
namespace K15
open PySem L2 Sx

theorem mem_dd {x : Nat} : ∀ {xs : List Nat}, x ∈ dd xs ↔ x ∈ xs := by
  have key : ∀ (xs D : List Nat), x ∈ xs.foldl (fun D x => ins x D) D ↔ x ∈ xs ∨ x ∈ D := by
    intro xs
    induction xs with
    | nil => intro D; simp
    | cons y ys ih =>
      intro D
      rw [List.foldl_cons, ih, mem_ins, List.mem_cons]
      constructor
      · rintro (h | h | h)
        · exact .inl (.inr h)
        · exact .inl (.inl h)
        · exact .inr h
      · rintro ((h | h) | h)
        · exact .inr (.inl h)
        · exact .inl h
        · exact .inr (.inr h)
  intro xs
  unfold dd
  rw [key]
  simp
/-- as many, none twice, all within: all of them -/
theorem all_of_len {l s : List Nat} (nd : l.Nodup) (sub : ∀ x ∈ l, x ∈ s) (h : s.length ≤ l.length) : ∀ x ∈ s, x ∈ l := by
  intro x hx
  refine Classical.byContradiction fun no => ?_
  have := L2.nat_nodup_len (x :: l) s (List.nodup_cons.mpr ⟨no, nd⟩) fun y hy => by
    rcases List.mem_cons.mp hy with rfl | hy
    · exact hx
    · exact sub y hy
  rw [List.length_cons] at this
  omega
def subs (M : Nat) : List Nat := (List.range 256).filter fun s => s &&& M == s
theorem subs_nd (M : Nat) : (subs M).Nodup := List.Pairwise.filter _ List.nodup_range
theorem mem_subs {M s : Nat} : s ∈ subs M ↔ s < 256 ∧ s &&& M = s := by
  unfold subs
  rw [List.mem_filter, List.mem_range, beq_iff_eq]
theorem subs_all : ((List.range 256).all fun M => (subs M).length == 2 ^ pop M) = true := by decide +kernel
theorem subs_len {M : Nat} (h : M < 256) : (subs M).length = 2 ^ pop M := by
  have z := List.all_eq_true.mp subs_all M (List.mem_range.mpr h)
  rwa [beq_iff_eq] at z
theorem and_sub {m M : Nat} (h : M < 256) : m &&& M ∈ subs M := by
  refine mem_subs.mpr ⟨Nat.lt_of_le_of_lt Nat.and_le_right h, ?_⟩
  rw [Nat.and_assoc, Nat.and_self]
/-- a lot is free in a down list just if its mask is a rule -/
theorem free_dn {n : Nat} {ms : List Nat} {M : Nat} (sn : n ≤ 8) (N : Nums n ms) (D : Dn n ms) (hM : M < 2 ^ n) : (dd (ms.map (· &&& M))).length = 2 ^ pop M ↔ M ∈ ms := by
  have p : (2 : Nat) ^ n ≤ 256 := Nat.pow_le_pow_right (n := 2) (by decide) sn
  have M8 : M < 256 := by omega
  have sl := subs_len M8
  have sub : ∀ x ∈ dd (ms.map (· &&& M)), x ∈ subs M := fun x hx => by
    obtain ⟨m, _, rfl⟩ := List.mem_map.mp (mem_dd.mp hx)
    exact and_sub M8
  constructor
  · intro h
    have all := all_of_len (dd_nd _) sub (by rw [sl, h]; exact Nat.le_refl _)
    have self := all M (mem_subs.mpr ⟨M8, Nat.and_self M⟩)
    obtain ⟨m, hm, e⟩ := List.mem_map.mp (mem_dd.mp self)
    have e' : m &&& M = M := e
    exact sub_in sn N.lt D m hm M M8 (by rw [Nat.and_comm]; exact e')
  · intro h
    refine Nat.le_antisymm ?_ ?_
    · rw [← sl]
      exact L2.nat_nodup_len _ _ (dd_nd _) sub
    · rw [← sl]
      refine L2.nat_nodup_len _ _ (subs_nd M) fun s hs => ?_
      obtain ⟨s8, se⟩ := mem_subs.mp hs
      refine mem_dd.mpr (List.mem_map.mpr ⟨s, sub_in sn N.lt D M h s s8 se, se⟩)
/-! how often each comes -/
theorem cnt_stp {f : Nat → Nat} {x y : Nat} : ∀ {T : List (Nat × Nat)}, Un f T → cnt f x (stp f y T) = cnt f x T + (if f y = f x then 1 else 0)
  | [], _ => by
    show (if f y = f x then 1 else 0) = 0 + _
    rw [Nat.zero_add]
  | p :: T, u => by
    have u' : (f p.1 :: T.map fun p => f p.1).Nodup := u
    obtain ⟨h1, h2⟩ := List.nodup_cons.mp u'
    unfold stp
    by_cases e : f p.1 = f y
    · rw [if_pos e]
      unfold cnt
      by_cases e2 : f p.1 = f x
      · rw [if_pos e2, if_pos e2, if_pos (e.symm.trans e2)]
      · rw [if_neg e2, if_neg e2, if_neg (fun z => e2 (e.trans z)), Nat.add_zero]
    · rw [if_neg e]
      unfold cnt
      by_cases e2 : f p.1 = f x
      · rw [if_pos e2, if_pos e2, if_neg (fun z => e (e2.trans z.symm)), Nat.add_zero]
      · rw [if_neg e2, if_neg e2]
        exact cnt_stp h2
theorem cnt_tally (f : Nat → Nat) (x : Nat) : ∀ (k : Nat) (xs : List Nat), cnt f x (tally f (xs.take k)) = ((xs.take k).filter fun y => f y == f x).length
  | 0, xs => by simp [tally, cnt]
  | k + 1, xs => by
    rw [List.take_succ]
    cases h : xs[k]? with
    | none =>
      rw [Option.toList_none, List.append_nil]
      exact cnt_tally f x k xs
    | some y =>
      show cnt f x (tally f (xs.take k ++ [y])) = ((xs.take k ++ [y]).filter _).length
      rw [tally_snoc, cnt_stp (un_tally f _), cnt_tally f x k xs, List.filter_append, List.length_append]
      congr 1
      by_cases e : f y = f x
      · rw [if_pos e]
        simp [e]
      · rw [if_neg e]
        simp [e]
theorem cnt_is (f : Nat → Nat) (x : Nat) (xs : List Nat) : cnt f x (tally f xs) = (xs.filter fun y => f y == f x).length := by
  have := cnt_tally f x xs.length xs
  rwa [List.take_length] at this
theorem cnt_mem {f : Nat → Nat} {p : Nat × Nat} : ∀ {T : List (Nat × Nat)}, Un f T → p ∈ T → cnt f p.1 T = p.2
  | q :: T, u, h => by
    have u' : (f q.1 :: T.map fun p => f p.1).Nodup := u
    obtain ⟨h1, h2⟩ := List.nodup_cons.mp u'
    unfold cnt
    rcases List.mem_cons.mp h with rfl | h
    · rw [if_pos rfl]
    · rw [if_neg, cnt_mem h2 h]
      intro e
      exact h1 (e ▸ List.mem_map.mpr ⟨p, h, rfl⟩)
theorem tally_has {f : Nat → Nat} {x : Nat} {xs : List Nat} (h : x ∈ xs) : ∃ p ∈ tally f xs, f p.1 = f x := by
  have key : ∀ (ys : List Nat) (T : List (Nat × Nat)), f x ∈ T.map (fun p => f p.1) ∨ x ∈ ys → f x ∈ (ys.foldl (fun T x => stp f x T) T).map fun p => f p.1 := by
    intro ys
    induction ys with
    | nil =>
      rintro T (h | h)
      · exact h
      · cases h
    | cons y ys ih =>
      intro T h
      rw [List.foldl_cons]
      refine ih _ ?_
      rw [stp_keys, mem_ins]
      rcases h with h | h
      · exact .inl (.inr h)
      · rcases List.mem_cons.mp h with rfl | h
        · exact .inl (.inl rfl)
        · exact .inr h
  obtain ⟨p, hp, e⟩ := List.mem_map.mp (key xs [] (.inr h))
  exact ⟨p, hp, e⟩
theorem mxl_mem : ∀ {cs : List Nat}, cs ≠ [] → mxl cs ∈ cs
  | [c], _ => by
    show max c 0 ∈ [c]
    rw [Nat.max_eq_left (Nat.zero_le c)]
    simp
  | c :: d :: cs, _ => by
    have ih := mxl_mem (cs := d :: cs) (fun z => nomatch z)
    show max c (mxl (d :: cs)) ∈ c :: d :: cs
    rcases Nat.le_total c (mxl (d :: cs)) with h | h
    · rw [Nat.max_eq_right h]
      exact List.mem_cons_of_mem _ ih
    · rw [Nat.max_eq_left h]
      exact List.mem_cons_self
/-- and strongly free just then, too -/
theorem strong_dn {n : Nat} {ms : List Nat} {M : Nat} (sn : n ≤ 8) (N : Nums n ms) (D : Dn n ms) (hM : M < 2 ^ n) : mxl ((tally (· ||| M) ms).map (·.2)) = 2 ^ pop M ↔ M ∈ ms := by
  have p : (2 : Nat) ^ n ≤ 256 := Nat.pow_le_pow_right (n := 2) (by decide) sn
  have M8 : M < 256 := by omega
  have sl := subs_len M8
  have lt := lt256 sn N
  have nd : ms.Nodup := N.asc.imp fun h => Nat.ne_of_lt h
  have cls : ∀ R : Nat, ((ms.filter fun y => (y ||| M) == R).map (· &&& M)).Nodup ∧ ∀ x ∈ (ms.filter fun y => (y ||| M) == R).map (· &&& M), x ∈ subs M := fun R => by
    constructor
    · refine List.pairwise_map.mpr (List.Pairwise.imp_of_mem (fun {a b} ha hb hne h => hne ?_) (List.Pairwise.filter _ nd))
      obtain ⟨a1, a2⟩ := List.mem_filter.mp ha
      obtain ⟨b1, b2⟩ := List.mem_filter.mp hb
      rw [beq_iff_eq] at a2 b2
      have e1 := or_is a M (lt a a1) M8
      have e2 := or_is b M (lt b b1) M8
      have h' : (a &&& M) = (b &&& M) := h
      have la : (a &&& M) ≤ a := Nat.and_le_left
      have lb : (b &&& M) ≤ b := Nat.and_le_left
      omega
    · intro x hx
      obtain ⟨m, _, rfl⟩ := List.mem_map.mp hx
      exact and_sub M8
  have up : ∀ R : Nat, (ms.filter fun y => (y ||| M) == R).length ≤ 2 ^ pop M := fun R => by
    have := L2.nat_nodup_len _ _ (cls R).1 (cls R).2
    rwa [List.length_map, sl] at this
  have val : ∀ q ∈ tally (· ||| M) ms, q.2 = (ms.filter fun y => (y ||| M) == (q.1 ||| M)).length := fun q hq => by
    rw [← cnt_mem (un_tally (· ||| M) ms) hq, cnt_is]
  constructor
  · intro h
    have mm := mxl_mem (cs := (tally (· ||| M) ms).map (·.2)) (fun z => tally_ne N.ne (List.map_eq_nil_iff.mp z))
    rw [h] at mm
    obtain ⟨q, hq, e⟩ := List.mem_map.mp mm
    have v := val q hq
    have e' : q.2 = 2 ^ pop M := e
    rw [e'] at v
    have all := all_of_len (cls (q.1 ||| M)).1 (cls (q.1 ||| M)).2 (by rw [List.length_map, sl, v]; exact Nat.le_refl _)
    obtain ⟨m, hm, em⟩ := List.mem_map.mp (all M (mem_subs.mpr ⟨M8, Nat.and_self M⟩))
    have em' : m &&& M = M := em
    exact sub_in sn N.lt D m (List.mem_filter.mp hm).1 M M8 (by rw [Nat.and_comm]; exact em')
  · intro h
    obtain ⟨q, hq, eq⟩ := tally_has (f := (· ||| M)) h
    have eq' : (q.1 ||| M) = M := by
      have : (q.1 ||| M) = (M ||| M) := eq
      rw [this, Nat.or_self]
    have v := val q hq
    rw [eq'] at v
    have lo : 2 ^ pop M ≤ q.2 := by
      rw [v, ← sl]
      refine L2.nat_nodup_len _ _ (subs_nd M) fun s hs => ?_
      obtain ⟨s8, se⟩ := mem_subs.mp hs
      refine List.mem_filter.mpr ⟨sub_in sn N.lt D M h s s8 se, ?_⟩
      rw [beq_iff_eq, or_is s M s8 M8, se]
      omega
    have hi := up M
    rw [← v] at hi
    refine mxl_is (List.mem_map.mpr ⟨q, hq, Nat.le_antisymm hi lo⟩) fun y hy => ?_
    obtain ⟨r, hr, rfl⟩ := List.mem_map.mp hy
    show r.2 ≤ _
    rw [val r hr]
    exact up _
theorem lot_mk {n : Nat} {L : List Nat} (sn : n ≤ 8) (h : L ∈ lotsOf n n) : mk n L < 2 ^ n ∧ pop (mk n L) = L.length := by
  have p1 := List.all_eq_true.mp (lot_pop ⟨n, by omega⟩) L h
  rw [Bool.and_eq_true, decide_eq_true_eq, beq_iff_eq] at p1
  exact p1
theorem free_is {n : Nat} {ms L : List Nat} (sn : n ≤ 8) (N : Nums n ms) (D : Dn n ms) (h : L ∈ lotsOf n n) : freeB ms n L = decide (mk n L ∈ ms) := by
  obtain ⟨h1, h2⟩ := lot_mk sn h
  unfold freeB
  rw [← h2]
  exact decide_eq_decide.mpr (free_dn sn N D h1)
theorem strong_is {n : Nat} {ms L : List Nat} (sn : n ≤ 8) (N : Nums n ms) (D : Dn n ms) (h : L ∈ lotsOf n n) : strongB ms n L = decide (mk n L ∈ ms) := by
  obtain ⟨h1, h2⟩ := lot_mk sn h
  unfold strongB
  rw [← h2]
  exact decide_eq_decide.mpr (strong_dn sn N D h1)
/-! the order of lots -/
def keyL (L : List Nat) : Int := (L.length : Int) * 16777216 + TS.code 8 (L.map fun m : Nat => (m : Int))
def ascB : List Int → Bool
  | a :: b :: l => decide (a < b) && ascB (b :: l)
  | _ => true
theorem ascB_pw : ∀ {l : List Int}, ascB l = true → l.Pairwise (· < ·)
  | [], _ => .nil
  | [a], _ => List.pairwise_singleton _ _
  | a :: b :: l, h => by
    unfold ascB at h
    rw [Bool.and_eq_true, decide_eq_true_eq] at h
    have ih := ascB_pw h.2
    refine List.pairwise_cons.mpr ⟨fun c hc => ?_, ih⟩
    rcases List.mem_cons.mp hc with rfl | hc
    · exact h.1
    · have := (List.pairwise_cons.mp ih).1 c hc
      omega
theorem lots_asc : ∀ n : Fin 9, ascB ((lotsOf n.val n.val).map keyL) = true := by decide +kernel
theorem lots_back : ∀ n : Fin 9, ((lotsOf n.val n.val).all fun L => lotOf n.val (mk n.val L) == L) = true := by decide +kernel
/-- the yes-points of down rules, in order, are the free lots -/
theorem yes_is {n : Nat} {ms : List Nat} {gs : List (List Nat)} (sn : n ≤ 8) (N : Nums n ms) (p : gs.Perm (ms.map (lotOf n))) (u : gs.Pairwise fun a b => keyL a ≤ keyL b) : gs = (lotsOf n n).filter fun L => decide (mk n L ∈ ms) := by
  have asc : (lotsOf n n).Pairwise fun a b => keyL a < keyL b := List.pairwise_map.mp (ascB_pw (lots_asc ⟨n, by omega⟩))
  have back : ∀ L ∈ lotsOf n n, lotOf n (mk n L) = L := fun L h => by
    have z := List.all_eq_true.mp (lots_back ⟨n, by omega⟩) L h
    rwa [beq_iff_eq] at z
  have of : ∀ m ∈ ms, lotOf n m ∈ lotsOf n n ∧ mk n (lotOf n m) = m := fun m hm => by
    have q1 := List.all_eq_true.mp (lot_all ⟨n, by omega⟩) m (List.mem_range.mpr (N.lt m hm))
    have q2 := List.all_eq_true.mp (lot_in ⟨n, by omega⟩) m (List.mem_range.mpr (N.lt m hm))
    rw [Bool.and_eq_true, beq_iff_eq, beq_iff_eq] at q1
    rw [List.contains_iff_mem] at q2
    exact ⟨q2, q1.1⟩
  have nd : (ms.map (lotOf n)).Nodup := List.pairwise_map.mpr (List.Pairwise.imp_of_mem (fun {a b} ha hb h e => by
    have := (of a ha).2
    rw [e, (of b hb).2] at this
    omega) N.asc)
  have inj : ∀ a ∈ lotsOf n n, ∀ b ∈ lotsOf n n, keyL a = keyL b → a = b := by
    have key : ∀ {l : List (List Nat)}, (l.Pairwise fun a b => keyL a < keyL b) → ∀ a ∈ l, ∀ b ∈ l, keyL a = keyL b → a = b := by
      intro l
      induction l with
      | nil => intro _ a ha; cases ha
      | cons c l ih =>
        intro pw a ha b hb e
        obtain ⟨h1, h2⟩ := List.pairwise_cons.mp pw
        rcases List.mem_cons.mp ha with ea | ha2
        · rcases List.mem_cons.mp hb with eb | hb2
          · rw [ea, eb]
          · have := h1 b hb2
            rw [ea] at e
            omega
        · rcases List.mem_cons.mp hb with eb | hb2
          · have := h1 a ha2
            rw [eb] at e
            omega
          · exact ih h2 a ha2 b hb2 e
    exact key asc
  have mem : ∀ L, L ∈ gs ↔ L ∈ (lotsOf n n).filter fun L => decide (mk n L ∈ ms) := fun L => by
    rw [p.mem_iff, List.mem_map, List.mem_filter, decide_eq_true_eq]
    constructor
    · rintro ⟨m, hm, rfl⟩
      exact ⟨(of m hm).1, by rw [(of m hm).2]; exact hm⟩
    · rintro ⟨h1, h2⟩
      exact ⟨_, h2, back L h1⟩
  have asf := List.Pairwise.filter (fun L => decide (mk n L ∈ ms)) asc
  have ndf : ((lotsOf n n).filter fun L => decide (mk n L ∈ ms)).Nodup := asf.imp fun h e => by
    rw [e] at h
    omega
  refine List.Perm.eq_of_pairwise (le := fun a b => keyL a ≤ keyL b) (fun a b ha hb h1 h2 => ?_) u (asf.imp fun h => Int.le_of_lt h) ((List.perm_ext_iff_of_nodup (p.nodup_iff.mpr nd) ndf).mpr mem)
  exact inj a (List.mem_filter.mp ((mem a).mp ha)).1 b (List.mem_filter.mp hb).1 (Int.le_antisymm h1 h2)
theorem perm_lift {α β : Type} {f : α → β} : ∀ {ys : List β} {l : List α}, ys.Perm (l.map f) → ∃ gs : List α, gs.Perm l ∧ gs.map f = ys
  | [], l, p => by
    have := p.symm.eq_nil
    exact ⟨[], by rw [List.map_eq_nil_iff.mp this], rfl⟩
  | y :: ys, l, p => by
    obtain ⟨a, ha, rfl⟩ := List.mem_map.mp (p.mem_iff.mp List.mem_cons_self)
    obtain ⟨s, t, rfl⟩ := List.append_of_mem ha
    rw [List.map_append, List.map_cons] at p
    have p2 := (p.trans List.perm_middle).cons_inv
    rw [← List.map_append] at p2
    obtain ⟨gs, g1, g2⟩ := perm_lift p2
    exact ⟨a :: gs, (g1.cons a).trans List.perm_middle.symm, by rw [List.map_cons, g2]⟩
end K15

set_option Elab.async false
set_option linter.all false
set_option maxRecDepth 100000
set_option maxHeartbeats 4000000
namespace K15
open PySem L2 Sx

/-! free and strongly free, by patterns -/
def FreeP (ns : List Nat) (M : Nat) : Prop := ∀ s ∈ subs M, ∃ m ∈ ns, m &&& M = s
def StrongP (ns : List Nat) (M : Nat) : Prop := ∃ R, R &&& M = 0 ∧ ∀ s ∈ subs M, R + s ∈ ns
theorem free_iff {ns : List Nat} {M : Nat} (h : M < 256) : (dd (ns.map (· &&& M))).length = 2 ^ pop M ↔ FreeP ns M := by
  have sl := subs_len h
  have sub : ∀ x ∈ dd (ns.map (· &&& M)), x ∈ subs M := fun x hx => by
    obtain ⟨m, _, rfl⟩ := List.mem_map.mp (mem_dd.mp hx)
    exact and_sub h
  constructor
  · intro e s hs
    have z := all_of_len (dd_nd _) sub (by rw [sl, e]; exact Nat.le_refl _) s hs
    obtain ⟨m, hm, e⟩ := List.mem_map.mp (mem_dd.mp z)
    exact ⟨m, hm, e⟩
  · intro f
    refine Nat.le_antisymm ?_ ?_
    · rw [← sl]
      exact L2.nat_nodup_len _ _ (dd_nd _) sub
    · rw [← sl]
      refine L2.nat_nodup_len _ _ (subs_nd M) fun s hs => ?_
      obtain ⟨m, hm, e⟩ := f s hs
      exact mem_dd.mpr (List.mem_map.mpr ⟨m, hm, e⟩)
theorem cls_nd {ns : List Nat} {M R : Nat} (M8 : M < 256) (lt : ∀ m ∈ ns, m < 256) (nd : ns.Nodup) : ((ns.filter fun y => (y ||| M) == R).map (· &&& M)).Nodup ∧ ∀ x ∈ (ns.filter fun y => (y ||| M) == R).map (· &&& M), x ∈ subs M := by
  constructor
  · refine List.pairwise_map.mpr (List.Pairwise.imp_of_mem (fun {a b} ha hb hne h => hne ?_) (List.Pairwise.filter _ nd))
    obtain ⟨a1, a2⟩ := List.mem_filter.mp ha
    obtain ⟨b1, b2⟩ := List.mem_filter.mp hb
    rw [beq_iff_eq] at a2 b2
    have e1 := or_is a M (lt a a1) M8
    have e2 := or_is b M (lt b b1) M8
    have h' : (a &&& M) = (b &&& M) := h
    have la : (a &&& M) ≤ a := Nat.and_le_left
    have lb : (b &&& M) ≤ b := Nat.and_le_left
    omega
  · intro x hx
    obtain ⟨m, _, rfl⟩ := List.mem_map.mp hx
    exact and_sub M8
theorem or_all : ((List.range 256).all fun R => (List.range 256).all fun s => R &&& s != 0 || R + s == R ||| s) = true := by decide +kernel
theorem add_or {R s : Nat} (hR : R < 256) (hs : s < 256) (h : R &&& s = 0) : R + s = R ||| s := by
  have z := List.all_eq_true.mp (List.all_eq_true.mp or_all R (List.mem_range.mpr hR)) s (List.mem_range.mpr hs)
  simpa [h] using z
theorem strong_iff {ns : List Nat} {M : Nat} (M8 : M < 256) (ne : ns ≠ []) (lt : ∀ m ∈ ns, m < 256) (nd : ns.Nodup) : mxl ((tally (· ||| M) ns).map (·.2)) = 2 ^ pop M ↔ StrongP ns M := by
  have sl := subs_len M8
  have up : ∀ R : Nat, (ns.filter fun y => (y ||| M) == R).length ≤ 2 ^ pop M := fun R => by
    have := L2.nat_nodup_len _ _ (cls_nd (R := R) M8 lt nd).1 (cls_nd M8 lt nd).2
    rwa [List.length_map, sl] at this
  have val : ∀ q ∈ tally (· ||| M) ns, q.2 = (ns.filter fun y => (y ||| M) == (q.1 ||| M)).length := fun q hq => by
    rw [← cnt_mem (un_tally (· ||| M) ns) hq, cnt_is]
  constructor
  · intro h
    have mm := mxl_mem (cs := (tally (· ||| M) ns).map (·.2)) (fun z => tally_ne ne (List.map_eq_nil_iff.mp z))
    rw [h] at mm
    obtain ⟨q, hq, e⟩ := List.mem_map.mp mm
    have v := val q hq
    have e' : q.2 = 2 ^ pop M := e
    rw [e'] at v
    have all := all_of_len (cls_nd (R := (q.1 ||| M)) M8 lt nd).1 (cls_nd M8 lt nd).2 (by rw [List.length_map, sl, v]; exact Nat.le_refl _)
    have get : ∀ s ∈ subs M, ∃ m ∈ ns, m &&& M = s ∧ (q.1 ||| M) = m - s + M := fun s hs => by
      obtain ⟨m, hm, em⟩ := List.mem_map.mp (all s hs)
      obtain ⟨m1, m2⟩ := List.mem_filter.mp hm
      rw [beq_iff_eq, or_is m M (lt m m1) M8] at m2
      have em' : m &&& M = s := em
      rw [em'] at m2
      exact ⟨m, m1, em', m2.symm⟩
    obtain ⟨R, hR, r0, rQ⟩ := get 0 (mem_subs.mpr ⟨by decide, Nat.zero_and M⟩)
    refine ⟨R, r0, fun s hs => ?_⟩
    obtain ⟨m, hm, em, eQ⟩ := get s hs
    have le : s ≤ m := by rw [← em]; exact Nat.and_le_left
    rw [show R + s = m by omega]
    exact hm
  · rintro ⟨R, r0, hall⟩
    have hR := hall 0 (mem_subs.mpr ⟨by decide, Nat.zero_and M⟩)
    rw [Nat.add_zero] at hR
    have R8 := lt R hR
    obtain ⟨q, hq, eq⟩ := tally_has (f := (· ||| M)) hR
    have eq' : (q.1 ||| M) = R + M := by
      have e1 : (q.1 ||| M) = (R ||| M) := eq
      rw [e1, or_is R M R8 M8, r0, Nat.sub_zero]
    have v := val q hq
    rw [eq'] at v
    have mand : ∀ s ∈ subs M, (R + s) &&& M = s := fun s hs => by
      obtain ⟨s8, se⟩ := mem_subs.mp hs
      have rs : R &&& s = 0 := by
        rw [← se, Nat.and_comm s M, ← Nat.and_assoc, r0, Nat.zero_and]
      rw [add_or R8 s8 rs, Nat.and_or_distrib_right, r0, se, Nat.zero_or]
    have lo : 2 ^ pop M ≤ q.2 := by
      rw [v, ← sl]
      have nd2 : ((subs M).map (R + ·)).Nodup := List.pairwise_map.mpr ((subs_nd M).imp fun h e => h (by omega))
      have := L2.nat_nodup_len _ (ns.filter fun y => (y ||| M) == R + M) nd2 fun x hx => by
        obtain ⟨s, hs, rfl⟩ := List.mem_map.mp hx
        refine List.mem_filter.mpr ⟨hall s hs, ?_⟩
        rw [beq_iff_eq, or_is _ M (lt _ (hall s hs)) M8, mand s hs]
        omega
      rwa [List.length_map] at this
    have hi := up (R + M)
    rw [← v] at hi
    refine mxl_is (List.mem_map.mpr ⟨q, hq, Nat.le_antisymm hi lo⟩) fun y hy => ?_
    obtain ⟨r, hr, rfl⟩ := List.mem_map.mp hy
    show r.2 ≤ _
    rw [val r hr]
    exact up _
/-! what a push keeps -/
theorem xor_all : ((List.range 256).all fun m => (List.range 8).all fun k => m &&& 2 ^ k != 2 ^ k || m - 2 ^ k == m ^^^ 2 ^ k) = true := by decide +kernel
theorem sub_xor {m k : Nat} (hm : m < 256) (hk : k < 8) (h : m &&& 2 ^ k = 2 ^ k) : m - 2 ^ k = m ^^^ 2 ^ k := by
  have z := List.all_eq_true.mp (List.all_eq_true.mp xor_all m (List.mem_range.mpr hm)) k (List.mem_range.mpr hk)
  simpa [h] using z
theorem bit_cases : ((List.range 256).all fun m => (List.range 8).all fun k => m &&& 2 ^ k == 2 ^ k || m &&& 2 ^ k == 0) = true := by decide +kernel
theorem bit_or {m k : Nat} (hm : m < 256) (hk : k < 8) : m &&& 2 ^ k = 2 ^ k ∨ m &&& 2 ^ k = 0 := by
  have z := List.all_eq_true.mp (List.all_eq_true.mp bit_cases m (List.mem_range.mpr hm)) k (List.mem_range.mpr hk)
  rw [Bool.or_eq_true, beq_iff_eq, beq_iff_eq] at z
  exact z
theorem and_off {m k M : Nat} (hm : m < 256) (hk : k < 8) (h : m &&& 2 ^ k = 2 ^ k) (hM : M &&& 2 ^ k = 0) : (m - 2 ^ k) &&& M = m &&& M := by
  rw [sub_xor hm hk h, Nat.and_xor_distrib_right, Nat.and_comm (2 ^ k) M, hM, Nat.xor_zero]
theorem stay_up {ns : List Nat} {b m : Nat} (h2 : m - b ∈ ns) : pn ns b m = m := if_neg fun z => z.2 h2
theorem pow_pos' (k : Nat) : 0 < 2 ^ k := Nat.pow_pos (by decide)
/-- m - b comes, whatever becomes of m -/
theorem low_in {n j : Nat} {ns : List Nat} (lt : ∀ m ∈ ns, m < 256) (hB : n - 1 - j < 8) {m : Nat} (hm : m ∈ ns) (hb : m &&& 2 ^ (n - 1 - j) = 2 ^ (n - 1 - j)) : m - 2 ^ (n - 1 - j) ∈ psh n j ns := by
  by_cases h : m - 2 ^ (n - 1 - j) ∈ ns
  · exact mem_psh.mpr ⟨_, h, pn_stay (bit_low (lt m hm) hB hb)⟩
  · exact mem_psh.mpr ⟨m, hm, if_pos ⟨hb, h⟩⟩
theorem low_stay {n j : Nat} {ns : List Nat} {m : Nat} (hm : m ∈ ns) (hb : ¬ m &&& 2 ^ (n - 1 - j) = 2 ^ (n - 1 - j)) : m ∈ psh n j ns := mem_psh.mpr ⟨m, hm, pn_stay hb⟩
theorem both_stay {n j : Nat} {ns : List Nat} {m : Nat} (hm : m ∈ ns) (h2 : m - 2 ^ (n - 1 - j) ∈ ns) : m ∈ psh n j ns := mem_psh.mpr ⟨m, hm, stay_up h2⟩
/-- what has the bit behind a push was there with and without it -/
theorem high_of {n j : Nat} {ns : List Nat} (lt : ∀ m ∈ ns, m < 256) (hB : n - 1 - j < 8) {m : Nat} (hm : m ∈ psh n j ns) (hb : m &&& 2 ^ (n - 1 - j) = 2 ^ (n - 1 - j)) : m ∈ ns ∧ m - 2 ^ (n - 1 - j) ∈ ns := by
  obtain ⟨x, hx, e⟩ := mem_psh.mp hm
  unfold pn at e
  split at e
  · rename_i h
    rw [← e] at hb
    exact absurd hb (bit_low (lt x hx) hB h.1)
  · rename_i h
    subst e
    exact ⟨hx, Classical.byContradiction fun z => h ⟨hb, z⟩⟩
theorem push_free {n j : Nat} {ns : List Nat} {M : Nat} (lt : ∀ m ∈ ns, m < 256) (hB : n - 1 - j < 8) (M8 : M < 256) (f : FreeP (psh n j ns) M) : FreeP ns M := by
  intro s hs
  obtain ⟨s8, se⟩ := mem_subs.mp hs
  rcases bit_or M8 hB with hM | hM
  · have s1 : (s ||| 2 ^ (n - 1 - j)) ∈ subs M := by
      refine mem_subs.mpr ⟨?_, by rw [Nat.and_or_distrib_right, se, Nat.and_comm _ M, hM]⟩
      exact Nat.or_lt_two_pow (n := 8) s8 (Nat.pow_lt_pow_right (by decide) hB)
    obtain ⟨m, hm, em⟩ := f _ s1
    have hb : m &&& 2 ^ (n - 1 - j) = 2 ^ (n - 1 - j) := by
      have z := congrArg (· &&& 2 ^ (n - 1 - j)) em
      have z' : (m &&& M) &&& 2 ^ (n - 1 - j) = (s ||| 2 ^ (n - 1 - j)) &&& 2 ^ (n - 1 - j) := z
      rw [Nat.and_assoc, hM, Nat.and_or_distrib_right, Nat.and_self] at z'
      rw [z']
      refine Nat.eq_of_testBit_eq fun i => ?_
      rw [Nat.testBit_or, Nat.testBit_and]
      cases s.testBit i <;> cases (2 ^ (n - 1 - j)).testBit i <;> rfl
    obtain ⟨h1, h2⟩ := high_of lt hB hm hb
    rcases bit_or s8 hB with hs2 | hs2
    · refine ⟨m, h1, ?_⟩
      rw [em]
      refine Nat.eq_of_testBit_eq fun i => ?_
      have z := congrArg (fun x => x.testBit i) hs2
      simp only [Nat.testBit_and] at z
      rw [Nat.testBit_or]
      cases hb1 : s.testBit i <;> cases hb2 : (2 ^ (n - 1 - j)).testBit i <;> simp_all
    · refine ⟨_, h2, ?_⟩
      rw [sub_xor (lt m h1) hB hb, Nat.and_xor_distrib_right, em, Nat.and_comm _ M, hM, ← add_or s8 (Nat.pow_lt_pow_right (by decide) hB : 2 ^ (n - 1 - j) < 2 ^ 8) hs2]
      have l : s + 2 ^ (n - 1 - j) < 256 := by
        rw [add_or s8 (Nat.pow_lt_pow_right (by decide) hB : 2 ^ (n - 1 - j) < 2 ^ 8) hs2]
        exact Nat.or_lt_two_pow (n := 8) s8 (Nat.pow_lt_pow_right (by decide) hB)
      have hb3 : (s + 2 ^ (n - 1 - j)) &&& 2 ^ (n - 1 - j) = 2 ^ (n - 1 - j) := by
        rw [add_or s8 (Nat.pow_lt_pow_right (by decide) hB : 2 ^ (n - 1 - j) < 2 ^ 8) hs2, Nat.and_or_distrib_right, hs2, Nat.and_self, Nat.zero_or]
      rw [← sub_xor l hB hb3]
      omega
  · obtain ⟨m, hm, em⟩ := f s hs
    obtain ⟨x, hx, e⟩ := mem_psh.mp hm
    refine ⟨x, hx, ?_⟩
    unfold pn at e
    split at e
    · rename_i h
      rw [← em, ← e, and_off (lt x hx) hB h.1 hM]
    · rw [e]
      exact em
theorem push_strong {n j : Nat} {ns : List Nat} {M : Nat} (lt : ∀ m ∈ ns, m < 256) (hB : n - 1 - j < 8) (M8 : M < 256) (f : StrongP ns M) : StrongP (psh n j ns) M := by
  obtain ⟨R, r0, hall⟩ := f
  have hR := hall 0 (mem_subs.mpr ⟨by decide, Nat.zero_and M⟩)
  rw [Nat.add_zero] at hR
  have R8 := lt R hR
  have dis : ∀ s ∈ subs M, R &&& s = 0 := fun s hs => by
    obtain ⟨s8, se⟩ := mem_subs.mp hs
    rw [← se, Nat.and_comm s M, ← Nat.and_assoc, r0, Nat.zero_and]
  rcases bit_or M8 hB with hM | hM
  · have rb : R &&& 2 ^ (n - 1 - j) = 0 := by rw [← hM, ← Nat.and_assoc, r0, Nat.zero_and]
    refine ⟨R, r0, fun s hs => ?_⟩
    obtain ⟨s8, se⟩ := mem_subs.mp hs
    by_cases hb : (R + s) &&& 2 ^ (n - 1 - j) = 2 ^ (n - 1 - j)
    · refine both_stay (hall s hs) ?_
      have sb : s &&& 2 ^ (n - 1 - j) = 2 ^ (n - 1 - j) := by
        rw [add_or R8 s8 (dis s hs), Nat.and_or_distrib_right, rb, Nat.zero_or] at hb
        exact hb
      have le := le_of_and sb
      rw [show R + s - 2 ^ (n - 1 - j) = R + (s - 2 ^ (n - 1 - j)) by omega]
      refine hall _ (mem_subs.mpr ⟨by omega, ?_⟩)
      rw [sub_xor s8 hB sb, Nat.and_xor_distrib_right, se, Nat.and_comm _ M, hM]
    · exact low_stay (hall s hs) hb
  · rcases bit_or R8 hB with rb | rb
    · have le := le_of_and rb
      refine ⟨R - 2 ^ (n - 1 - j), by rw [and_off R8 hB rb hM]; exact r0, fun s hs => ?_⟩
      rw [show R - 2 ^ (n - 1 - j) + s = R + s - 2 ^ (n - 1 - j) by omega]
      refine low_in lt hB (hall s hs) ?_
      obtain ⟨s8, se⟩ := mem_subs.mp hs
      have sb : s &&& 2 ^ (n - 1 - j) = 0 := by rw [← se, Nat.and_assoc, hM, Nat.and_zero]
      rw [add_or R8 s8 (dis s hs), Nat.and_or_distrib_right, rb, sb, Nat.or_zero]
    · refine ⟨R, r0, fun s hs => low_stay (hall s hs) ?_⟩
      obtain ⟨s8, se⟩ := mem_subs.mp hs
      have sb : s &&& 2 ^ (n - 1 - j) = 0 := by rw [← se, Nat.and_assoc, hM, Nat.and_zero]
      rw [add_or R8 s8 (dis s hs), Nat.and_or_distrib_right, rb, sb, Nat.or_zero]
      have := pow_pos' (n - 1 - j)
      omega
end K15

set_option Elab.async false
set_option linter.all false
set_option maxRecDepth 100000
set_option maxHeartbeats 4000000
namespace K15
open PySem L2 Sx
/-- free or strongly free, as asked -/
def lotB (b : Bool) (ns : List Nat) (M : Nat) : Bool := if b then decide (mxl ((tally (· ||| M) ns).map (·.2)) = 2 ^ pop M) else decide ((dd (ns.map (· &&& M))).length = 2 ^ pop M)
theorem dd_le (xs : List Nat) : (dd xs).length ≤ xs.length := by
  have := dd_len xs xs.length
  rwa [List.take_length] at this
theorem lots_back2 : ∀ n : Fin 9, ((lotsOf n.val n.val).all fun L => lotOf n.val (mk n.val L) == L) = true := by decide +kernel
/-- a lot that is free or strongly free -/
def lotP (b : Bool) (ns : List Nat) (n : Nat) (L : List Nat) : Bool := if b then strongB ns n L else freeB ns n L
theorem lotP_is {b : Bool} {ns : List Nat} {n : Nat} {L : List Nat} (sn : n ≤ 8) (h : L ∈ lotsOf n n) : lotP b ns n L = lotB b ns (mk n L) := by
  have e := (lot_mk sn h).2
  cases b with
  | false =>
    show freeB ns n L = decide _
    unfold freeB
    rw [← e]
  | true =>
    show strongB ns n L = decide _
    unfold strongB
    rw [← e]
theorem back_is {n : Nat} (sn : n ≤ 8) {L : List Nat} (h : L ∈ lotsOf n n) : lotOf n (mk n L) = L := by
  have z := List.all_eq_true.mp (lots_back2 ⟨n, by omega⟩) L h
  rwa [beq_iff_eq] at z
theorem lotsOf_nd : ∀ n : Fin 9, (lotsOf n.val n.val).Pairwise (fun a b => a ≠ b) := by
  have z : ∀ n : Fin 9, ((lotsOf n.val n.val).map (mk n.val)).Nodup := by decide +kernel
  intro n
  exact (List.pairwise_map.mp (z n)).imp fun h e => h (by rw [e])
theorem masks_nd {b : Bool} {ns : List Nat} {n : Nat} (sn : n ≤ 8) : (((lotsOf n n).filter (lotP b ns n)).map (mk n)).Nodup := by
  refine List.pairwise_map.mpr (List.Pairwise.imp_of_mem (fun {x y} hx hy h e => h ?_) (List.Pairwise.filter _ (lotsOf_nd ⟨n, by omega⟩)))
  rw [← back_is sn (List.mem_filter.mp hx).1, ← back_is sn (List.mem_filter.mp hy).1, e]
/-- the masks of these lots are the masks that the law finds -/
theorem masks_perm {b : Bool} {ns : List Nat} {n : Nat} (sn : n ≤ 8) : (((lotsOf n n).filter (lotP b ns n)).map (mk n)).Perm ((List.range (2 ^ n)).filter (lotB b ns)) := by
  refine (List.perm_ext_iff_of_nodup (masks_nd sn) (List.Pairwise.filter _ List.nodup_range)).mpr fun M => ?_
  rw [List.mem_map, List.mem_filter, List.mem_range]
  constructor
  · rintro ⟨L, hL, rfl⟩
    obtain ⟨h1, h2⟩ := List.mem_filter.mp hL
    exact ⟨(lot_mk sn h1).1, by rw [← lotP_is sn h1]; exact h2⟩
  · rintro ⟨h1, h2⟩
    have q1 := List.all_eq_true.mp (lot_all ⟨n, by omega⟩) M (List.mem_range.mpr h1)
    have q2 := List.all_eq_true.mp (lot_in ⟨n, by omega⟩) M (List.mem_range.mpr h1)
    rw [Bool.and_eq_true, beq_iff_eq, beq_iff_eq] at q1
    rw [List.contains_iff_mem] at q2
    exact ⟨lotOf n M, List.mem_filter.mpr ⟨q2, by rw [lotP_is sn q2, q1.1]; exact h2⟩, q1.1⟩
theorem lotB_free {ns : List Nat} {M : Nat} (h : M < 256) : lotB false ns M = true ↔ FreeP ns M := by
  show decide _ = true ↔ _
  rw [decide_eq_true_eq, free_iff h]
theorem lotB_strong {n : Nat} {ns : List Nat} {M : Nat} (sn : n ≤ 8) (N : Nums n ns) (h : M < 256) : lotB true ns M = true ↔ StrongP ns M := by
  show decide _ = true ↔ _
  rw [decide_eq_true_eq, strong_iff h N.ne (lt256 sn N) (N.asc.imp fun h => Nat.ne_of_lt h)]
/-- free behind a push, free ahead; strongly free ahead, so behind -/
theorem within_free {n j : Nat} {ns : List Nat} (sn : n ≤ 8) (hj : j < n) (N : Nums n ns) : ∀ x ∈ ((lotsOf n n).filter (lotP false (psh n j ns) n)).map (mk n), x ∈ ((lotsOf n n).filter (lotP false ns n)).map (mk n) := fun x hx => by
  rw [(masks_perm sn).mem_iff, List.mem_filter, List.mem_range] at hx ⊢
  have p : (2 : Nat) ^ n ≤ 256 := Nat.pow_le_pow_right (n := 2) (by decide) sn
  have x8 : x < 256 := by omega
  exact ⟨hx.1, (lotB_free x8).mpr (push_free (lt256 sn N) (by omega) x8 ((lotB_free x8).mp hx.2))⟩
theorem within_strong {n j : Nat} {ns : List Nat} (sn : n ≤ 8) (hj : j < n) (N : Nums n ns) : ∀ x ∈ ((lotsOf n n).filter (lotP true ns n)).map (mk n), x ∈ ((lotsOf n n).filter (lotP true (psh n j ns) n)).map (mk n) := fun x hx => by
  rw [(masks_perm sn).mem_iff, List.mem_filter, List.mem_range] at hx ⊢
  have p : (2 : Nat) ^ n ≤ 256 := Nat.pow_le_pow_right (n := 2) (by decide) sn
  have x8 : x < 256 := by omega
  exact ⟨hx.1, (lotB_strong sn (psh_nums N) x8).mpr (push_strong (lt256 sn N) (by omega) x8 ((lotB_strong sn N x8).mp hx.2))⟩
end K15

set_option Elab.async false
set_option linter.all false
set_option maxRecDepth 100000
set_option maxHeartbeats 4000000
namespace K15
open PySem L2 Sx

/-! the sandwich -/
def cntB (b : Bool) (n : Nat) (ns : List Nat) : Nat := ((List.range (2 ^ n)).filter (lotB b ns)).length
theorem cnt_lots {b : Bool} {n : Nat} {ns : List Nat} (sn : n ≤ 8) : ((lotsOf n n).filter (lotP b ns n)).length = cntB b n ns := by
  have := (masks_perm (b := b) (ns := ns) sn).length_eq
  rwa [List.length_map] at this
theorem down_strong {n : Nat} {ns : List Nat} {M : Nat} (sn : n ≤ 8) (N : Nums n ns) (M8 : M < 256) (f : StrongP ns M) : ∀ i, i ≤ n → StrongP (downN n i ns) M
  | 0, _ => f
  | i + 1, h => push_strong (j := i) (lt256 sn (down_nums N i)) (by omega) M8 (down_strong sn N M8 f i (by omega))
theorem down_free {n : Nat} {ns : List Nat} {M : Nat} (sn : n ≤ 8) (N : Nums n ns) (M8 : M < 256) : ∀ i, i ≤ n → FreeP (downN n i ns) M → FreeP ns M
  | 0, _, f => f
  | i + 1, h, f => down_free sn N M8 i (by omega) (push_free (j := i) (lt256 sn (down_nums N i)) (by omega) M8 f)
theorem lt_256 {n M : Nat} (sn : n ≤ 8) (h : M < 2 ^ n) : M < 256 := Nat.lt_of_lt_of_le h (Nat.pow_le_pow_right (n := 2) (by decide) sn)
theorem strong_le {n : Nat} {ns : List Nat} (sn : n ≤ 8) (N : Nums n ns) : cntB true n ns ≤ ns.length := by
  rw [← down_len (n := n) (ns := ns) n]
  refine L2.nat_nodup_len _ _ (List.Pairwise.filter _ List.nodup_range) fun M hM => ?_
  obtain ⟨h1, h2⟩ := List.mem_filter.mp hM
  have hM := List.mem_range.mp h1
  have M8 := lt_256 sn hM
  have D := down_nums N n
  exact (strong_dn sn D (down_dn sn N) hM).mp ((strong_iff M8 D.ne (lt256 sn D) (D.asc.imp fun h => Nat.ne_of_lt h)).mpr (down_strong sn N M8 ((lotB_strong sn N M8).mp h2) n (Nat.le_refl n)))
theorem free_ge {n : Nat} {ns : List Nat} (sn : n ≤ 8) (N : Nums n ns) : ns.length ≤ cntB false n ns := by
  rw [← down_len (n := n) (ns := ns) n]
  have D := down_nums N n
  refine L2.nat_nodup_len _ _ (D.asc.imp fun h => Nat.ne_of_lt h) fun M hm => ?_
  have hM := D.lt M hm
  have M8 := lt_256 sn hM
  exact List.mem_filter.mpr ⟨List.mem_range.mpr hM, (lotB_free M8).mpr (down_free sn N M8 n (Nat.le_refl n) ((free_iff M8).mp ((free_dn sn D (down_dn sn N) hM).mpr hm)))⟩

/-! a list and the other numbers -/
theorem com1 : ∀ n : Fin 6, ((List.range (2 ^ n.val)).all fun M => (List.range (2 ^ n.val)).all fun m => (m &&& M) + (m &&& (2 ^ n.val - 1 - M)) == m && (m &&& (2 ^ n.val - 1 - M)) &&& (2 ^ n.val - 1 - M) == m &&& (2 ^ n.val - 1 - M)) = true := by decide +kernel
theorem com2 : ∀ n : Fin 6, ((List.range (2 ^ n.val)).all fun M => (List.range (2 ^ n.val)).all fun s => s &&& M != s || ((List.range (2 ^ n.val)).all fun t => t &&& (2 ^ n.val - 1 - M) != t || ((s + t) &&& M == s && decide (s + t < 2 ^ n.val) && s &&& (2 ^ n.val - 1 - M) == 0))) = true := by decide +kernel
theorem sub_lt {n M s : Nat} (h : M < 2 ^ n) (e : s &&& M = s) : s < 2 ^ n := by
  have : s &&& M ≤ M := Nat.and_le_right
  omega
theorem free_com {n M : Nat} {ns os : List Nat} (sn : n ≤ 5) (hM : M < 2 ^ n) (lt : ∀ m ∈ ns, m < 2 ^ n) (ho : ∀ m, m ∈ os ↔ m < 2 ^ n ∧ m ∉ ns) : FreeP ns M ↔ ¬ StrongP os (2 ^ n - 1 - M) := by
  have hM' : 2 ^ n - 1 - M < 2 ^ n := by omega
  have p : (2 : Nat) ^ n ≤ 32 := Nat.pow_le_pow_right (n := 2) (by decide) sn
  have c1 : ∀ m, m < 2 ^ n → (m &&& M) + (m &&& (2 ^ n - 1 - M)) = m ∧ (m &&& (2 ^ n - 1 - M)) &&& (2 ^ n - 1 - M) = m &&& (2 ^ n - 1 - M) := fun m hm => by
    have z := List.all_eq_true.mp (List.all_eq_true.mp (com1 ⟨n, by omega⟩) M (List.mem_range.mpr hM)) m (List.mem_range.mpr hm)
    rw [Bool.and_eq_true, beq_iff_eq, beq_iff_eq] at z
    exact z
  have c2 : ∀ s t, s &&& M = s → t &&& (2 ^ n - 1 - M) = t → (s + t) &&& M = s ∧ s + t < 2 ^ n ∧ s &&& (2 ^ n - 1 - M) = 0 := fun s t hs ht => by
    have z := List.all_eq_true.mp (List.all_eq_true.mp (com2 ⟨n, by omega⟩) M (List.mem_range.mpr hM)) s (List.mem_range.mpr (sub_lt hM hs))
    rw [Bool.or_eq_true] at z
    rcases z with z | z
    · exact absurd (show s &&& M = s from hs) (by simpa using z)
    · have z2 := List.all_eq_true.mp z t (List.mem_range.mpr (sub_lt hM' ht))
      rw [Bool.or_eq_true] at z2
      rcases z2 with z2 | z2
      · exact absurd (show t &&& (2 ^ n - 1 - M) = t from ht) (by simpa using z2)
      · rw [Bool.and_eq_true, Bool.and_eq_true, beq_iff_eq, beq_iff_eq, decide_eq_true_eq] at z2
        exact ⟨z2.1.1, z2.1.2, z2.2⟩
  constructor
  · rintro f ⟨R, hR, h⟩
    have h0 := (ho _).mp (h 0 (mem_subs.mpr ⟨by decide, Nat.zero_and _⟩))
    rw [Nat.add_zero] at h0
    have r1 := (c1 R h0.1).1
    rw [hR, Nat.add_zero] at r1
    obtain ⟨m, hm, e⟩ := f R (mem_subs.mpr ⟨by omega, r1⟩)
    have lm := lt m hm
    obtain ⟨e1, e2⟩ := c1 m lm
    have z := (ho _).mp (h (m &&& (2 ^ n - 1 - M)) (mem_subs.mpr ⟨by have : m &&& (2 ^ n - 1 - M) ≤ m := Nat.and_le_left; omega, e2⟩))
    rw [← e, e1] at z
    exact z.2 hm
  · intro f s hs
    obtain ⟨s8, es⟩ := mem_subs.mp hs
    refine Classical.byContradiction fun no => f ⟨s, (c2 s 0 es (Nat.zero_and _)).2.2, fun t ht => ?_⟩
    obtain ⟨e1, l1, _⟩ := c2 s t es (mem_subs.mp ht).2
    exact (ho _).mpr ⟨l1, fun hm => no ⟨s + t, hm, e1⟩⟩
theorem rev_range (n : Nat) : (List.range n).reverse = (List.range n).map fun p => n - 1 - p := by
  apply List.ext_getElem?
  intro i
  rcases Nat.lt_or_ge i n with h | h
  · rw [List.getElem?_reverse (by rw [List.length_range]; exact h), List.length_range, List.getElem?_map, List.getElem?_range h, List.getElem?_range (by omega)]
    rfl
  · rw [List.getElem?_eq_none (by rw [List.length_reverse, List.length_range]; exact h), List.getElem?_eq_none (by rw [List.length_map, List.length_range]; exact h)]
theorem sum_com {N : Nat} {p q : Nat → Bool} (h : ∀ M, M < N → p M = !q (N - 1 - M)) : ((List.range N).filter p).length + ((List.range N).filter q).length = N := by
  have e1 : ((List.range N).filter q).length = ((List.range N).filter fun M => q (N - 1 - M)).length := by
    have z := congrArg List.length (congrArg (List.filter q) (rev_range N))
    rw [List.filter_reverse, List.length_reverse, List.filter_map, List.length_map] at z
    exact z
  rw [e1, ← List.countP_eq_length_filter, ← List.countP_eq_length_filter]
  have e2 : (List.range N).countP (fun M => q (N - 1 - M)) = (List.range N).countP (fun M => ¬ p M) := List.countP_congr fun M hM => by
    rw [h M (List.mem_range.mp hM)]
    simp
  rw [e2]
  have := List.length_eq_countP_add_countP p (l := List.range N)
  rw [List.length_range] at this
  exact this.symm
theorem com_sum {n : Nat} {ns os : List Nat} (sn : n ≤ 5) (N : Nums n ns) (O : Nums n os) (ho : ∀ m, m ∈ os ↔ m < 2 ^ n ∧ m ∉ ns) : cntB false n ns + cntB true n os = 2 ^ n := by
  refine sum_com fun M hM => ?_
  have hM' : 2 ^ n - 1 - M < 2 ^ n := by omega
  have z := free_com sn hM N.lt ho
  rw [← lotB_free (lt_256 (by omega) hM), ← lotB_strong (by omega) O (lt_256 (by omega) hM')] at z
  cases h : lotB true os (2 ^ n - 1 - M) with
  | true => rw [h] at z; simpa using z
  | false => rw [h] at z; simpa using z
end K15

set_option Elab.async false
set_option linter.all false
set_option maxRecDepth 100000
set_option maxHeartbeats 4000000
namespace K15
open PySem L2 Sx
local macro_rules | `(tactic| walk_at "cond") => `(tactic| first
  | assumption
  | decide
  | exact c_mul_r (by first | decide | omega) (by first | decide | omega)
  | exact c_mul_l (by first | decide | omega) (by first | decide | omega)
  | exact c_div (by first | decide | omega) (by first | decide | omega)
  | exact c_pow (by first | decide | omega) (by first | decide | omega) (by first | decide | omega)
  | omega)
local macro_rules | `(tactic| walk_at "ne") => `(tactic| first
  | assumption
  | (refine Ne.symm ?_; assumption)
  | (refine' Flow.ne ?nh ?nn; (case nn => assumption); (case nh => walk_at "fl"))
  | (refine Ne.symm ?_; refine' Flow.ne ?nh ?nn; (case nn => assumption); (case nh => walk_at "fl"))
  | (refine' ne_of_none ?nh ?nn; (case nn => assumption); (case nh => walk_at "at"))
  | (refine Ne.symm ?_; refine' ne_of_none ?nh ?nn; (case nn => assumption); (case nh => walk_at "at")))
local macro_rules | `(tactic| walk_at "at") => `(tactic| first
  | assumption
  | (refine Same.up (by assumption) ?_; walk_at "at")
  | (refine Keep.up (by assumption) (by walk_at "ne") ?_; walk_at "at"))
local macro_rules | `(tactic| walk_at "fl") => `(tactic| first
  | assumption
  | (refine Flow.same (by assumption) ?_; walk_at "fl")
  | (refine Flow.keep (by assumption) (by walk_at "ne") ?_; walk_at "fl"))
local macro_rules | `(tactic| walk_at "fr") => `(tactic| first
  | assumption
  | (refine same_free (by assumption) ?_; walk_at "fr")
  | (refine Keep.free (by assumption) (by walk_at "ne") ?_; walk_at "fr"))
local macro_rules | `(tactic| walk_at "kp") => `(tactic| first
  | assumption
  | exact Keep.refl _ _
  | (refine Keep.trans ?_ (by assumption); walk_at "kp")
  | (refine Keep.trans ?_ (Keep.same (by assumption)); walk_at "kp"))
local macro_rules | `(tactic| walk_at "sm") => `(tactic| first
  | assumption
  | exact L2.Same.refl _
  | (refine L2.Same.trans ?_ (by assumption); walk_at "sm"))
local macro_rules | `(tactic| walk_at "sz") => `(tactic| first | exact Nat.le_of_ble_eq_true rfl | omega)
local macro_rules | `(tactic| walk_at "new") => `(tactic| (intro p np; generalize hE : upd _ p _ = H2; have s2 := new_same np hE; have h2 := new_at hE; clear hE))
local macro_rules | `(tactic| walk_at "newx") => `(tactic| (intro e d na nd hda; generalize hE : upd (upd _ d _) e _ = H2; have s2 := newx_same na nd hE; have h2 := newx_at hE; have h3 := newx_d hda hE; clear hE))
local macro_rules | `(tactic| walk_at "s1") => `(tactic| first
  | with_reducible refine s_seq ?_
  | with_reducible refine s_asg ?_
  | with_reducible refine s_name ?_
  | with_reducible refine s_ret ?_
  | with_reducible refine s_c ?_
  | ((with_reducible refine' s_var ?hv ?_); (case hv => rfl))
  | with_reducible refine s_op ?_
  | with_reducible refine s_un ?_
  | with_reducible refine s_ifS ?_
  | with_reducible refine s_cb ?_
  | with_reducible refine s_cons ?_
  | with_reducible refine s_nil ?_
  | with_reducible refine s_call ?_
  | with_reducible refine s_test ?_
  | with_reducible refine s_tB ?_
  | with_reducible refine s_bl ?_
  | with_reducible refine s_and ?_
  | with_reducible refine s_or ?_
  | with_reducible refine s_not ?_
  | with_reducible refine s_andV ?_
  | with_reducible refine s_orV ?_
  | with_reducible refine s_notV ?_
  | with_reducible refine s_blV ?_
  | with_reducible refine s_if ?_
  | with_reducible refine s_tup ?_
  | with_reducible refine s_lst ?_
  | with_reducible refine s_drop ?_
  | with_reducible refine s_next ?_
  | with_reducible refine s_sub ?_
  | with_reducible refine s_bm ?_
  | with_reducible refine s_callK ?_
  | with_reducible refine s_brk ?_
  | with_reducible refine s_cont ?_
  | with_reducible refine r_I0 ?_
  | with_reducible refine r_U ?_
  | with_reducible refine r_eqI ?_
  | with_reducible refine r_neI ?_
  | with_reducible refine r_isB ?_
  | with_reducible refine r_notB ?_
  | with_reducible refine i_t ?_
  | with_reducible refine i_f ?_
  | with_reducible refine i_nt ?_
  | with_reducible refine i_nf ?_
  | ((with_reducible refine' r_I ?hc ?_); (case hc => walk_at "cond"))
  | (with_reducible refine .inl ⟨_, rfl, ?_⟩)
  | (with_reducible refine ⟨_, rfl, ?_⟩)
  | ((with_reducible refine' r_ixL ?hx ?ha ?_); (case hx => walk_at "at"); (case ha => rfl))
  | ((with_reducible refine' r_ixT ?hx ?ha ?_); (case hx => walk_at "at"); (case ha => rfl))
  | ((with_reducible refine' r_setL ?hx ?ha ?_); (case hx => walk_at "at"); (case ha => rfl); intro H2 k2 h2; (try dsimp only [List.set, Int.toNat] at h2))
  | ((with_reducible refine' r_app ?hx ?hl ?_); (case hx => walk_at "at"); (case hl => first | exact Nat.lt_of_ble_eq_true rfl | omega); intro H2 k2 h2)
  | ((with_reducible refine' ty_list ?hx ?_); (case hx => walk_at "at"))
  | (refine And.intro (by (with_reducible show _ ≤ sizeLine); walk_at "sz") ?_; walk_at "new")
  | with_reducible refine s_exv ?_
  | walk_at "newx")
local macro_rules | `(tactic| walk_at "sx") => `(tactic| repeat (walk_at "s1"))
local macro_rules | `(tactic| walk_at "s2") => `(tactic| first
  | ((with_reducible refine' r_ixG ?hx ?hn ?_); (case hx => walk_at "at"); (case hn => omega))
  | ((with_reducible refine' r_ixGT ?hx ?hn ?_); (case hx => walk_at "at"); (case hn => omega))
  | (with_reducible refine ig_cons (fun hix => ?_) (fun hix => ?_))
  | ((with_reducible refine ig_nil ?_); omega)
  | ((with_reducible refine' i_T ?hc ?_); (case hc => omega))
  | ((with_reducible refine' i_F ?hc ?_); (case hc => omega))
  | (with_reducible refine i_2 (fun hc => ?_) (fun hc => ?_))
  | (with_reducible refine i_n2 (fun hc => ?_) (fun hc => ?_)))
local macro_rules | `(tactic| walk_at "go") => `(tactic| repeat' (first | walk_at "s1" | walk_at "s2"))

local macro_rules | `(tactic| walk_at "s1") => `(tactic| first
  | with_reducible refine s_chain ?_
  | with_reducible refine s_fldS ?_
  | with_reducible refine s_fld ?_
  | with_reducible refine s_dIn ?_
  | with_reducible refine s_dNotIn ?_
  | with_reducible refine s_sl ?_
  | with_reducible refine s_noPart ?_
  | with_reducible refine s_part ?_
  | with_reducible refine s_meth ?_
  | with_reducible refine s_make ?_)

theorem bitsOf_mod : ∀ n m : Nat, bitsOf n (m % 2 ^ n) = bitsOf n m
  | 0, _ => rfl
  | n + 1, m => by
    rw [bitsOf, bitsOf]
    have e1 : m % 2 ^ (n + 1) / 2 = m / 2 % 2 ^ n := by
      rw [Nat.pow_succ', Nat.mod_mul_right_div_self]
    have e2 : m % 2 ^ (n + 1) % 2 = m % 2 := Nat.mod_mod_of_dvd m ⟨2 ^ n, by rw [Nat.pow_succ']⟩
    rw [e1, e2, bitsOf_mod n (m / 2)]
/-- the numbers of one list beside another -/
def prodN (k : Nat) (ns1 ns2 : List Nat) : List Nat := ns1.flatMap fun a => ns2.map fun b => a * 2 ^ k + b
theorem mem_prod {k m : Nat} {ns1 ns2 : List Nat} (lt2 : ∀ b ∈ ns2, b < 2 ^ k) : m ∈ prodN k ns1 ns2 ↔ m / 2 ^ k ∈ ns1 ∧ m % 2 ^ k ∈ ns2 := by
  unfold prodN
  rw [List.mem_flatMap]
  have pp : 0 < 2 ^ k := Nat.pow_pos (by decide)
  constructor
  · rintro ⟨a, ha, h⟩
    obtain ⟨b, hb, rfl⟩ := List.mem_map.mp h
    have lb := lt2 b hb
    refine ⟨?_, ?_⟩
    · rw [Nat.mul_comm, Nat.mul_add_div pp, Nat.div_eq_of_lt lb, Nat.add_zero]
      exact ha
    · rw [Nat.mul_comm, Nat.mul_add_mod, Nat.mod_eq_of_lt lb]
      exact hb
  · rintro ⟨h1, h2⟩
    exact ⟨_, h1, List.mem_map.mpr ⟨_, h2, by rw [Nat.mul_comm]; exact Nat.div_add_mod m (2 ^ k)⟩⟩
theorem prod_nums {n1 n2 : Nat} {ns1 ns2 : List Nat} (N1 : Nums n1 ns1) (N2 : Nums n2 ns2) (sn : n1 + n2 ≤ 6) : Nums (n1 + n2) (prodN n2 ns1 ns2) := by
  have pp : 0 < 2 ^ n2 := Nat.pow_pos (by decide)
  have asc : (prodN n2 ns1 ns2).Pairwise (· < ·) := by
    refine List.pairwise_flatMap.mpr ⟨fun a _ => List.pairwise_map.mpr (N2.asc.imp fun h => Nat.add_lt_add_left h _), N1.asc.imp_of_mem fun {a b} _ _ h x hx y hy => ?_⟩
    obtain ⟨x', hx', rfl⟩ := List.mem_map.mp hx
    obtain ⟨y', hy', rfl⟩ := List.mem_map.mp hy
    have lx := N2.lt x' hx'
    have : (a + 1) * 2 ^ n2 ≤ b * 2 ^ n2 := Nat.mul_le_mul_right _ h
    rw [Nat.add_mul, Nat.one_mul] at this
    omega
  have lt : ∀ m ∈ prodN n2 ns1 ns2, m < 2 ^ (n1 + n2) := fun m hm => by
    have h1 := N1.lt _ ((mem_prod N2.lt).mp hm).1
    have := Nat.div_lt_iff_lt_mul pp |>.mp h1
    rwa [← Nat.pow_add] at this
  refine ⟨asc, lt, fun e => ?_, ?_⟩
  · obtain ⟨a, ha⟩ := List.exists_mem_of_ne_nil _ N1.ne
    obtain ⟨b, hb⟩ := List.exists_mem_of_ne_nil _ N2.ne
    have m : a * 2 ^ n2 + b ∈ prodN n2 ns1 ns2 := List.mem_flatMap.mpr ⟨a, ha, List.mem_map.mpr ⟨b, hb, rfl⟩⟩
    rw [e] at m
    cases m
  · have z := L2.nat_nodup_len (prodN n2 ns1 ns2) (List.range (2 ^ (n1 + n2))) (asc.imp fun h => Nat.ne_of_lt h) fun m hm => List.mem_range.mpr (lt m hm)
    rw [List.length_range] at z
    have : (2 : Nat) ^ (n1 + n2) ≤ 64 := Nat.pow_le_pow_right (n := 2) (by decide) sn
    omega
theorem bits_prod {n1 n2 a b : Nat} (h : b < 2 ^ n2) : bitsOf (n1 + n2) (a * 2 ^ n2 + b) = bitsOf n1 a ++ bitsOf n2 b := by
  have pp : 0 < 2 ^ n2 := Nat.pow_pos (by decide)
  rw [bitsOf_add]
  congr 1
  · rw [Nat.mul_comm, Nat.mul_add_div pp, Nat.div_eq_of_lt h, Nat.add_zero]
  · rw [← bitsOf_mod, Nat.mul_comm, Nat.mul_add_mod, Nat.mod_eq_of_lt h]
section
variable {P : Program} {w : World} {K : PySem.W.Frag} {mg : Str → Option Value} {base : Heap} {A : Ad}
def spBeside (C : Addr) : Sp := fun vs H Q _ => ∃ (x y : Addr) (n1 n2 : Nat) (ns1 ns2 : List Nat), vs = [.ref x, .ref y] ∧ Rn C H x n1 ns1 ∧ Rn C H y n2 ns2 ∧ Nums n1 ns1 ∧ Nums n2 ns2 ∧ n1 + n2 ≤ 6 ∧ ∀ z H', Same H H' → Rn C H' z (n1 + n2) (prodN n2 ns1 ns2) → Q (.ref z) H'
theorem ok_beside (T : Txt P K mg A) : FnOk P w K mg base CX0 7 A.a_Rules__beside A.d_Rules__beside ["self", "other"] (spBeside A.c_Rules) := by
  refine T.F_Rules__beside.ok sc_Rules__beside (fun vs H Q E h => ?_) (fun cdv A' outer s H vs Q E hr h => ?_)
  · obtain ⟨x, y, n1, n2, ns1, ns2, rfl, _⟩ := h
    rfl
  · obtain ⟨x, y, n1, n2, ns1, ns2, rfl, R1, R2, N1, N2, sn, k⟩ := h
    have G_Rules____init__ := ok_make (w := w) (base := base) T
    obtain ⟨ks1, ru1, ek1⟩ := id R1
    obtain ⟨ks2, ru2, ek2⟩ := id R2
    obtain ⟨dx, t, kn, h1, h2, h3, rows1, asc, ne, sz⟩ := id ru1
    obtain ⟨ey, u, kn2, g1, g2, g3, rows2, asc2, ne2, sz2⟩ := id ru2
    have ht : True → H t = some (.tup (ks1.map rf)) := fun _ => h2
    have hu : True → H u = some (.tup (ks2.map rf)) := fun _ => g2
    clear h2 h3 g2 g3
    have N := prod_nums N1 N2 sn
    have lk1 : ks1.length = ns1.length := by simpa using congrArg List.length ek1
    have lk2 : ks2.length = ns2.length := by simpa using congrArg List.length ek2
    have w1 := N1.few
    have w2 := N2.few
    have w12 : ns1.length * ns2.length ≤ 64 := by
      have z := N.few
      unfold prodN at z
      rw [List.length_flatMap, List.map_congr_left (g := fun _ => ns2.length) (fun a _ => List.length_map ..), List.map_const', List.sum_replicate_nat] at z
      exact z
    refine ⟨_, (pss_cons (ps_set (i := 2) sc_Rules__beside.nd rfl (Or.inl rfl) (pe_op op_add (pe_fld (pv 0) rfl) (pe_fld (pv 1) rfl)))
  (pss_cons (ps_if (pt_cmpR op_gt (pv 2) (pe_glob (v := .int 8) rfl T.k_MOST_POINTS ⟨_, rfl⟩) (nomark _)) (pss_one ps_never) pss_nil)
  (pss_one (ps_ret (pe_make T.mk_Rules G_Rules____init__ (hr.mono (by decide)) rfl T.g_Rules (B_Rules____init__ T) .nil pass0 (pa_cons (pv 2) (pa_cons (pe_lc2 (own := [("mine", 3), ("their", 4)]) (vs1 := [4]) (g := (gName 3)) (g1 := (gName 4)) (by rfl) sc_Rules__beside.nd (pi_tup (pe_fld (pv 0) rfl)) (blkOk_by (own := [("mine", 3), ("their", 4)]) (N := ["self", "other", "size", "mine", "their"]) (sc := defScope s_Rules__beside) (by decide +kernel)) (by decide) (fun _ _ _ _ _ => (pg_name (i := 3) sc_Rules__beside.nd rfl (Or.inl rfl))) (fun _ _ _ _ _ => pts_nil) (fun _ _ _ _ _ => (pi_tupK K (pe_fldK K (pv 1) rfl rfl) rfl)) (fun _ _ _ _ _ => (pg_name (i := 4) sc_Rules__beside.nd rfl (Or.inl rfl))) (fun _ _ _ _ _ => pts_nil) (fun _ _ _ _ _ => (pe_op (r := rCatA K) op_catA (pv 3) (pv 4)))) pa_nil))))))), ?_⟩
    walk_at "sx"
    refine r_get rfl h1 T.cl_Rules T.no_Rules_size rfl ?_
    walk_at "sx"
    refine r_get rfl g1 T.cl_Rules T.no_Rules_size rfl ?_
    walk_at "sx"
    refine i_F (by omega) ?_
    walk_at "sx"
    unfold tLc2 iTup
    walk_at "sx"
    refine r_get rfl h1 T.cl_Rules T.no_Rules_rows rfl ?_
    refine ⟨t, rfl, ⟨_, SqT.of (ht trivial)⟩, fun D hD => it_tup (K := K) (a := t) (xs := ks1.map rf) (fun i H' => Same H H' ∧ ∃ ls, (True → H' D = some (.lst (ls.map rf))) ∧ RowsAt H' (n1 + n2) ls ∧ ls.map (·.2) = (prodN n2 (ns1.take i) ns2).map (bitsOf (n1 + n2))) ⟨Same.new hD, [], fun _ => upd_same, rows_nil, rfl⟩ (fun i H' _ h => SqT.of (h.1 _ _ (ht trivial))) ?_ ?_⟩
    · rintro i y' H' hy ⟨s', ls, hD', rl, el⟩
      obtain ⟨q, hq, rfl⟩ : ∃ q, ks1[i]? = some q ∧ rf q = y' := by
        rw [List.getElem?_map] at hy
        exact Option.map_eq_some_iff.mp hy
      have hm := List.mem_of_getElem? hq
      have il : i < ks1.length := (List.getElem?_eq_some_iff.mp hq).1
      obtain ⟨a, ha2, ea⟩ : ∃ a, ns1[i]? = some a ∧ bitsOf n1 a = q.2 := by
        have e := congrArg (fun l => l[i]?) ek1
        simp only [List.getElem?_map, hq, Option.map_some] at e
        exact Option.map_eq_some_iff.mp e.symm
      have p1 : prodN n2 (ns1.take (i + 1)) ns2 = prodN n2 (ns1.take i) ns2 ++ ns2.map fun b => a * 2 ^ n2 + b := by
        unfold prodN
        rw [List.take_succ, ha2, List.flatMap_append]
        simp
      have ll : ls.length ≤ 64 := by
        have z := congrArg List.length el
        unfold prodN at z
        rw [List.length_map, List.length_map, List.length_flatMap, List.map_congr_left (g := fun _ => ns2.length) (fun a _ => List.length_map ..), List.map_const', List.sum_replicate_nat, List.length_take] at z
        rw [z]
        exact Nat.le_trans (Nat.mul_le_mul_right _ (Nat.min_le_right ..)) w12
      refine s_name ⟨rfl, ?_⟩
      refine s_yes (i_t ?_)
      walk_at "sx"
      refine r_get rfl (s' _ _ g1) T.cl_Rules T.no_Rules_rows rfl ?_
      refine ⟨u, rfl, ⟨_, SqT.of (s' _ _ (hu trivial))⟩, it_tup (K := K) (a := u) (xs := ks2.map rf) (fun j H2 => Same H H2 ∧ ∃ ls, (True → H2 D = some (.lst (ls.map rf))) ∧ RowsAt H2 (n1 + n2) ls ∧ ls.map (·.2) = ((prodN n2 (ns1.take i) ns2).map (bitsOf (n1 + n2))) ++ ((ns2.take j).map fun b => bitsOf (n1 + n2) (a * 2 ^ n2 + b))) ⟨s', ls, hD', rl, by rw [el]; simp⟩ (fun j H2 _ h => SqT.of (h.1 _ _ (hu trivial))) ?_ ?_⟩
      · rintro j y2 H2 hy2 ⟨s2, ls2, hD2, rl2, el2⟩
        obtain ⟨r, hr', rfl⟩ : ∃ q, ks2[j]? = some q ∧ rf q = y2 := by
          rw [List.getElem?_map] at hy2
          exact Option.map_eq_some_iff.mp hy2
        have hm2 := List.mem_of_getElem? hr'
        have jl : j < ks2.length := (List.getElem?_eq_some_iff.mp hr').1
        obtain ⟨b, hb2, eb⟩ : ∃ a, ns2[j]? = some a ∧ bitsOf n2 a = r.2 := by
          have e := congrArg (fun l => l[j]?) ek2
          simp only [List.getElem?_map, hr', Option.map_some] at e
          exact Option.map_eq_some_iff.mp e.symm
        have bl := N2.lt b (List.mem_of_getElem? hb2)
        have ll2 : ls2.length ≤ 128 := by
          have z := congrArg List.length el2
          have z1 := congrArg List.length el
          rw [List.length_append, List.length_map, List.length_map, List.length_map, List.length_take] at z
          rw [List.length_map, List.length_map] at z1
          omega
        have q1 := (rows1 q hm)
        have q2 := (rows2 r hm2)
        refine s_name ⟨rfl, ?_⟩
        refine s_yes (i_t ?_)
        walk_at "s1"
        walk_at "s1"
        walk_at "s1"
        refine r_cat (s2 _ _ q1.1) (s2 _ _ q2.1) (by rw [List.length_map, List.length_map, q1.2.1, q2.2.1, sizeLine_eq]; omega) fun p H3 s3 h3 => ?_
        refine rows_step (H1 := H) (r := bitsOf (n1 + n2) (a * 2 ^ n2 + b)) hD (hD2 trivial) s2 s3 rl2 ?_ (bitsOf_bits _ _) (by omega) ?_ |>.imp fun acc h => ⟨h.1, h.2.1, h.2.2.1, h.2.2.2.imp fun ls' h => ⟨fun _ => h.1, h.2.1, h.2.2⟩⟩
        · rw [bits_prod bl, ea, eb, List.map_append]
          exact h3
        · rw [el2, List.take_succ, hb2, List.append_assoc]
          simp
      · rintro H2 ⟨s2, ls2, hD2, rl2, el2⟩
        refine ⟨s2, ls2, hD2, rl2, ?_⟩
        rw [el2, p1, List.map_append, List.map_map, List.length_map, lk2, List.take_length]
        rfl
    · rintro H' ⟨s', ls, hD', rl, el⟩
      rw [List.length_map, lk1, List.take_length] at el
      refine s_nil (c_makeV (hD' trivial) (ls_ne N el) (ls_few N el) (by omega) rl fun y H2 ks' s2 o r => ?_)
      exact k y H2 (s'.trans s2) (rn_of N el o r)
end
end K15

set_option Elab.async false
set_option linter.all false
set_option maxRecDepth 100000
set_option maxHeartbeats 4000000
namespace K15
open PySem L2 Sx

/-! one list beside another -/
theorem and_split {k x y : Nat} : x &&& y = ((x / 2 ^ k) &&& (y / 2 ^ k)) * 2 ^ k + ((x % 2 ^ k) &&& (y % 2 ^ k)) := by
  rw [← Nat.and_div_two_pow, ← Nat.and_mod_two_pow, Nat.mul_comm]
  exact (Nat.div_add_mod _ _).symm
theorem hi_and {k x y : Nat} : (x &&& y) / 2 ^ k = (x / 2 ^ k) &&& (y / 2 ^ k) := Nat.and_div_two_pow
theorem lo_and {k x y : Nat} : (x &&& y) % 2 ^ k = (x % 2 ^ k) &&& (y % 2 ^ k) := Nat.and_mod_two_pow
theorem hi_of {k a b : Nat} (h : b < 2 ^ k) : (a * 2 ^ k + b) / 2 ^ k = a := by
  rw [Nat.mul_comm, Nat.mul_add_div (Nat.pow_pos (by decide)), Nat.div_eq_of_lt h, Nat.add_zero]
theorem lo_of {k a b : Nat} (h : b < 2 ^ k) : (a * 2 ^ k + b) % 2 ^ k = b := by
  rw [Nat.mul_comm, Nat.mul_add_mod, Nat.mod_eq_of_lt h]
theorem ext_hl {k x y : Nat} (h : x / 2 ^ k = y / 2 ^ k) (l : x % 2 ^ k = y % 2 ^ k) : x = y := by
  rw [← Nat.div_add_mod x (2 ^ k), ← Nat.div_add_mod y (2 ^ k), h, l]
theorem subs_hl {k M s : Nat} (h : s ∈ subs M) : s / 2 ^ k ∈ subs (M / 2 ^ k) ∧ s % 2 ^ k ∈ subs (M % 2 ^ k) := by
  obtain ⟨h8, e⟩ := mem_subs.mp h
  refine ⟨mem_subs.mpr ⟨Nat.lt_of_le_of_lt (Nat.div_le_self _ _) h8, by rw [← hi_and, e]⟩, mem_subs.mpr ⟨Nat.lt_of_le_of_lt (Nat.mod_le _ _) h8, by rw [← lo_and, e]⟩⟩
theorem hl_subs {k M a b : Nat} (M8 : M < 256) (ha : a ∈ subs (M / 2 ^ k)) (hb : b ∈ subs (M % 2 ^ k)) : a * 2 ^ k + b ∈ subs M ∧ b < 2 ^ k := by
  obtain ⟨_, ea⟩ := mem_subs.mp ha
  obtain ⟨_, eb⟩ := mem_subs.mp hb
  have lb : b < 2 ^ k := by
    have z : b &&& (M % 2 ^ k) ≤ M % 2 ^ k := Nat.and_le_right
    have := Nat.mod_lt M (y := 2 ^ k) (Nat.pow_pos (by decide))
    omega
  have e : (a * 2 ^ k + b) &&& M = a * 2 ^ k + b := ext_hl (k := k) (by rw [hi_and, hi_of lb, ea]) (by rw [lo_and, lo_of lb, eb])
  have z : (a * 2 ^ k + b) &&& M ≤ M := Nat.and_le_right
  exact ⟨mem_subs.mpr ⟨by omega, e⟩, lb⟩
theorem zero_subs (M : Nat) : 0 ∈ subs M := mem_subs.mpr ⟨by decide, Nat.zero_and _⟩
theorem free_prod {k M : Nat} {ns1 ns2 : List Nat} (lt2 : ∀ b ∈ ns2, b < 2 ^ k) (M8 : M < 256) : FreeP (prodN k ns1 ns2) M ↔ FreeP ns1 (M / 2 ^ k) ∧ FreeP ns2 (M % 2 ^ k) := by
  constructor
  · intro f
    constructor
    · intro s hs
      obtain ⟨h, l⟩ := hl_subs M8 hs (zero_subs _)
      obtain ⟨m, hm, e⟩ := f _ h
      refine ⟨_, ((mem_prod lt2).mp hm).1, ?_⟩
      rw [← hi_and, e, hi_of l]
    · intro s hs
      obtain ⟨h, l⟩ := hl_subs M8 (zero_subs _) hs
      obtain ⟨m, hm, e⟩ := f _ h
      refine ⟨_, ((mem_prod lt2).mp hm).2, ?_⟩
      rw [← lo_and, e, lo_of l]
  · rintro ⟨f1, f2⟩ s hs
    obtain ⟨h1, h2⟩ := subs_hl (k := k) hs
    obtain ⟨a, ha, ea⟩ := f1 _ h1
    obtain ⟨b, hb, eb⟩ := f2 _ h2
    have lb := lt2 b hb
    exact ⟨a * 2 ^ k + b, (mem_prod lt2).mpr ⟨by rw [hi_of lb]; exact ha, by rw [lo_of lb]; exact hb⟩, ext_hl (k := k) (by rw [hi_and, hi_of lb, ea]) (by rw [lo_and, lo_of lb, eb])⟩
theorem or_lt {k a b : Nat} (h : a &&& b = 0) (ha : a < 2 ^ k) (hb : b < 2 ^ k) (k8 : k ≤ 8) : a + b < 2 ^ k := by
  have p : (2 : Nat) ^ k ≤ 256 := Nat.pow_le_pow_right (n := 2) (by decide) k8
  rw [add_or (by omega) (by omega) h]
  exact Nat.or_lt_two_pow ha hb
theorem strong_prod {k M : Nat} {ns1 ns2 : List Nat} (k8 : k ≤ 8) (lt2 : ∀ b ∈ ns2, b < 2 ^ k) (M8 : M < 256) : StrongP (prodN k ns1 ns2) M ↔ StrongP ns1 (M / 2 ^ k) ∧ StrongP ns2 (M % 2 ^ k) := by
  have pp : 0 < 2 ^ k := Nat.pow_pos (by decide)
  constructor
  · rintro ⟨R, hR, h⟩
    have r1 : (R / 2 ^ k) &&& (M / 2 ^ k) = 0 := by rw [← hi_and, hR, Nat.zero_div]
    have r2 : (R % 2 ^ k) &&& (M % 2 ^ k) = 0 := by rw [← lo_and, hR, Nat.zero_mod]
    have lr := Nat.mod_lt R pp
    constructor
    · refine ⟨R / 2 ^ k, r1, fun s hs => ?_⟩
      obtain ⟨h1, l⟩ := hl_subs M8 hs (zero_subs _)
      have z := ((mem_prod lt2).mp (h _ h1)).1
      have e : R + (s * 2 ^ k + 0) = (R / 2 ^ k + s) * 2 ^ k + R % 2 ^ k := by
        have := Nat.div_add_mod R (2 ^ k)
        rw [Nat.mul_comm] at this
        rw [Nat.add_mul]
        omega
      rw [e, hi_of lr] at z
      exact z
    · refine ⟨R % 2 ^ k, r2, fun s hs => ?_⟩
      obtain ⟨h1, l⟩ := hl_subs M8 (zero_subs _) hs
      have z := ((mem_prod lt2).mp (h _ h1)).2
      have e : R + (0 * 2 ^ k + s) = (R / 2 ^ k) * 2 ^ k + (R % 2 ^ k + s) := by
        have := Nat.div_add_mod R (2 ^ k)
        rw [Nat.mul_comm] at this
        omega
      have rs : (R % 2 ^ k) &&& s = 0 := by
        have es := (mem_subs.mp hs).2
        rw [← es, Nat.and_comm s, ← Nat.and_assoc, r2, Nat.zero_and]
      rw [e, lo_of (or_lt rs lr l k8)] at z
      exact z
  · rintro ⟨⟨R1, hR1, h1⟩, R2, hR2, h2⟩
    have l2 := lt2 _ (h2 0 (zero_subs _))
    rw [Nat.add_zero] at l2
    refine ⟨R1 * 2 ^ k + R2, ext_hl (k := k) (by rw [hi_and, hi_of l2, hR1, Nat.zero_div]) (by rw [lo_and, lo_of l2, hR2, Nat.zero_mod]), fun s hs => ?_⟩
    obtain ⟨s1, s2⟩ := subs_hl (k := k) hs
    have z1 := h1 _ s1
    have z2 := h2 _ s2
    have lz := lt2 _ z2
    have e : R1 * 2 ^ k + R2 + s = (R1 + s / 2 ^ k) * 2 ^ k + (R2 + s % 2 ^ k) := by
      have := Nat.div_add_mod s (2 ^ k)
      rw [Nat.mul_comm] at this
      rw [Nat.add_mul]
      omega
    rw [e]
    exact (mem_prod lt2).mpr ⟨by rw [hi_of lz]; exact z1, by rw [lo_of lz]; exact z2⟩
/-- how many pairs -/
theorem count_hl {B : Nat} (pB : 0 < B) (p1 p2 : Nat → Bool) : ∀ A : Nat, ((List.range (A * B)).filter fun M => p1 (M / B) && p2 (M % B)).length = ((List.range A).filter p1).length * ((List.range B).filter p2).length
  | 0 => by simp
  | A + 1 => by
    rw [Nat.add_mul, Nat.one_mul, List.range_add, List.filter_append, List.length_append, count_hl pB p1 p2 A, List.filter_map, List.length_map, List.range_succ, List.filter_append, List.length_append, Nat.add_mul]
    congr 1
    rw [List.filter_congr (q := fun b => p1 A && p2 b) fun b hb => by
      have lb := List.mem_range.mp hb
      show (p1 ((A * B + b) / B) && p2 ((A * B + b) % B)) = _
      rw [Nat.mul_comm A B, Nat.mul_add_div pB, Nat.div_eq_of_lt lb, Nat.add_zero, Nat.mul_add_mod, Nat.mod_eq_of_lt lb]]
    rw [List.filter_cons, List.filter_nil]
    cases p1 A with
    | true => simp
    | false => simp
theorem prod_cnt {b : Bool} {n1 n2 : Nat} {ns1 ns2 : List Nat} (sn : n1 + n2 ≤ 6) (N1 : Nums n1 ns1) (N2 : Nums n2 ns2) : cntB b (n1 + n2) (prodN n2 ns1 ns2) = cntB b n1 ns1 * cntB b n2 ns2 := by
  unfold cntB
  rw [← count_hl (Nat.pow_pos (by decide)), Nat.pow_add]
  congr 1
  refine List.filter_congr fun M hM => ?_
  have lM := List.mem_range.mp hM
  rw [← Nat.pow_add] at lM
  have M8 := lt_256 (n := n1 + n2) (by omega) lM
  have l1 : M / 2 ^ n2 < 256 := Nat.lt_of_le_of_lt (Nat.div_le_self _ _) M8
  have l2 : M % 2 ^ n2 < 256 := Nat.lt_of_le_of_lt (Nat.mod_le _ _) M8
  refine Bool.eq_iff_iff.mpr ?_
  rw [Bool.and_eq_true]
  cases b with
  | false => rw [lotB_free M8, lotB_free l1, lotB_free l2, free_prod N2.lt M8]
  | true => rw [lotB_strong (by omega) (prod_nums N1 N2 sn) M8, lotB_strong (by omega) N1 l1, lotB_strong (by omega) N2 l2, strong_prod (by omega) N2.lt M8]
/-- the greatest size of a free lot -/
def MxD (n : Nat) (ns : List Nat) (d : Nat) : Prop := (∃ M, M < 2 ^ n ∧ FreeP ns M ∧ pop M = d) ∧ ∀ M, M < 2 ^ n → FreeP ns M → pop M ≤ d
theorem pop_hl : ∀ k : Fin 7, ((List.range 64).all fun M => pop M == pop (M / 2 ^ k.val) + pop (M % 2 ^ k.val)) = true := by decide +kernel
theorem mxd_prod {n1 n2 d1 d2 d : Nat} {ns1 ns2 : List Nat} (sn : n1 + n2 ≤ 6) (N1 : Nums n1 ns1) (N2 : Nums n2 ns2) (h1 : MxD n1 ns1 d1) (h2 : MxD n2 ns2 d2) (h : MxD (n1 + n2) (prodN n2 ns1 ns2) d) : d = d1 + d2 := by
  have p6 : (2 : Nat) ^ (n1 + n2) ≤ 64 := Nat.pow_le_pow_right (n := 2) (by decide) sn
  have ph : ∀ M, M < 2 ^ (n1 + n2) → pop M = pop (M / 2 ^ n2) + pop (M % 2 ^ n2) := fun M hM => by
    have z := List.all_eq_true.mp (pop_hl ⟨n2, by omega⟩) M (List.mem_range.mpr (by omega))
    rwa [beq_iff_eq] at z
  have pp : 0 < 2 ^ n2 := Nat.pow_pos (by decide)
  obtain ⟨⟨M1, l1, f1, e1⟩, u1⟩ := h1
  obtain ⟨⟨M2, l2, f2, e2⟩, u2⟩ := h2
  obtain ⟨⟨M, l, f, e⟩, u⟩ := h
  refine Nat.le_antisymm ?_ ?_
  · have M8 := lt_256 (n := n1 + n2) (by omega) l
    obtain ⟨g1, g2⟩ := (free_prod N2.lt M8).mp f
    have a1 := u1 _ (by rw [Nat.pow_add] at l; exact Nat.div_lt_of_lt_mul (by rw [Nat.mul_comm]; exact l)) g1
    have a2 := u2 _ (Nat.mod_lt M pp) g2
    have := ph M l
    omega
  · have lm : M1 * 2 ^ n2 + M2 < 2 ^ (n1 + n2) := by
      rw [Nat.pow_add]
      have : (M1 + 1) * 2 ^ n2 ≤ 2 ^ n1 * 2 ^ n2 := Nat.mul_le_mul_right _ l1
      rw [Nat.add_mul, Nat.one_mul] at this
      omega
    have M8 := lt_256 (n := n1 + n2) (by omega) lm
    have z := u _ lm ((free_prod N2.lt M8).mpr ⟨by rw [hi_of l2]; exact f1, by rw [lo_of l2]; exact f2⟩)
    rw [ph _ lm, hi_of l2, lo_of l2] at z
    omega
/-- a lot in two halves -/
theorem halves_all : ∀ n1 : Fin 7, ∀ n2 : Fin 7, n1.val + n2.val ≤ 6 → ((lotsOf (n1.val + n2.val) (n1.val + n2.val)).all fun L =>
    let f := L.filter fun p => decide (p < n1.val)
    let g := (L.filter fun p => decide (n1.val ≤ p)).map fun p => p - n1.val
    (lotsOf n1.val n1.val).contains f && (lotsOf n2.val n2.val).contains g && mk n1.val f == mk (n1.val + n2.val) L / 2 ^ n2.val && mk n2.val g == mk (n1.val + n2.val) L % 2 ^ n2.val) = true := by decide +kernel
theorem halves {n1 n2 : Nat} {L : List Nat} (sn : n1 + n2 ≤ 6) (h : L ∈ lotsOf (n1 + n2) (n1 + n2)) : (L.filter fun p => decide (p < n1)) ∈ lotsOf n1 n1 ∧ ((L.filter fun p => decide (n1 ≤ p)).map fun p => p - n1) ∈ lotsOf n2 n2 ∧
    mk n1 (L.filter fun p => decide (p < n1)) = mk (n1 + n2) L / 2 ^ n2 ∧ mk n2 ((L.filter fun p => decide (n1 ≤ p)).map fun p => p - n1) = mk (n1 + n2) L % 2 ^ n2 := by
  have z := List.all_eq_true.mp (halves_all ⟨n1, by omega⟩ ⟨n2, by omega⟩ sn) L h
  simp only [Bool.and_eq_true, beq_iff_eq, List.contains_iff_mem] at z
  exact ⟨z.1.1.1, z.1.1.2, z.1.2, z.2⟩
theorem halves_is {b : Bool} {n1 n2 : Nat} {ns1 ns2 L : List Nat} (sn : n1 + n2 ≤ 6) (N1 : Nums n1 ns1) (N2 : Nums n2 ns2) (h : L ∈ lotsOf (n1 + n2) (n1 + n2)) (f : lotP b (prodN n2 ns1 ns2) (n1 + n2) L = true) :
    lotP b ns1 n1 (L.filter fun p => decide (p < n1)) = true ∧ lotP b ns2 n2 ((L.filter fun p => decide (n1 ≤ p)).map fun p => p - n1) = true := by
  obtain ⟨h1, h2, e1, e2⟩ := halves sn h
  have lM := (lot_mk (by omega) h).1
  have M8 := lt_256 (n := n1 + n2) (by omega) lM
  have l1 : mk (n1 + n2) L / 2 ^ n2 < 256 := Nat.lt_of_le_of_lt (Nat.div_le_self _ _) M8
  have l2 : mk (n1 + n2) L % 2 ^ n2 < 256 := Nat.lt_of_le_of_lt (Nat.mod_le _ _) M8
  rw [lotP_is (by omega) h] at f
  rw [lotP_is (by omega) h1, lotP_is (by omega) h2, e1, e2]
  cases b with
  | false => rw [lotB_free M8, free_prod N2.lt M8] at f; rw [lotB_free l1, lotB_free l2]; exact f
  | true => rw [lotB_strong (by omega) (prod_nums N1 N2 sn) M8, strong_prod (by omega) N2.lt M8] at f; rw [lotB_strong (by omega) N1 l1, lotB_strong (by omega) N2 l2]; exact f
end K15

set_option Elab.async false
set_option linter.all false
set_option maxRecDepth 100000
set_option maxHeartbeats 4000000
namespace K15
open PySem L2 Sx

/-! the greatest free lot -/
theorem last_mxd {n d : Nat} {ns : List Nat} (sn : n ≤ 8) (N : Nums n ns) {fs : List (List Nat)} {z : List Nat} (e : (lotsOf n n).filter (freeB ns n) = fs ++ [z]) (ed : d = z.length) : MxD n ns d ∧ d ≤ n ∧ ∀ L ∈ (lotsOf n n).filter (freeB ns n), L.length ≤ d := by
  have zf : z ∈ (lotsOf n n).filter (freeB ns n) := by rw [e]; simp
  obtain ⟨zl, zb⟩ := List.mem_filter.mp zf
  obtain ⟨pw, l8, lt⟩ := lots_mem sn zl
  have up : ∀ L ∈ (lotsOf n n).filter (freeB ns n), L.length ≤ d := fun L hL => by
    have s := List.Pairwise.filter (freeB ns n) (lot_sorted ⟨n, by omega⟩)
    rw [show (lotsOf ((⟨n, by omega⟩ : Fin 9)).val ((⟨n, by omega⟩ : Fin 9)).val) = lotsOf n n from rfl, e] at s
    rw [e] at hL
    rw [ed]
    rcases List.mem_append.mp hL with h | h
    · exact (List.pairwise_append.mp s).2.2 L h z (by simp)
    · rw [List.mem_singleton.mp h]
      exact Nat.le_refl _
  refine ⟨⟨⟨mk n z, (lot_mk sn zl).1, ?_, by rw [(lot_mk sn zl).2, ed]⟩, fun M hM f => ?_⟩, ?_, up⟩
  · have h := (lot_mk sn zl).2
    have zb' : lotP false ns n z = true := zb
    rw [lotP_is sn zl] at zb'
    exact (lotB_free (lt_256 sn (lot_mk sn zl).1)).mp zb'
  · have q1 := List.all_eq_true.mp (lot_all ⟨n, by omega⟩) M (List.mem_range.mpr hM)
    have q2 := List.all_eq_true.mp (lot_in ⟨n, by omega⟩) M (List.mem_range.mpr hM)
    rw [Bool.and_eq_true, beq_iff_eq, beq_iff_eq] at q1
    rw [List.contains_iff_mem] at q2
    have q3 : (lotOf n M).length = pop M := q1.2
    have := up (lotOf n M) (List.mem_filter.mpr ⟨q2, by
      show lotP false ns n _ = true
      rw [lotP_is sn q2, q1.1]
      exact (lotB_free (lt_256 sn hM)).mpr f⟩)
    omega
  · rw [ed]
    have w := L2.nat_nodup_len z (List.range n) (pw.imp fun h => Nat.ne_of_lt h) fun j hj => List.mem_range.mpr (lt j hj)
    rw [List.length_range] at w
    exact w
theorem free_last {n : Nat} {ns : List Nat} (sn : n ≤ 8) (ne : ns ≠ []) : ∃ fs z, (lotsOf n n).filter (freeB ns n) = fs ++ [z] := by
  have m : [] ∈ (lotsOf n n).filter (freeB ns n) := List.mem_filter.mpr ⟨List.contains_iff_mem.mp (lotsOf_nil ⟨n, by omega⟩), free_nil ne⟩
  have h : (lotsOf n n).filter (freeB ns n) ≠ [] := fun z => by rw [z] at m; cases m
  exact ⟨_, _, (List.dropLast_concat_getLast h).symm⟩
theorem upto_all : ∀ n : Fin 6, ∀ d : Fin 6, ((((lotsOf n.val n.val).filter fun L => decide (L.length ≤ d.val)).length : Nat) : Int) = upTo n.val d.val ∧ 1 ≤ upTo n.val d.val ∧ upTo n.val d.val < 33 := by decide +kernel
theorem lots_len5 : ∀ n : Fin 6, (lotsOf n.val n.val).length ≤ 64 := by decide +kernel
theorem free_upto {n d : Nat} {ns : List Nat} (sn : n ≤ 5) (sd : d ≤ 5) (u : ∀ L ∈ (lotsOf n n).filter (freeB ns n), L.length ≤ d) : ((((lotsOf n n).filter (freeB ns n)).length : Nat) : Int) ≤ upTo n d := by
  rw [← (upto_all ⟨n, by omega⟩ ⟨d, by omega⟩).1]
  have z : ((lotsOf n n).filter (freeB ns n)).length ≤ ((lotsOf n n).filter fun L => decide (L.length ≤ d)).length := by
    rw [← List.countP_eq_length_filter, ← List.countP_eq_length_filter]
    exact List.countP_mono_left fun L hL h => decide_eq_true (u L (List.mem_filter.mpr ⟨hL, h⟩))
  exact Int.ofNat_le.mpr z
end K15

set_option Elab.async false
set_option linter.all false
set_option maxRecDepth 100000
set_option maxHeartbeats 4000000
namespace K15
open PySem L2 Sx

/-! rows at the points of a lot, as keys -/
def pkN (n : Nat) (js : List Nat) (m : Nat) : List Nat := js.map fun j => m / 2 ^ (n - 1 - j) % 2
def dec (n : Nat) : List Nat → List Nat → Nat
  | j :: js, b :: bs => b * 2 ^ (n - 1 - j) + dec n js bs
  | _, _ => 0
theorem dec_all : ∀ n : Fin 6, ((lotsOf n.val n.val).all fun js => (List.range (2 ^ n.val)).all fun m => dec n.val js (pkN n.val js m) == (m &&& mk n.val js)) = true := by decide +kernel
theorem dec_is {n m : Nat} {js : List Nat} (sn : n ≤ 5) (h : js ∈ lotsOf n n) (hm : m < 2 ^ n) : dec n js (pkN n js m) = m &&& mk n js := by
  have z := List.all_eq_true.mp (List.all_eq_true.mp (dec_all ⟨n, by omega⟩) js h) m (List.mem_range.mpr hm)
  rwa [beq_iff_eq] at z
theorem pk_all : ∀ n : Fin 6, ((lotsOf n.val n.val).all fun js => (List.range (2 ^ n.val)).all fun m => pkN n.val js (m &&& mk n.val js) == pkN n.val js m) = true := by decide +kernel
theorem pk_is {n m : Nat} {js : List Nat} (sn : n ≤ 5) (h : js ∈ lotsOf n n) (hm : m < 2 ^ n) : pkN n js (m &&& mk n js) = pkN n js m := by
  have z := List.all_eq_true.mp (List.all_eq_true.mp (pk_all ⟨n, by omega⟩) js h) m (List.mem_range.mpr hm)
  rwa [beq_iff_eq] at z
def restOf (n : Nat) (js : List Nat) : List Nat := (List.range n).filter fun k => !js.contains k
theorem rest_all : ∀ n : Fin 6, ((lotsOf n.val n.val).all fun js => (lotsOf n.val n.val).contains (restOf n.val js) && (List.range (2 ^ n.val)).all fun m => (m &&& mk n.val (restOf n.val js)) + mk n.val js == (m ||| mk n.val js) && pkN n.val (restOf n.val js) (m ||| mk n.val js) == pkN n.val (restOf n.val js) m && decide ((m ||| mk n.val js) < 2 ^ n.val)) = true := by decide +kernel
theorem rest_is {n m : Nat} {js : List Nat} (sn : n ≤ 5) (h : js ∈ lotsOf n n) (hm : m < 2 ^ n) : restOf n js ∈ lotsOf n n ∧ (m &&& mk n (restOf n js)) + mk n js = (m ||| mk n js) ∧ pkN n (restOf n js) (m ||| mk n js) = pkN n (restOf n js) m ∧ (m ||| mk n js) < 2 ^ n := by
  have z := List.all_eq_true.mp (rest_all ⟨n, by omega⟩) js h
  rw [Bool.and_eq_true] at z
  have y := List.all_eq_true.mp z.2 m (List.mem_range.mpr hm)
  rw [Bool.and_eq_true, Bool.and_eq_true, beq_iff_eq, beq_iff_eq, decide_eq_true_eq] at y
  exact ⟨List.contains_iff_mem.mp z.1, y.1.1, y.1.2, y.2⟩
/-- the key of a row -/
def gk (n : Nat) (js : List Nat) (m : Nat) : List L2.Key := (pkN n js m).map fun b : Nat => Sum.inl (b : Int)
theorem gk_inj {n m m' : Nat} {js : List Nat} (e : gk n js m = gk n js m') : pkN n js m = pkN n js m' := by
  have key : ∀ {a b : List Nat}, (a.map fun b : Nat => (Sum.inl (b : Int) : L2.Key)) = b.map (fun b : Nat => Sum.inl (b : Int)) → a = b := by
    intro a
    induction a with
    | nil => intro b e; cases b with
      | nil => rfl
      | cons y b => cases e
    | cons x a ih =>
      intro b e
      cases b with
      | nil => cases e
      | cons y b =>
        rw [List.map_cons, List.map_cons, List.cons.injEq] at e
        have h := Sum.inl.inj e.1
        rw [ih e.2, show x = y by omega]
  exact key e
theorem gk_vals (n : Nat) (js : List Nat) (m : Nat) : (gk n js m).map kV = (pkN n js m).map nv := by
  unfold gk
  rw [List.map_map]
  rfl
theorem gk_free {n m m' : Nat} {js : List Nat} (sn : n ≤ 5) (h : js ∈ lotsOf n n) (hm : m < 2 ^ n) (hm' : m' < 2 ^ n) (e : gk n js (m &&& mk n js) = gk n js (m' &&& mk n js)) : m &&& mk n js = m' &&& mk n js := by
  have z := gk_inj e
  rw [pk_is sn h hm, pk_is sn h hm'] at z
  rw [← dec_is sn h hm, ← dec_is sn h hm', z]
theorem gk_strong {n m m' : Nat} {js : List Nat} (sn : n ≤ 5) (h : js ∈ lotsOf n n) (hm : m < 2 ^ n) (hm' : m' < 2 ^ n) (e : gk n (restOf n js) (m ||| mk n js) = gk n (restOf n js) (m' ||| mk n js)) : m ||| mk n js = m' ||| mk n js := by
  have z := gk_inj e
  obtain ⟨a1, a2, a3, _⟩ := rest_is sn h hm
  obtain ⟨_, b2, b3, _⟩ := rest_is sn h hm'
  rw [a3, b3] at z
  rw [← a2, ← b2, ← dec_is sn a1 hm, ← dec_is sn a1 hm', z]
section
variable {κ : Type} [DecidableEq κ] {g : Nat → κ}
def kvG (g : Nat → κ) (D : List Nat) : List (κ × V) := D.map fun x : Nat => (g x, V.bl true)
theorem put_consG {p : κ × V} {T : List (κ × V)} {k : κ} {v : V} (nk : ∀ q ∈ T, p.1 = k → q.1 ≠ k) : putK (p :: T) k v = if p.1 = k then (k, v) :: T else p :: putK T k v := by
  unfold putK
  by_cases e : p.1 = k
  · rw [if_pos e, if_pos (by simp [e]), List.map_cons, if_pos e, e]
    congr 1
    refine (List.map_congr_left fun q hq => ?_).trans (List.map_id T)
    rw [if_neg (nk q hq e)]
    rfl
  · rw [if_neg e, List.any_cons, decide_eq_false e, Bool.false_or]
    by_cases h : (T.any fun kv => decide (kv.1 = k)) = true
    · rw [if_pos h, if_pos h, List.map_cons, if_neg e]
    · rw [if_neg h, if_neg h]
      rfl
theorem put_G {x : Nat} : ∀ {D : List Nat}, D.Nodup → (∀ y ∈ x :: D, ∀ z ∈ x :: D, g y = g z → y = z) → putK (kvG g D) (g x) (.bl true) = kvG g (ins x D)
  | [], _, _ => rfl
  | d :: D, h, inj => by
    obtain ⟨h1, h2⟩ := List.nodup_cons.mp h
    unfold kvG
    rw [List.map_cons]
    rw [put_consG (fun q hq e => ?_)]
    · unfold ins
      by_cases e : d = x
      · subst e
        rw [if_pos rfl, if_pos rfl]
        rfl
      · rw [if_neg (fun z => e (inj d (by simp) x (by simp) z)), if_neg e, List.map_cons]
        congr 1
        exact put_G h2 fun y hy z hz => inj y (by rcases List.mem_cons.mp hy with r | r <;> simp [r]) z (by rcases List.mem_cons.mp hz with r | r <;> simp [r])
    · obtain ⟨y, hy, rfl⟩ := List.mem_map.mp hq
      intro e2
      have a := inj d (by simp) x (by simp) e
      have b := inj y (by simp [hy]) x (by simp) e2
      apply h1
      rw [a, ← b]
      exact hy
def kvCG (g : Nat → κ) (f : Nat → Nat) (T : List (Nat × Nat)) : List (κ × V) := T.map fun p => (g (f p.1), V.int (p.2 : Nat))
theorem get_CG {f : Nat → Nat} {x : Nat} : ∀ {T : List (Nat × Nat)}, (∀ p ∈ T, g (f p.1) = g (f x) → f p.1 = f x) → (valV (kvCG g f T) (g (f x))).getD (.int 0) = .int (cnt f x T : Nat)
  | [], _ => rfl
  | p :: T, inj => by
    unfold kvCG cnt
    rw [List.map_cons]
    by_cases e : f p.1 = f x
    · rw [if_pos e, valV_pos (by rw [e])]
      rfl
    · rw [if_neg e, valV_neg (fun z => e (inj p (by simp) z))]
      exact get_CG fun q hq => inj q (by simp [hq])
theorem put_CG {f : Nat → Nat} {x : Nat} : ∀ {T : List (Nat × Nat)}, Un f T → (∀ p ∈ T, g (f p.1) = g (f x) → f p.1 = f x) → putK (kvCG g f T) (g (f x)) (.int ((cnt f x T : Nat) + 1)) = kvCG g f (stp f x T)
  | [], _, _ => rfl
  | p :: T, h, inj => by
    obtain ⟨h1, h2⟩ := List.nodup_cons.mp (show (f p.1 :: T.map fun p => f p.1).Nodup from h)
    unfold kvCG
    rw [List.map_cons, put_consG (fun q hq e => ?_)]
    · unfold stp cnt
      by_cases e : f p.1 = f x
      · rw [if_pos (by rw [e]), if_pos e, if_pos e, List.map_cons, e]
        congr 1
      · rw [if_neg (fun z => e (inj p (by simp) z)), if_neg e, if_neg e, List.map_cons]
        congr 1
        exact put_CG h2 fun q hq => inj q (by simp [hq])
    · obtain ⟨y, hy, rfl⟩ := List.mem_map.mp hq
      intro e2
      have a := inj p (by simp) e
      have b := inj y (by simp [hy]) e2
      apply h1
      rw [a, ← b]
      exact List.mem_map.mpr ⟨y, hy, rfl⟩
end
theorem kvCG_vals {κ : Type} (g : Nat → κ) (f : Nat → Nat) (T : List (Nat × Nat)) : (kvCG g f T).map (·.2) = (((T.map (·.2)).map fun m : Nat => (m : Int))).map V.int := by
  unfold kvCG
  simp
theorem tally_mem {f : Nat → Nat} : ∀ {xs : List Nat} {p : Nat × Nat}, p ∈ tally f xs → p.1 ∈ xs := by
  have key : ∀ (xs : List Nat) (T : List (Nat × Nat)) (p : Nat × Nat), p ∈ xs.foldl (fun T x => stp f x T) T → p.1 ∈ xs ∨ ∃ q ∈ T, q.1 = p.1 := by
    intro xs
    induction xs with
    | nil => exact fun T p h => .inr ⟨p, h, rfl⟩
    | cons x xs ih =>
      intro T p h
      rcases ih _ p h with z | ⟨q, hq, e⟩
      · exact .inl (List.mem_cons_of_mem _ z)
      · rcases stp_mem hq with z | ⟨r, hr, e2⟩
        · exact .inl (by rw [← e, z]; exact List.mem_cons_self)
        · exact .inr ⟨r, hr, e2.trans e⟩
  intro xs p h
  rcases key xs [] p h with z | ⟨q, hq, _⟩
  · exact z
  · cases hq
end K15

set_option Elab.async false
set_option linter.all false
set_option maxRecDepth 100000
set_option maxHeartbeats 4000000
namespace K15
open PySem L2 Sx
local macro_rules | `(tactic| walk_at "cond") => `(tactic| first
  | assumption
  | decide
  | exact c_mul_r (by first | decide | omega) (by first | decide | omega)
  | exact c_mul_l (by first | decide | omega) (by first | decide | omega)
  | exact c_div (by first | decide | omega) (by first | decide | omega)
  | exact c_pow (by first | decide | omega) (by first | decide | omega) (by first | decide | omega)
  | omega)
local macro_rules | `(tactic| walk_at "ne") => `(tactic| first
  | assumption
  | (refine Ne.symm ?_; assumption)
  | (refine' Flow.ne ?nh ?nn; (case nn => assumption); (case nh => walk_at "fl"))
  | (refine Ne.symm ?_; refine' Flow.ne ?nh ?nn; (case nn => assumption); (case nh => walk_at "fl"))
  | (refine' ne_of_none ?nh ?nn; (case nn => assumption); (case nh => walk_at "at"))
  | (refine Ne.symm ?_; refine' ne_of_none ?nh ?nn; (case nn => assumption); (case nh => walk_at "at")))
local macro_rules | `(tactic| walk_at "at") => `(tactic| first
  | assumption
  | (refine Same.up (by assumption) ?_; walk_at "at")
  | (refine Keep.up (by assumption) (by walk_at "ne") ?_; walk_at "at"))
local macro_rules | `(tactic| walk_at "fl") => `(tactic| first
  | assumption
  | (refine Flow.same (by assumption) ?_; walk_at "fl")
  | (refine Flow.keep (by assumption) (by walk_at "ne") ?_; walk_at "fl"))
local macro_rules | `(tactic| walk_at "fr") => `(tactic| first
  | assumption
  | (refine same_free (by assumption) ?_; walk_at "fr")
  | (refine Keep.free (by assumption) (by walk_at "ne") ?_; walk_at "fr"))
local macro_rules | `(tactic| walk_at "kp") => `(tactic| first
  | assumption
  | exact Keep.refl _ _
  | (refine Keep.trans ?_ (by assumption); walk_at "kp")
  | (refine Keep.trans ?_ (Keep.same (by assumption)); walk_at "kp"))
local macro_rules | `(tactic| walk_at "sm") => `(tactic| first
  | assumption
  | exact L2.Same.refl _
  | (refine L2.Same.trans ?_ (by assumption); walk_at "sm"))
local macro_rules | `(tactic| walk_at "sz") => `(tactic| first | exact Nat.le_of_ble_eq_true rfl | omega)
local macro_rules | `(tactic| walk_at "new") => `(tactic| (intro p np; generalize hE : upd _ p _ = H2; have s2 := new_same np hE; have h2 := new_at hE; clear hE))
local macro_rules | `(tactic| walk_at "newx") => `(tactic| (intro e d na nd hda; generalize hE : upd (upd _ d _) e _ = H2; have s2 := newx_same na nd hE; have h2 := newx_at hE; have h3 := newx_d hda hE; clear hE))
local macro_rules | `(tactic| walk_at "s1") => `(tactic| first
  | with_reducible refine s_seq ?_
  | with_reducible refine s_asg ?_
  | with_reducible refine s_name ?_
  | with_reducible refine s_ret ?_
  | with_reducible refine s_c ?_
  | ((with_reducible refine' s_var ?hv ?_); (case hv => rfl))
  | with_reducible refine s_op ?_
  | with_reducible refine s_un ?_
  | with_reducible refine s_ifS ?_
  | with_reducible refine s_cb ?_
  | with_reducible refine s_cons ?_
  | with_reducible refine s_nil ?_
  | with_reducible refine s_call ?_
  | with_reducible refine s_test ?_
  | with_reducible refine s_tB ?_
  | with_reducible refine s_bl ?_
  | with_reducible refine s_and ?_
  | with_reducible refine s_or ?_
  | with_reducible refine s_not ?_
  | with_reducible refine s_andV ?_
  | with_reducible refine s_orV ?_
  | with_reducible refine s_notV ?_
  | with_reducible refine s_blV ?_
  | with_reducible refine s_if ?_
  | with_reducible refine s_tup ?_
  | with_reducible refine s_lst ?_
  | with_reducible refine s_drop ?_
  | with_reducible refine s_next ?_
  | with_reducible refine s_sub ?_
  | with_reducible refine s_bm ?_
  | with_reducible refine s_callK ?_
  | with_reducible refine s_brk ?_
  | with_reducible refine s_cont ?_
  | with_reducible refine r_I0 ?_
  | with_reducible refine r_U ?_
  | with_reducible refine r_eqI ?_
  | with_reducible refine r_neI ?_
  | with_reducible refine r_isB ?_
  | with_reducible refine r_notB ?_
  | with_reducible refine i_t ?_
  | with_reducible refine i_f ?_
  | with_reducible refine i_nt ?_
  | with_reducible refine i_nf ?_
  | ((with_reducible refine' r_I ?hc ?_); (case hc => walk_at "cond"))
  | (with_reducible refine .inl ⟨_, rfl, ?_⟩)
  | (with_reducible refine ⟨_, rfl, ?_⟩)
  | ((with_reducible refine' r_ixL ?hx ?ha ?_); (case hx => walk_at "at"); (case ha => rfl))
  | ((with_reducible refine' r_ixT ?hx ?ha ?_); (case hx => walk_at "at"); (case ha => rfl))
  | ((with_reducible refine' r_setL ?hx ?ha ?_); (case hx => walk_at "at"); (case ha => rfl); intro H2 k2 h2; (try dsimp only [List.set, Int.toNat] at h2))
  | ((with_reducible refine' r_app ?hx ?hl ?_); (case hx => walk_at "at"); (case hl => first | exact Nat.lt_of_ble_eq_true rfl | omega); intro H2 k2 h2)
  | ((with_reducible refine' ty_list ?hx ?_); (case hx => walk_at "at"))
  | (refine And.intro (by (with_reducible show _ ≤ sizeLine); walk_at "sz") ?_; walk_at "new")
  | with_reducible refine s_exv ?_
  | walk_at "newx")
local macro_rules | `(tactic| walk_at "sx") => `(tactic| repeat (walk_at "s1"))
local macro_rules | `(tactic| walk_at "s2") => `(tactic| first
  | ((with_reducible refine' r_ixG ?hx ?hn ?_); (case hx => walk_at "at"); (case hn => omega))
  | ((with_reducible refine' r_ixGT ?hx ?hn ?_); (case hx => walk_at "at"); (case hn => omega))
  | (with_reducible refine ig_cons (fun hix => ?_) (fun hix => ?_))
  | ((with_reducible refine ig_nil ?_); omega)
  | ((with_reducible refine' i_T ?hc ?_); (case hc => omega))
  | ((with_reducible refine' i_F ?hc ?_); (case hc => omega))
  | (with_reducible refine i_2 (fun hc => ?_) (fun hc => ?_))
  | (with_reducible refine i_n2 (fun hc => ?_) (fun hc => ?_)))
local macro_rules | `(tactic| walk_at "go") => `(tactic| repeat' (first | walk_at "s1" | walk_at "s2"))

local macro_rules | `(tactic| walk_at "s1") => `(tactic| first
  | with_reducible refine s_chain ?_
  | with_reducible refine s_fldS ?_
  | with_reducible refine s_fld ?_
  | with_reducible refine s_dIn ?_
  | with_reducible refine s_dNotIn ?_
  | with_reducible refine s_sl ?_
  | with_reducible refine s_noPart ?_
  | with_reducible refine s_part ?_
  | with_reducible refine s_meth ?_
  | with_reducible refine s_make ?_)

section
variable {P : Program} {w : World} {K : PySem.W.Frag} {mg : Str → Option Value} {base : Heap} {A : Ad}

def spIsI : Sp := fun vs H Q _ => ∃ v a b : Int, vs = [.int v, .int a, .int b] ∧ a ≤ v ∧ v < b ∧ Q (.bl true) H
theorem ok_isI (T : Txt P K mg A) : FnOk P w K mg base CX0 1 A.a__law_is_integer A.d__law_is_integer ["value", "least", "limit"] spIsI := by
  refine T.F__law_is_integer.ok sc__law_is_integer (fun vs H Q E h => ?_) (fun cdv A' outer s H vs Q E hr h => ?_)
  · obtain ⟨v, a, b, rfl, _⟩ := h
    rfl
  · obtain ⟨v, a, b, rfl, l, u, q⟩ := h
    refine ⟨_, (pss_one (ps_ret (pe_and (pe_callB (id := "isinstance") (r := rIsiV K) call_isiV (by rfl) T.n_isinstance (by decide +kernel) (pa_cons (pv 0) (pa_cons (pe_bltn (v := .ty "int") (u := .type "int") (by rfl) T.n_int (by decide +kernel) rfl) pa_nil))) (pe_and (pe_not (pe_callB (id := "isinstance") (r := rIsiV K) call_isiV (by rfl) T.n_isinstance (by decide +kernel) (pa_cons (pv 0) (pa_cons (pe_bltn (v := .ty "bool") (u := .type "bool") (by rfl) T.n_bool (by decide +kernel) rfl) pa_nil)))) (pe_one (pe_chain op_le op_lt (pv 1) (pv 0) (pv 2))))))), ?_⟩
    walk_at "sx"
    refine isi_in (b := true) (in_int v) ?_
    walk_at "sx"
    refine isi_in (b := false) (in_int_b v) ?_
    walk_at "sx"
    refine i_T l ?_
    walk_at "sx"
    rw [decide_eq_true u]
    exact q
theorem s_lvt {H : Hp} {Q : VK} {σ : L2.St} {td : TE} (h : td σ H fun x H1 => ∃ d kvs, x = .ref d ∧ H1 d = some (.dT kvs) ∧ ∀ p, H1 p = none → Q (.ref p) (upd H1 p (.lst (kvs.map (·.2))))) : Cm.tLVT td σ H Q := h
/-- is a lot -/
def spIsLot : Sp := fun vs H Q _ => ∃ (p : Addr) (n : Nat) (js : List Nat), vs = [.ref p, .int n] ∧ H p = some (.tup (js.map nv)) ∧ js.Pairwise (· < ·) ∧ (∀ j ∈ js, j < n) ∧ ∀ H', Same H H' → Q (.bl true) H'
theorem ok_isLot (T : Txt P K mg A) : FnOk P w K mg base CX0 2 A.a__law_is_lot A.d__law_is_lot ["value", "size"] spIsLot := by
  refine T.F__law_is_lot.ok sc__law_is_lot (fun vs H Q E h => ?_) (fun cdv A' outer s H vs Q E hr h => ?_)
  · obtain ⟨p, n, js, rfl, _⟩ := h
    rfl
  · obtain ⟨p, n, js, rfl, hp0, pw, lt, k⟩ := h
    have G__law_is_integer := ok_isI (w := w) (base := base) T
    have hp : True → H p = some (.tup (js.map nv)) := fun _ => hp0
    clear hp0
    refine ⟨_, (pss_cons (ps_if (pt_not (pt_val (pe_callB (id := "isinstance") (r := rIsiV K) call_isiV (by rfl) T.n_isinstance (by decide +kernel) (pa_cons (pv 0) (pa_cons (pe_bltn (v := .ty "tuple") (u := .type "tuple") (by rfl) T.n_tuple (by decide +kernel) rfl) pa_nil))))) (pss_one (ps_ret pe_bl)) pss_nil)
  (pss_cons (ps_set (i := 2) sc__law_is_lot.nd rfl (Or.inl rfl) pe_int)
  (pss_cons (ps_for PassesOwn.never rfl (pi_tup (pv 0)) (pg_name (i := 3) sc__law_is_lot.nd rfl (Or.inl rfl))
  (pss_cons (ps_if (pt_not (pt_val (pe_call G__law_is_integer (hr.mono (by decide)) rfl T.g__law_is_integer T.F__law_is_integer.kp (B__law_is_integer T) .nil pass0 (pa_cons (pv 3) (pa_cons (pv 2) (pa_cons (pv 1) pa_nil)))))) (pss_one (ps_ret pe_bl)) pss_nil)
  (pss_one (ps_set (i := 2) sc__law_is_lot.nd rfl (Or.inl rfl) (pe_op op_add (pv 3) pe_int)))))
  (pss_one (ps_ret pe_bl))))), ?_⟩
    walk_at "sx"
    refine isi_in (b := true) (in_tup (hp trivial)) ?_
    walk_at "sx"
    refine ⟨_, rfl, p, rfl, ⟨_, SqT.of (hp trivial)⟩, for_tup (K := K) (a := p) (xs := js.map nv) (fun i σ H' => H' = H ∧ ∃ (l : Nat) (v3 : Option V), (∀ j, js[i]? = some j → l ≤ j) ∧ σ = [some (.ref p), some (.int n), some (.int l), v3]) ⟨rfl, 0, none, fun j _ => Nat.zero_le _, rfl⟩ ?_ ?_ ?_⟩
    · rintro i σ H' _ ⟨rfl, _⟩
      exact SqT.of (hp trivial)
    · rintro i y σ H' hy ⟨rfl, l, v3, hl, rfl⟩
      obtain ⟨j, hj, rfl⟩ : ∃ j, js[i]? = some j ∧ nv j = y := by
        rw [List.getElem?_map] at hy
        exact Option.map_eq_some_iff.mp hy
      have lj := hl j hj
      have ljn := lt j (List.mem_of_getElem? hj)
      walk_at "sx"
      refine ⟨_, _, _, rfl, by omega, by omega, ?_⟩
      walk_at "sx"
      refine ⟨rfl, j + 1, _, fun j2 hj2 => ?_, rfl⟩
      have a1 := (List.getElem?_eq_some_iff.mp hj)
      have a2 := (List.getElem?_eq_some_iff.mp hj2)
      have z := List.pairwise_iff_getElem.mp pw i (i + 1) a1.1 a2.1 (by omega)
      rw [a1.2, a2.2] at z
      exact z
    · rintro σ H' ⟨rfl, l, v3, hl, rfl⟩
      walk_at "sx"
      exact k _ (L2.Same.refl _)
/-- the points of the row at the lot -/
theorem row_at {n m j : Nat} (h : j < n) : atI ((bitsOf n m).map V.int) (j : Int) = some (.int ((m / 2 ^ (n - 1 - j) % 2 : Nat) : Int)) := atI_nat (by rw [List.getElem?_map, bits_at n m j h]; rfl)
def spLFree : Sp := fun vs H Q _ => ∃ (l p : Addr) (n : Nat) (ns js : List Nat) (ks : List (Addr × List Int)), vs = [.ref l, .ref p] ∧ H l = some (.lst (ks.map rf)) ∧ RowsAt H n ks ∧ ks.map (·.2) = ns.map (bitsOf n) ∧ (∀ m ∈ ns, m < 2 ^ n) ∧ ns.length ≤ 64 ∧ n ≤ 5 ∧ H p = some (.tup (js.map nv)) ∧ js ∈ lotsOf n n ∧ ∀ H', Same H H' → Q (.bl (freeB ns n js)) H'
theorem ok_lfree (T : Txt P K mg A) : FnOk P w K mg base CX0 2 A.a__law_is_free A.d__law_is_free ["listed", "lot"] spLFree := by
  refine T.F__law_is_free.ok sc__law_is_free (fun vs H Q E h => ?_) (fun cdv A' outer s H vs Q E hr h => ?_)
  · obtain ⟨l, p, n, ns, js, ks, rfl, _⟩ := h
    rfl
  · obtain ⟨l, p, n, ns, js, ks, rfl, hl0, rows, ek, lt, few, sn, hp0, hj, k⟩ := h
    have G__law_full := ok_full (w := w) (base := base) T
    obtain ⟨pw, jl, jn⟩ := lots_mem (by omega) hj
    have hl : True → H l = some (.lst (ks.map rf)) := fun _ => hl0
    have hp : True → H p = some (.tup (js.map nv)) := fun _ => hp0
    clear hl0 hp0
    have lk : ks.length = ns.length := by simpa using congrArg List.length ek
    obtain ⟨M, eM⟩ : ∃ M, M = mk n js := ⟨_, rfl⟩
    refine ⟨_, (pss_cons (ps_set (i := 2) sc__law_is_free.nd rfl (Or.inl rfl) pe_dnewT)
  (pss_cons (ps_for PassesOwn.never rfl (pi_list (pv 0)) (pg_name (i := 3) sc__law_is_free.nd rfl (Or.inr rfl))
  (pss_one (ps_asg pe_bl (pg_sub (pv 2) (pe_callTy call_tuple_of (by rfl) T.n_tuple (by decide +kernel) (pa_cons (pe_lc (own := [("point", 4)]) (g := (gName 4)) (by rfl) sc__law_is_free.nd (pi_tup (pv 1)) (blkOk_by (own := [("point", 4)]) (N := ["listed", "lot", "seen", "row", "point"]) (sc := defScope s__law_is_free) (by decide +kernel)) (fun _ _ _ _ _ => (pg_name (i := 4) sc__law_is_free.nd rfl (Or.inl rfl))) (fun _ _ _ _ _ => pts_nil) (fun _ _ _ _ _ => (pe_ix (r := rIx K) ix_seq (pv 3) (pv 4) (fun _ _ => rfl)))) pa_nil)) (set_dict (Sx.u1 hr))))))
  (pss_one (ps_ret (pe_cmpR op_eq (pe_callB cr_lenDT (by rfl) T.n_len (by decide +kernel) (pa_cons (pv 2) pa_nil)) (pe_call G__law_full (hr.mono (by decide)) rfl T.g__law_full T.F__law_full.kp (B__law_full T) .nil pass0 (pa_cons (pe_callB call_len (by rfl) T.n_len (by decide +kernel) (pa_cons (pv 1) pa_nil)) pa_nil)) (nomark _)))))), ?_⟩
    walk_at "s1"
    walk_at "s1"
    intro pa npa
    generalize hE : upd H pa _ = H1
    have s1 := new_same npa hE
    have g1 : H1 pa = some (.dT (kvG (gk n js) (dd ((ns.take 0).map (· &&& M))))) := new_at hE
    clear hE
    have lp : l ≠ pa := ne_of_none (hl trivial) npa
    have pp : p ≠ pa := ne_of_none (hp trivial) npa
    walk_at "sx"
    refine ⟨_, rfl, l, rfl, ⟨_, SqL.of (s1 _ _ (hl trivial))⟩, for_list (K := K) (a := l) (xs := ks.map rf) (fun i σ H' => Keep pa H1 H' ∧ (True → H' pa = some (.dT (kvG (gk n js) (dd ((ns.take i).map (· &&& M)))))) ∧ ∃ v3 v4, σ = [some (.ref l), some (.ref p), some (.ref pa), v3, v4]) ?_ ?_ ?_ ?_⟩
    · exact ⟨Keep.refl _ _, fun _ => g1, _, _, rfl⟩
    · rintro i σ H' _ ⟨kp, _⟩
      exact SqL.of (kp _ _ lp (s1 _ _ (hl trivial)))
    · rintro i x σ H' hx ⟨kp, hpa, v3, v4, rfl⟩
      rw [List.getElem?_map] at hx
      obtain ⟨q, hq, rfl⟩ := Option.map_eq_some_iff.mp hx
      have hm := List.mem_of_getElem? hq
      obtain ⟨m, hm2, em⟩ : ∃ m, ns[i]? = some m ∧ bitsOf n m = q.2 := by
        have e := congrArg (fun l => l[i]?) ek
        simp only [List.getElem?_map, hq, Option.map_some] at e
        exact Option.map_eq_some_iff.mp e.symm
      have mm := lt m (List.mem_of_getElem? hm2)
      have li := (List.getElem?_eq_some_iff.mp hm2).1
      have qpa : q.1 ≠ pa := ne_of_none (rows q hm).1 npa
      have hq1 : True → H' q.1 = some (.tup ((bitsOf n m).map V.int)) := fun _ => by rw [em]; exact kp _ _ qpa (s1 _ _ (rows q hm).1)
      have hp1 : True → H' p = some (.tup (js.map nv)) := fun _ => kp _ _ pp (s1 _ _ (hp trivial))
      walk_at "sx"
      refine ⟨_, rfl, p, rfl, ⟨_, SqT.of (hp1 trivial)⟩, fun D hD => lc_tup (K := K) (a := p) (xs := js.map nv) (fun j H2 => Same H' H2 ∧ H2 D = some (.lst ((pkN n (js.take j) m).map nv))) ⟨Same.new hD, upd_same⟩ (fun j H2 _ h => SqT.of (h.1 _ _ (hp1 trivial))) ?_ ?_⟩
      · rintro j y H2 hy ⟨s', hD'⟩
        obtain ⟨jj, hjj, rfl⟩ : ∃ z, js[j]? = some z ∧ nv z = y := by
          rw [List.getElem?_map] at hy
          exact Option.map_eq_some_iff.mp hy
        have jm := jn jj (List.mem_of_getElem? hjj)
        refine s_name ⟨rfl, ?_⟩
        refine s_yes (i_t ?_)
        refine s_op (s_var rfl (s_var rfl (r_ixT (s' _ _ (hq1 trivial)) (row_at jm) ?_)))
        refine ⟨_, hD', ?_, Sx.Same.put s' hD, ?_⟩
        · rw [List.length_map]
          unfold pkN
          rw [List.length_map, List.length_take, sizeLine_eq]
          omega
        · rw [upd_same, List.take_succ, hjj]
          unfold pkN
          simp
      · rintro H2 ⟨s', hD'⟩
        rw [List.length_map, List.take_length] at hD'
        refine ⟨D, _, rfl, .inl ⟨SqL.of hD', fun t nt => ?_⟩⟩
        generalize hE : upd H2 t _ = H3
        have s3 := new_same nt hE
        have h3 := new_at hE
        clear hE
        have s13 := s'.trans s3
        have hpa3 := s13 _ _ (hpa trivial)
        have ld := dd_len (ns.map (· &&& M)) i
        rw [← List.map_take] at ld
        refine ⟨pa, _, rfl, DPut.t (k := gk n js m) hpa3 (by rw [gk_vals]; exact h3) (by unfold kvG; rw [List.length_map, sizeLine_eq]; omega), ?_⟩
        have mem : ∀ y ∈ (m &&& M) :: dd ((ns.take i).map (· &&& M)), ∃ m' < 2 ^ n, y = m' &&& M := fun y hy => by
          rcases List.mem_cons.mp hy with r | r
          · exact ⟨m, mm, r⟩
          · obtain ⟨m', hm', rfl⟩ := List.mem_map.mp (mem_dd.mp r)
            exact ⟨m', lt m' (List.mem_of_mem_take hm'), rfl⟩
        have e1 : gk n js m = gk n js (m &&& M) := by
          unfold gk
          rw [eM, pk_is sn hj mm]
        refine ⟨kp.trans ((Keep.same s13).trans (put_keep rfl)), fun _ => ?_, _, _, rfl⟩
        rw [upd_same, e1, put_G (dd_nd _) (fun y hy z hz e => ?_), ← dd_snoc, List.take_succ, hm2]
        · simp
        · obtain ⟨a, la, rfl⟩ := mem y hy
          obtain ⟨b, lb, rfl⟩ := mem z hz
          rw [eM] at e ⊢
          exact gk_free sn hj la lb e
    · rintro σ H' ⟨kp, hpa, v3, v4, rfl⟩
      rw [List.length_map, lk, List.take_length] at hpa
      have s' : Same H H' := Keep.toSame s1 npa kp
      walk_at "sx"
      refine ⟨pa, _, rfl, hpa trivial, ?_⟩
      walk_at "sx"
      refine ⟨_, _, rfl, .inr ⟨_, SqT.of (s' _ _ (hp trivial)), rfl⟩, ?_⟩
      rw [List.length_map]
      walk_at "sx"
      have jl5 : js.length ≤ 5 := by
        have z := L2.nat_nodup_len js (List.range n) (pw.imp fun h => Nat.ne_of_lt h) fun j hj => List.mem_range.mpr (jn j hj)
        rw [List.length_range] at z
        omega
      refine ⟨_, rfl, jl5, fun H2 s2 => ?_⟩
      walk_at "sx"
      have e : decide (((kvG (gk n js) (dd (ns.map (· &&& M)))).length : Int) = ((2 ^ js.length : Nat) : Int)) = freeB ns n js := by
        unfold freeB kvG
        rw [List.length_map, dec_n, eM]
      rw [e]
      exact k _ (s'.trans s2)

def spLStr : Sp := fun vs H Q _ => ∃ (l p : Addr) (n : Nat) (ns js : List Nat) (ks : List (Addr × List Int)), vs = [.int n, .ref l, .ref p] ∧ H l = some (.lst (ks.map rf)) ∧ RowsAt H n ks ∧ ks.map (·.2) = ns.map (bitsOf n) ∧ (∀ m ∈ ns, m < 2 ^ n) ∧ ns ≠ [] ∧ ns.length ≤ 64 ∧ n ≤ 5 ∧ H p = some (.tup (js.map nv)) ∧ js ∈ lotsOf n n ∧ ∀ H', Same H H' → Q (.bl (strongB ns n js)) H'
theorem in_nv (j : Nat) : ∀ js : List Nat, inV (.int (j : Int)) (js.map nv) = js.contains j
  | [] => rfl
  | x :: js => by
    have ih := in_nv j js
    unfold inV at ih ⊢
    rw [List.map_cons, List.any_cons, ih, List.contains_cons]
    congr 1
    show ((x : Int) == (j : Int)) = (j == x)
    by_cases h : x = j
    · subst h
      simp
    · rw [beq_eq_false_iff_ne.mpr (fun z => h (by omega)), beq_eq_false_iff_ne.mpr (fun z => h z.symm)]
theorem flat_nv (js : List Nat) : (js.map nv).all flatV = true := by
  rw [List.all_eq_true]
  intro x hx
  obtain ⟨j, _, rfl⟩ := List.mem_map.mp hx
  rfl
theorem ok_lstr (T : Txt P K mg A) : FnOk P w K mg base CX0 2 A.a__law_is_strong A.d__law_is_strong ["size", "listed", "lot"] spLStr := by
  refine T.F__law_is_strong.ok sc__law_is_strong (fun vs H Q E h => ?_) (fun cdv A' outer s H vs Q E hr h => ?_)
  · obtain ⟨l, p, n, ns, js, ks, rfl, _⟩ := h
    rfl
  · obtain ⟨l, p, n, ns, js, ks, rfl, hl0, rows, ek, lt, ne, few, sn, hp0, hj, k⟩ := h
    have G__law_full := ok_full (w := w) (base := base) T
    obtain ⟨pw, jl, jn⟩ := lots_mem (by omega) hj
    have hl : True → H l = some (.lst (ks.map rf)) := fun _ => hl0
    have hp : True → H p = some (.tup (js.map nv)) := fun _ => hp0
    clear hl0 hp0
    have lk : ks.length = ns.length := by simpa using congrArg List.length ek
    obtain ⟨M, eM⟩ : ∃ M, M = mk n js := ⟨_, rfl⟩
    obtain ⟨rs, ers⟩ : ∃ rs, rs = restOf n js := ⟨_, rfl⟩
    have rlen : rs.length ≤ n := by
      rw [ers]
      have := List.length_filter_le (fun k => !js.contains k) (List.range n)
      rw [List.length_range] at this
      exact this
    have rlt : ∀ j ∈ rs, j < n := fun j h => by
      rw [ers] at h
      exact List.mem_range.mp (List.mem_filter.mp h).1
    refine ⟨_, (pss_cons (ps_setLc (i := 3) (own := [("point", 7)]) (g := (gName 7)) (by rfl) sc__law_is_strong.nd rfl rfl (sw_true rfl rfl rfl (by decide +kernel)) (pi_range1 rfl T.n_range (pa_cons (pv 0) pa_nil)) (blkOk_by (own := [("point", 7)]) (N := ["size", "listed", "lot", "rest", "found", "row", "there", "point"]) (sc := defScope s__law_is_strong) (by decide +kernel)) (fun _ _ _ _ _ => (pg_name (i := 7) sc__law_is_strong.nd rfl (Or.inl rfl))) (fun _ _ _ _ _ => pts_one (pt_cmpR (r := rIn K true) op_notIn_seq (pv 7) (pv 2) rfl)) (fun _ _ _ _ _ => (pv 7)))
  (pss_cons (ps_set (i := 4) sc__law_is_strong.nd rfl (Or.inl rfl) pe_dnewT)
  (pss_cons (ps_for PassesOwn.never rfl (pi_list (pv 1)) (pg_name (i := 5) sc__law_is_strong.nd rfl (Or.inr rfl))
  (pss_cons (ps_set (i := 6) sc__law_is_strong.nd rfl (Or.inl rfl) (pe_callTy call_tuple_of (by rfl) T.n_tuple (by decide +kernel) (pa_cons (pe_lc (own := [("point", 7)]) (g := (gName 7)) (by rfl) sc__law_is_strong.nd (pi_list (pv 3)) (blkOk_by (own := [("point", 7)]) (N := ["size", "listed", "lot", "rest", "found", "row", "there", "point"]) (sc := defScope s__law_is_strong) (by decide +kernel)) (fun _ _ _ _ _ => (pg_name (i := 7) sc__law_is_strong.nd rfl (Or.inl rfl))) (fun _ _ _ _ _ => pts_nil) (fun _ _ _ _ _ => (pe_ix (r := rIx K) ix_seq (pv 5) (pv 7) (fun _ _ => rfl)))) pa_nil)))
  (pss_one (ps_asg (pe_op op_add (pe_dget2 (Sx.u1 hr) (pv 4) (pv 6) pe_int ⟨by rfl, by rfl, by rfl, by rfl⟩) pe_int) (pg_sub (pv 4) (pv 6) (set_dict (Sx.u1 hr)))))))
  (pss_one (ps_ret (pe_cmpR op_eq (pe_callB (cr_max rfl) (by rfl) T.n_max (by decide +kernel) (pa_cons (Cm.pe_listValsT rfl (by rfl) T.n_list (pv 4)) pa_nil)) (pe_call G__law_full (hr.mono (by decide)) rfl T.g__law_full T.F__law_full.kp (B__law_full T) .nil pass0 (pa_cons (pe_callB call_len (by rfl) T.n_len (by decide +kernel) (pa_cons (pv 2) pa_nil)) pa_nil)) (nomark _))))))), ?_⟩
    walk_at "sx"
    refine ⟨_, rfl, _, rfl, by omega, by omega, fun D0 hD0 => lc_range (lo := 0) (n := n) (fun i H' => Same H H' ∧ H' D0 = some (.lst (((List.range i).filter fun k => !js.contains k).map nv))) ⟨Same.new hD0, upd_same⟩ ?_ ?_⟩
    · rintro i H' hi ⟨s', hD'⟩
      refine s_name ⟨rfl, ?_⟩
      walk_at "sx"
      rw [Int.zero_add]
      refine ⟨p, _, rfl, .inr (SqT.of (s' _ _ (hp trivial))), rfl, flat_nv js, ?_⟩
      rw [in_nv]
      refine ⟨_, rfl, ?_⟩
      refine i_b2 (fun hb => ?_) (fun hb => ?_)
      · have hb' : (!js.contains i) = true := hb
        refine s_var rfl ?_
        refine ⟨_, hD', ?_, Sx.Same.put s' hD0, ?_⟩
        · rw [List.length_map, sizeLine_eq]
          have := List.length_filter_le (fun k => !js.contains k) (List.range i)
          rw [List.length_range] at this
          omega
        · rw [upd_same, List.range_succ, List.filter_append, List.filter_cons, if_pos hb', List.map_append]
          rfl
      · have hb' : (!js.contains i) = false := hb
        refine ⟨s', ?_⟩
        rw [hD', List.range_succ, List.filter_append, List.filter_cons, if_neg (by rw [hb']; simp), List.filter_nil, List.append_nil]
    rintro H0 ⟨s0, hD00⟩
    rw [show ((List.range n).filter fun k => !js.contains k) = rs from ers.symm] at hD00
    have hD0' : True → H0 D0 = some (.lst (rs.map nv)) := fun _ => hD00
    clear hD00
    walk_at "s1"
    walk_at "s1"
    intro pa npa
    generalize hE : upd H0 pa _ = H1
    have s1' := new_same npa hE
    have g1 : H1 pa = some (.dT (kvCG (gk n rs) (· ||| M) (tally (· ||| M) (ns.take 0)))) := new_at hE
    clear hE
    have s1 := s0.trans s1'
    have lp : l ≠ pa := ne_of_none (s0 _ _ (hl trivial)) npa
    have pp : p ≠ pa := ne_of_none (s0 _ _ (hp trivial)) npa
    have dp : D0 ≠ pa := ne_of_none (hD0' trivial) npa
    walk_at "sx"
    refine ⟨_, rfl, l, rfl, ⟨_, SqL.of (s1 _ _ (hl trivial))⟩, for_list (K := K) (a := l) (xs := ks.map rf) (fun i σ H' => Keep pa H1 H' ∧ (True → H' pa = some (.dT (kvCG (gk n rs) (· ||| M) (tally (· ||| M) (ns.take i))))) ∧ ∃ v5 v6 v7, σ = [some (.int n), some (.ref l), some (.ref p), some (.ref D0), some (.ref pa), v5, v6, v7]) ?_ ?_ ?_ ?_⟩
    · exact ⟨Keep.refl _ _, fun _ => g1, _, _, _, rfl⟩
    · rintro i σ H' _ ⟨kp, _⟩
      exact SqL.of (kp _ _ lp (s1 _ _ (hl trivial)))
    · rintro i x σ H' hx ⟨kp, hpa, v5, v6, v7, rfl⟩
      rw [List.getElem?_map] at hx
      obtain ⟨q, hq, rfl⟩ := Option.map_eq_some_iff.mp hx
      have hm := List.mem_of_getElem? hq
      obtain ⟨m, hm2, em⟩ : ∃ m, ns[i]? = some m ∧ bitsOf n m = q.2 := by
        have e := congrArg (fun l => l[i]?) ek
        simp only [List.getElem?_map, hq, Option.map_some] at e
        exact Option.map_eq_some_iff.mp e.symm
      have mm := lt m (List.mem_of_getElem? hm2)
      have li := (List.getElem?_eq_some_iff.mp hm2).1
      have qpa : q.1 ≠ pa := ne_of_none (s0 _ _ (rows q hm).1) npa
      have hq1 : True → H' q.1 = some (.tup ((bitsOf n m).map V.int)) := fun _ => by rw [em]; exact kp _ _ qpa (s1 _ _ (rows q hm).1)
      have hp1 : True → H' D0 = some (.lst (rs.map nv)) := fun _ => kp _ _ dp (s1' _ _ (hD0' trivial))
      walk_at "sx"
      refine ⟨_, rfl, D0, rfl, ⟨_, SqL.of (hp1 trivial)⟩, fun D hD => lc_list (K := K) (a := D0) (xs := rs.map nv) (fun j H2 => Same H' H2 ∧ H2 D = some (.lst ((pkN n (rs.take j) m).map nv))) ⟨Same.new hD, upd_same⟩ (fun j H2 _ h => SqL.of (h.1 _ _ (hp1 trivial))) ?_ ?_⟩
      · rintro j y H2 hy ⟨s', hD'⟩
        obtain ⟨jj, hjj, rfl⟩ : ∃ z, rs[j]? = some z ∧ nv z = y := by
          rw [List.getElem?_map] at hy
          exact Option.map_eq_some_iff.mp hy
        have jm := rlt jj (List.mem_of_getElem? hjj)
        refine s_name ⟨rfl, ?_⟩
        refine s_yes (i_t ?_)
        refine s_op (s_var rfl (s_var rfl (r_ixT (s' _ _ (hq1 trivial)) (row_at jm) ?_)))
        refine ⟨_, hD', ?_, Sx.Same.put s' hD, ?_⟩
        · rw [List.length_map]
          unfold pkN
          rw [List.length_map, List.length_take, sizeLine_eq]
          omega
        · rw [upd_same, List.take_succ, hjj]
          unfold pkN
          simp
      · rintro H2 ⟨s', hD'⟩
        rw [List.length_map, List.take_length] at hD'
        refine ⟨D, _, rfl, .inl ⟨SqL.of hD', fun t nt => ?_⟩⟩
        generalize hE : upd H2 t _ = H3
        have s3 := new_same nt hE
        have h3 : True → H3 t = some (.tup ((gk n rs m).map kV)) := fun _ => by rw [gk_vals]; exact new_at hE
        clear hE
        have s13 := s'.trans s3
        have hpa3 : True → _ := fun _ => s13 _ _ (hpa trivial)
        have ld := tally_len (· ||| M) ns i
        have e1 : gk n rs m = gk n rs (m ||| M) := by
          unfold gk
          rw [eM, ers, (rest_is sn hj mm).2.2.1]
        rw [e1] at h3
        have inj : ∀ p ∈ tally (· ||| M) (ns.take i), gk n rs (p.1 ||| M) = gk n rs (m ||| M) → p.1 ||| M = m ||| M := fun p hp e => by
          rw [eM, ers] at e
          rw [eM]
          exact gk_strong sn hj (lt _ (List.mem_of_mem_take (tally_mem hp))) mm e
        walk_at "s1"
        walk_at "s1"
        refine s_op ?_
        refine s_dget2 (s_var rfl ⟨pa, rfl, .inr ⟨_, .inl (hpa3 trivial)⟩, s_var rfl (s_c ⟨_, DGet.t (k := gk n rs (m ||| M)) (hpa3 trivial) (h3 trivial), ?_⟩)⟩)
        rw [get_CG (g := gk n rs) (f := (· ||| M)) (x := m) inj]
        walk_at "sx"
        refine ⟨pa, _, rfl, DPut.t (k := gk n rs (m ||| M)) (hpa3 trivial) (h3 trivial) (by unfold kvCG; rw [List.length_map, sizeLine_eq]; omega), ?_⟩
        refine ⟨kp.trans ((Keep.same s13).trans (put_keep rfl)), fun _ => ?_, _, _, _, rfl⟩
        rw [upd_same, put_CG (g := gk n rs) (f := (· ||| M)) (x := m) (un_tally _ _) inj, ← tally_snoc, List.take_succ, hm2]
        rfl
    · rintro σ H' ⟨kp, hpa, v5, v6, v7, rfl⟩
      rw [List.length_map, lk, List.take_length] at hpa
      have s' : Same H H' := s0.trans (Keep.toSame s1' npa kp)
      walk_at "sx"
      refine s_lvt (s_var rfl ⟨pa, _, rfl, hpa trivial, fun q np => ?_⟩)
      have s2 : Same H' (upd H' q (.lst ((kvCG (gk n rs) (· ||| M) (tally (· ||| M) ns)).map (·.2)))) := Same.new np
      have g2 : (upd H' q (.lst ((kvCG (gk n rs) (· ||| M) (tally (· ||| M) ns)).map (·.2)))) q = some (.lst (((((tally (· ||| M) ns).map (·.2)).map fun m : Nat => (m : Int))).map V.int)) := by rw [upd_same, kvCG_vals]
      have tn : tally (· ||| M) ns ≠ [] := tally_ne ne
      refine ⟨q, _, rfl, SqL.of g2, by rw [List.length_map, List.length_map]; exact List.length_pos_iff.mpr tn, fun mm hm hmx => ?_⟩
      obtain ⟨c, hc, rfl⟩ := List.mem_map.mp hm
      have ec := mxl_is hc fun y hy => by
        have := hmx (y : Int) (List.mem_map.mpr ⟨y, hy, rfl⟩)
        omega
      walk_at "sx"
      refine ⟨_, _, rfl, .inr ⟨_, SqT.of (s2 _ _ (s' _ _ (hp trivial))), rfl⟩, ?_⟩
      rw [List.length_map]
      walk_at "sx"
      have jl5 : js.length ≤ 5 := by
        have z := L2.nat_nodup_len js (List.range n) (pw.imp fun h => Nat.ne_of_lt h) fun j hj => List.mem_range.mpr (jn j hj)
        rw [List.length_range] at z
        omega
      refine ⟨_, rfl, jl5, fun H3 s3 => ?_⟩
      walk_at "sx"
      have e : decide ((c : Int) = ((2 ^ js.length : Nat) : Int)) = strongB ns n js := by
        unfold strongB
        rw [dec_n, ← ec, eM]
      rw [e]
      exact k _ (s'.trans (s2.trans s3))
end
end K15

set_option Elab.async false
set_option linter.all false
set_option maxRecDepth 100000
set_option maxHeartbeats 4000000
namespace K15
open PySem L2 Sx
local macro_rules | `(tactic| walk_at "cond") => `(tactic| first
  | assumption
  | decide
  | exact c_mul_r (by first | decide | omega) (by first | decide | omega)
  | exact c_mul_l (by first | decide | omega) (by first | decide | omega)
  | exact c_div (by first | decide | omega) (by first | decide | omega)
  | exact c_pow (by first | decide | omega) (by first | decide | omega) (by first | decide | omega)
  | omega)
local macro_rules | `(tactic| walk_at "ne") => `(tactic| first
  | assumption
  | (refine Ne.symm ?_; assumption)
  | (refine' Flow.ne ?nh ?nn; (case nn => assumption); (case nh => walk_at "fl"))
  | (refine Ne.symm ?_; refine' Flow.ne ?nh ?nn; (case nn => assumption); (case nh => walk_at "fl"))
  | (refine' ne_of_none ?nh ?nn; (case nn => assumption); (case nh => walk_at "at"))
  | (refine Ne.symm ?_; refine' ne_of_none ?nh ?nn; (case nn => assumption); (case nh => walk_at "at")))
local macro_rules | `(tactic| walk_at "at") => `(tactic| first
  | assumption
  | (refine Same.up (by assumption) ?_; walk_at "at")
  | (refine Keep.up (by assumption) (by walk_at "ne") ?_; walk_at "at"))
local macro_rules | `(tactic| walk_at "fl") => `(tactic| first
  | assumption
  | (refine Flow.same (by assumption) ?_; walk_at "fl")
  | (refine Flow.keep (by assumption) (by walk_at "ne") ?_; walk_at "fl"))
local macro_rules | `(tactic| walk_at "fr") => `(tactic| first
  | assumption
  | (refine same_free (by assumption) ?_; walk_at "fr")
  | (refine Keep.free (by assumption) (by walk_at "ne") ?_; walk_at "fr"))
local macro_rules | `(tactic| walk_at "kp") => `(tactic| first
  | assumption
  | exact Keep.refl _ _
  | (refine Keep.trans ?_ (by assumption); walk_at "kp")
  | (refine Keep.trans ?_ (Keep.same (by assumption)); walk_at "kp"))
local macro_rules | `(tactic| walk_at "sm") => `(tactic| first
  | assumption
  | exact L2.Same.refl _
  | (refine L2.Same.trans ?_ (by assumption); walk_at "sm"))
local macro_rules | `(tactic| walk_at "sz") => `(tactic| first | exact Nat.le_of_ble_eq_true rfl | omega)
local macro_rules | `(tactic| walk_at "new") => `(tactic| (intro p np; generalize hE : upd _ p _ = H2; have s2 := new_same np hE; have h2 := new_at hE; clear hE))
local macro_rules | `(tactic| walk_at "newx") => `(tactic| (intro e d na nd hda; generalize hE : upd (upd _ d _) e _ = H2; have s2 := newx_same na nd hE; have h2 := newx_at hE; have h3 := newx_d hda hE; clear hE))
local macro_rules | `(tactic| walk_at "s1") => `(tactic| first
  | with_reducible refine s_seq ?_
  | with_reducible refine s_asg ?_
  | with_reducible refine s_name ?_
  | with_reducible refine s_ret ?_
  | with_reducible refine s_c ?_
  | ((with_reducible refine' s_var ?hv ?_); (case hv => rfl))
  | with_reducible refine s_op ?_
  | with_reducible refine s_un ?_
  | with_reducible refine s_ifS ?_
  | with_reducible refine s_cb ?_
  | with_reducible refine s_cons ?_
  | with_reducible refine s_nil ?_
  | with_reducible refine s_call ?_
  | with_reducible refine s_test ?_
  | with_reducible refine s_tB ?_
  | with_reducible refine s_bl ?_
  | with_reducible refine s_and ?_
  | with_reducible refine s_or ?_
  | with_reducible refine s_not ?_
  | with_reducible refine s_andV ?_
  | with_reducible refine s_orV ?_
  | with_reducible refine s_notV ?_
  | with_reducible refine s_blV ?_
  | with_reducible refine s_if ?_
  | with_reducible refine s_tup ?_
  | with_reducible refine s_lst ?_
  | with_reducible refine s_drop ?_
  | with_reducible refine s_next ?_
  | with_reducible refine s_sub ?_
  | with_reducible refine s_bm ?_
  | with_reducible refine s_callK ?_
  | with_reducible refine s_brk ?_
  | with_reducible refine s_cont ?_
  | with_reducible refine r_I0 ?_
  | with_reducible refine r_U ?_
  | with_reducible refine r_eqI ?_
  | with_reducible refine r_neI ?_
  | with_reducible refine r_isB ?_
  | with_reducible refine r_notB ?_
  | with_reducible refine i_t ?_
  | with_reducible refine i_f ?_
  | with_reducible refine i_nt ?_
  | with_reducible refine i_nf ?_
  | ((with_reducible refine' r_I ?hc ?_); (case hc => walk_at "cond"))
  | (with_reducible refine .inl ⟨_, rfl, ?_⟩)
  | (with_reducible refine ⟨_, rfl, ?_⟩)
  | ((with_reducible refine' r_ixL ?hx ?ha ?_); (case hx => walk_at "at"); (case ha => rfl))
  | ((with_reducible refine' r_ixT ?hx ?ha ?_); (case hx => walk_at "at"); (case ha => rfl))
  | ((with_reducible refine' r_setL ?hx ?ha ?_); (case hx => walk_at "at"); (case ha => rfl); intro H2 k2 h2; (try dsimp only [List.set, Int.toNat] at h2))
  | ((with_reducible refine' r_app ?hx ?hl ?_); (case hx => walk_at "at"); (case hl => first | exact Nat.lt_of_ble_eq_true rfl | omega); intro H2 k2 h2)
  | ((with_reducible refine' ty_list ?hx ?_); (case hx => walk_at "at"))
  | (refine And.intro (by (with_reducible show _ ≤ sizeLine); walk_at "sz") ?_; walk_at "new")
  | with_reducible refine s_exv ?_
  | walk_at "newx")
local macro_rules | `(tactic| walk_at "sx") => `(tactic| repeat (walk_at "s1"))
local macro_rules | `(tactic| walk_at "s2") => `(tactic| first
  | ((with_reducible refine' r_ixG ?hx ?hn ?_); (case hx => walk_at "at"); (case hn => omega))
  | ((with_reducible refine' r_ixGT ?hx ?hn ?_); (case hx => walk_at "at"); (case hn => omega))
  | (with_reducible refine ig_cons (fun hix => ?_) (fun hix => ?_))
  | ((with_reducible refine ig_nil ?_); omega)
  | ((with_reducible refine' i_T ?hc ?_); (case hc => omega))
  | ((with_reducible refine' i_F ?hc ?_); (case hc => omega))
  | (with_reducible refine i_2 (fun hc => ?_) (fun hc => ?_))
  | (with_reducible refine i_n2 (fun hc => ?_) (fun hc => ?_)))
local macro_rules | `(tactic| walk_at "go") => `(tactic| repeat' (first | walk_at "s1" | walk_at "s2"))

local macro_rules | `(tactic| walk_at "s1") => `(tactic| first
  | with_reducible refine s_chain ?_
  | with_reducible refine s_fldS ?_
  | with_reducible refine s_fld ?_
  | with_reducible refine s_dIn ?_
  | with_reducible refine s_dNotIn ?_
  | with_reducible refine s_sl ?_
  | with_reducible refine s_noPart ?_
  | with_reducible refine s_part ?_
  | with_reducible refine s_meth ?_
  | with_reducible refine s_make ?_)

section
variable {P : Program} {w : World} {K : PySem.W.Frag} {mg : Str → Option Value} {base : Heap} {A : Ad}

/-- a list of rows as the law has it -/
structure Lst (H : Hp) (l : Addr) (n : Nat) (ns : List Nat) : Prop where
  at_ : ∃ ks : List (Addr × List Int), H l = some (.lst (ks.map rf)) ∧ RowsAt H n ks ∧ ks.map (·.2) = ns.map (bitsOf n)
  N : Nums n ns
  sn : n ≤ 5
theorem Lst.same {H H' : Hp} {l : Addr} {n : Nat} {ns : List Nat} (e : Same H H') (h : Lst H l n ns) : Lst H' l n ns := by
  obtain ⟨ks, h1, h2, h3⟩ := h.at_
  exact ⟨⟨ks, e _ _ h1, h2.same e, h3⟩, h.N, h.sn⟩
def toI (z : Addr × List Nat) : Addr × List Int := (z.1, z.2.map fun m : Nat => (m : Int))
theorem toI_inj {a b : List Nat} (e : (a.map fun m : Nat => (m : Int)) = b.map fun m : Nat => (m : Int)) : a = b := by
  have z := congrArg (List.map Int.toNat) e
  rw [List.map_map, List.map_map] at z
  have h : ∀ l : List Nat, l.map (Int.toNat ∘ fun m : Nat => (m : Int)) = l := fun l => (List.map_congr_left fun m _ => Int.toNat_natCast m).trans (List.map_id l)
  rw [h, h] at z
  exact z
theorem lots_ndI {n : Nat} {b : List Nat → Bool} {kl : List (Addr × List Nat)} (sn : n ≤ 8) (el : kl.map (·.2) = (lotsOf n n).filter b) : ((kl.map toI).map (·.2)).Nodup := by
  have e : (kl.map toI).map (·.2) = (kl.map (·.2)).map fun a : List Nat => a.map fun m : Nat => (m : Int) := by
    rw [List.map_map, List.map_map]
    rfl
  rw [e, el]
  exact List.pairwise_map.mpr ((List.Pairwise.filter _ (lotsOf_nd ⟨n, by omega⟩)).imp fun h z => h (toI_inj z))
def spTrue (b : Bool) : Sp := fun vs H Q _ => ∃ (p l : Addr) (n : Nat) (ns : List Nat) (kl : List (Addr × List Nat)), vs = [.ref p, .int n, .ref l, .bl b] ∧ H p = some (.tup (kl.map rN)) ∧ NsAt H kl ∧ kl.map (·.2) = (lotsOf n n).filter (lotP b ns n) ∧ Lst H l n ns ∧ ∀ H', Same H H' → Q (.bl true) H'
theorem ok_true (T : Txt P K mg A) (b : Bool) : FnOk P w K mg base CX0 3 A.a__law_true_lots A.d__law_true_lots ["lots", "size", "listed", "strong"] (spTrue b) := by
  refine T.F__law_true_lots.ok sc__law_true_lots (fun vs H Q E h => ?_) (fun cdv A' outer s H vs Q E hr h => ?_)
  · obtain ⟨p, l, n, ns, kl, rfl, _⟩ := h
    rfl
  · obtain ⟨p, l, n, ns, kl, rfl, hp0, na, el, L, k⟩ := h
    have G__law_is_lot := ok_isLot (w := w) (base := base) T
    have G__law_is_free := ok_lfree (w := w) (base := base) T
    have G__law_is_strong := ok_lstr (w := w) (base := base) T
    have hp : True → H p = some (.tup (kl.map rN)) := fun _ => hp0
    clear hp0
    have sn := L.sn
    have few := L.N.few
    have nd := lots_ndI (by omega) el
    have lkl : kl.length ≤ 256 := by
      have z := congrArg List.length el
      rw [List.length_map] at z
      have := List.length_filter_le (lotP b ns n) (lotsOf n n)
      have := lots_len (n := n) (by omega)
      omega
    refine ⟨_, (pss_cons (ps_if (pt_not (pt_val (pe_callB (id := "isinstance") (r := rIsiV K) call_isiV (by rfl) T.n_isinstance (by decide +kernel) (pa_cons (pv 0) (pa_cons (pe_bltn (v := .ty "tuple") (u := .type "tuple") (by rfl) T.n_tuple (by decide +kernel) rfl) pa_nil))))) (pss_one (ps_ret pe_bl)) pss_nil)
  (pss_cons (ps_set (i := 4) sc__law_true_lots.nd rfl (Or.inl rfl) pe_dnewT)
  (pss_cons (ps_for PassesOwn.never rfl (pi_tup (pv 0)) (pg_name (i := 5) sc__law_true_lots.nd rfl (Or.inl rfl))
  (pss_cons (ps_if (PW.pt (pw_or (pt_not (pt_val (pe_call G__law_is_lot (hr.mono (by decide)) rfl T.g__law_is_lot T.F__law_is_lot.kp (B__law_is_lot T) .nil pass0 (pa_cons (pv 5) (pa_cons (pv 1) pa_nil))))) (pw_or1 (pt_cmp (pc_din (u1 hr) (pv 5) (pv 4)))))) (pss_one (ps_ret pe_bl)) pss_nil)
  (pss_cons (ps_asg pe_bl (pg_sub (pv 4) (pv 5) (set_dict (Sx.u1 hr))))
  (pss_cons (ps_if (PW.pt (pw_and (pt_val (pv 3)) (pw_and1 (pt_not (pt_val (pe_call G__law_is_strong (hr.mono (by decide)) rfl T.g__law_is_strong T.F__law_is_strong.kp (B__law_is_strong T) .nil pass0 (pa_cons (pv 1) (pa_cons (pv 2) (pa_cons (pv 5) pa_nil))))))))) (pss_one (ps_ret pe_bl)) pss_nil)
  (pss_one (ps_if (PW.pt (pw_and (pt_not (pt_val (pv 3))) (pw_and1 (pt_not (pt_val (pe_call G__law_is_free (hr.mono (by decide)) rfl T.g__law_is_free T.F__law_is_free.kp (B__law_is_free T) .nil pass0 (pa_cons (pv 2) (pa_cons (pv 5) pa_nil)))))))) (pss_one (ps_ret pe_bl)) pss_nil))))))
  (pss_one (ps_ret pe_bl))))), ?_⟩
    walk_at "sx"
    refine isi_in (b := true) (in_tup (hp trivial)) ?_
    walk_at "sx"
    intro pa npa
    generalize hE : upd H pa _ = H1
    have s1 := new_same npa hE
    have g1 : H1 pa = some (.dT (((kl.map toI).take 0).map rkey)) := new_at hE
    clear hE
    have pp : p ≠ pa := ne_of_none (hp trivial) npa
    walk_at "sx"
    refine ⟨_, rfl, p, rfl, ⟨_, SqT.of (s1 _ _ (hp trivial))⟩, for_tup (K := K) (a := p) (xs := kl.map rN) (fun i σ H' => Keep pa H1 H' ∧ (True → H' pa = some (.dT (((kl.map toI).take i).map rkey))) ∧ ∃ v5, σ = [some (.ref p), some (.int n), some (.ref l), some (.bl b), some (.ref pa), v5]) ?_ ?_ ?_ ?_⟩
    · exact ⟨Keep.refl _ _, fun _ => g1, _, rfl⟩
    · rintro i σ H' _ ⟨kp, _⟩
      exact SqT.of (kp _ _ pp (s1 _ _ (hp trivial)))
    · rintro i y σ H' hy ⟨kp, hpa, v5, rfl⟩
      obtain ⟨z, hz, rfl⟩ : ∃ z, kl[i]? = some z ∧ rN z = y := by
        rw [List.getElem?_map] at hy
        exact Option.map_eq_some_iff.mp hy
      have zm := List.mem_of_getElem? hz
      have zf : z.2 ∈ (lotsOf n n).filter (lotP b ns n) := by
        rw [← el]
        exact List.mem_map.mpr ⟨z, zm, rfl⟩
      obtain ⟨zl, zb⟩ := List.mem_filter.mp zf
      obtain ⟨pw, l8, lt⟩ := lots_mem (n := n) (by omega) zl
      have zpa : z.1 ≠ pa := ne_of_none (na z zm) npa
      have hz1 : True → H' z.1 = some (.tup (z.2.map nv)) := fun _ => kp _ _ zpa (s1 _ _ (na z zm))
      have il := (List.getElem?_eq_some_iff.mp hz).1
      have hzI : (kl.map toI)[i]? = some (toI z) := by rw [List.getElem?_map, hz]; rfl
      obtain ⟨ks, hl0, rows0, ek⟩ := L.at_
      have lpa : l ≠ pa := ne_of_none hl0 npa
      have hl1 : True → H' l = some (.lst (ks.map rf)) := fun _ => kp _ _ lpa (s1 _ _ hl0)
      have rows1 : RowsAt H' n ks := fun q hq => ⟨kp _ _ (ne_of_none (rows0 q hq).1 npa) (s1 _ _ (rows0 q hq).1), (rows0 q hq).2⟩
      clear hl0 rows0
      walk_at "sx"
      refine ⟨z.1, n, z.2, rfl, hz1 trivial, pw, lt, fun H2 s2 => ?_⟩
      walk_at "sx"
      refine ⟨pa, _, rfl, DGet.t (k := (toI z).2.map Sum.inl) (s2 _ _ (hpa trivial)) (by rw [List.map_map]; exact (s2 _ _ (hz1 trivial)).trans (by show _ = some (HO.tup (((z.2.map fun m : Nat => (m : Int))).map _)); rw [List.map_map]; rfl)), ?_⟩
      rw [known_is]
      have no : decide ((toI z).2 ∈ ((kl.map toI).take i).map (·.2)) = false := by
        refine decide_eq_false fun h => ?_
        obtain ⟨q, hq, e⟩ := List.mem_map.mp h
        obtain ⟨j, hj, ej⟩ := List.mem_iff_getElem.mp hq
        rw [List.length_take] at hj
        rw [List.getElem_take] at ej
        have a1 : ((kl.map toI).map (·.2))[j]? = some (toI z).2 := by rw [List.getElem?_map, List.getElem?_eq_getElem (by omega), ej, Option.map_some, e]
        have a2 : ((kl.map toI).map (·.2))[i]? = some (toI z).2 := by rw [List.getElem?_map, hzI]; rfl
        have lt2 : (kl.map toI).length = kl.length := List.length_map ..
        have := (List.getElem?_inj (by rw [List.length_map]; omega) nd).mp (a1.trans a2.symm)
        omega
      rw [no]
      walk_at "sx"
      refine ⟨pa, _, rfl, DPut.t (k := (toI z).2.map Sum.inl) (s2 _ _ (hpa trivial)) (by rw [List.map_map]; exact (s2 _ _ (hz1 trivial)).trans (by show _ = some (HO.tup (((z.2.map fun m : Nat => (m : Int))).map _)); rw [List.map_map]; rfl)) (by rw [List.length_map, List.length_take, List.length_map, sizeLine_eq]; omega), ?_⟩
      rw [rkeys_next nd hzI]
      generalize hE : upd H2 pa _ = H3
      have k3 : Keep pa H2 H3 := by rw [← hE]; exact put_keep rfl
      have h3 : True → H3 pa = some (.dT (((kl.map toI).take (i + 1)).map rkey)) := fun _ => by rw [← hE]; exact upd_same
      clear hE
      have kp3 : Keep pa H' H3 := (Keep.same s2).trans k3
      have rows3 : RowsAt H3 n ks := fun q hq => ⟨kp3 _ _ (ne_of (rows1 q hq).1 (hpa trivial) fun e => nomatch e) (rows1 q hq).1, (rows1 q hq).2⟩
      walk_at "sx"
      cases b with
      | true =>
        walk_at "sx"
        refine ⟨l, z.1, n, ns, z.2, ks, rfl, kp3 _ _ lpa (hl1 trivial), rows3, ek, L.N.lt, L.N.ne, few, sn, kp3 _ _ zpa (hz1 trivial), zl, fun H4 s4 => ?_⟩
        rw [show strongB ns n z.2 = true from zb]
        walk_at "sx"
        exact ⟨kp.trans (kp3.trans (Keep.same s4)), fun _ => s4 _ _ (h3 trivial), _, rfl⟩
      | false =>
        walk_at "sx"
        refine ⟨l, z.1, n, ns, z.2, ks, rfl, kp3 _ _ lpa (hl1 trivial), rows3, ek, L.N.lt, few, sn, kp3 _ _ zpa (hz1 trivial), zl, fun H4 s4 => ?_⟩
        rw [show freeB ns n z.2 = true from zb]
        walk_at "sx"
        exact ⟨kp.trans (kp3.trans (Keep.same s4)), fun _ => s4 _ _ (h3 trivial), _, rfl⟩
    · rintro σ H' ⟨kp, hpa, v5, rfl⟩
      walk_at "sx"
      exact k _ (Keep.toSame s1 npa kp)
end
end K15

set_option Elab.async false
set_option linter.all false
set_option maxRecDepth 100000
set_option maxHeartbeats 4000000
namespace K15
open PySem L2 Sx
local macro_rules | `(tactic| walk_at "cond") => `(tactic| first
  | assumption
  | decide
  | exact c_mul_r (by first | decide | omega) (by first | decide | omega)
  | exact c_mul_l (by first | decide | omega) (by first | decide | omega)
  | exact c_div (by first | decide | omega) (by first | decide | omega)
  | exact c_pow (by first | decide | omega) (by first | decide | omega) (by first | decide | omega)
  | omega)
local macro_rules | `(tactic| walk_at "ne") => `(tactic| first
  | assumption
  | (refine Ne.symm ?_; assumption)
  | (refine' Flow.ne ?nh ?nn; (case nn => assumption); (case nh => walk_at "fl"))
  | (refine Ne.symm ?_; refine' Flow.ne ?nh ?nn; (case nn => assumption); (case nh => walk_at "fl"))
  | (refine' ne_of_none ?nh ?nn; (case nn => assumption); (case nh => walk_at "at"))
  | (refine Ne.symm ?_; refine' ne_of_none ?nh ?nn; (case nn => assumption); (case nh => walk_at "at")))
local macro_rules | `(tactic| walk_at "at") => `(tactic| first
  | assumption
  | (refine Same.up (by assumption) ?_; walk_at "at")
  | (refine Keep.up (by assumption) (by walk_at "ne") ?_; walk_at "at"))
local macro_rules | `(tactic| walk_at "fl") => `(tactic| first
  | assumption
  | (refine Flow.same (by assumption) ?_; walk_at "fl")
  | (refine Flow.keep (by assumption) (by walk_at "ne") ?_; walk_at "fl"))
local macro_rules | `(tactic| walk_at "fr") => `(tactic| first
  | assumption
  | (refine same_free (by assumption) ?_; walk_at "fr")
  | (refine Keep.free (by assumption) (by walk_at "ne") ?_; walk_at "fr"))
local macro_rules | `(tactic| walk_at "kp") => `(tactic| first
  | assumption
  | exact Keep.refl _ _
  | (refine Keep.trans ?_ (by assumption); walk_at "kp")
  | (refine Keep.trans ?_ (Keep.same (by assumption)); walk_at "kp"))
local macro_rules | `(tactic| walk_at "sm") => `(tactic| first
  | assumption
  | exact L2.Same.refl _
  | (refine L2.Same.trans ?_ (by assumption); walk_at "sm"))
local macro_rules | `(tactic| walk_at "sz") => `(tactic| first | exact Nat.le_of_ble_eq_true rfl | omega)
local macro_rules | `(tactic| walk_at "new") => `(tactic| (intro p np; generalize hE : upd _ p _ = H2; have s2 := new_same np hE; have h2 := new_at hE; clear hE))
local macro_rules | `(tactic| walk_at "newx") => `(tactic| (intro e d na nd hda; generalize hE : upd (upd _ d _) e _ = H2; have s2 := newx_same na nd hE; have h2 := newx_at hE; have h3 := newx_d hda hE; clear hE))
local macro_rules | `(tactic| walk_at "s1") => `(tactic| first
  | with_reducible refine s_seq ?_
  | with_reducible refine s_asg ?_
  | with_reducible refine s_name ?_
  | with_reducible refine s_ret ?_
  | with_reducible refine s_c ?_
  | ((with_reducible refine' s_var ?hv ?_); (case hv => rfl))
  | with_reducible refine s_op ?_
  | with_reducible refine s_un ?_
  | with_reducible refine s_ifS ?_
  | with_reducible refine s_cb ?_
  | with_reducible refine s_cons ?_
  | with_reducible refine s_nil ?_
  | with_reducible refine s_call ?_
  | with_reducible refine s_test ?_
  | with_reducible refine s_tB ?_
  | with_reducible refine s_bl ?_
  | with_reducible refine s_and ?_
  | with_reducible refine s_or ?_
  | with_reducible refine s_not ?_
  | with_reducible refine s_andV ?_
  | with_reducible refine s_orV ?_
  | with_reducible refine s_notV ?_
  | with_reducible refine s_blV ?_
  | with_reducible refine s_if ?_
  | with_reducible refine s_tup ?_
  | with_reducible refine s_lst ?_
  | with_reducible refine s_drop ?_
  | with_reducible refine s_next ?_
  | with_reducible refine s_sub ?_
  | with_reducible refine s_bm ?_
  | with_reducible refine s_callK ?_
  | with_reducible refine s_brk ?_
  | with_reducible refine s_cont ?_
  | with_reducible refine r_I0 ?_
  | with_reducible refine r_U ?_
  | with_reducible refine r_eqI ?_
  | with_reducible refine r_neI ?_
  | with_reducible refine r_isB ?_
  | with_reducible refine r_notB ?_
  | with_reducible refine i_t ?_
  | with_reducible refine i_f ?_
  | with_reducible refine i_nt ?_
  | with_reducible refine i_nf ?_
  | ((with_reducible refine' r_I ?hc ?_); (case hc => walk_at "cond"))
  | (with_reducible refine .inl ⟨_, rfl, ?_⟩)
  | (with_reducible refine ⟨_, rfl, ?_⟩)
  | ((with_reducible refine' r_ixL ?hx ?ha ?_); (case hx => walk_at "at"); (case ha => rfl))
  | ((with_reducible refine' r_ixT ?hx ?ha ?_); (case hx => walk_at "at"); (case ha => rfl))
  | ((with_reducible refine' r_setL ?hx ?ha ?_); (case hx => walk_at "at"); (case ha => rfl); intro H2 k2 h2; (try dsimp only [List.set, Int.toNat] at h2))
  | ((with_reducible refine' r_app ?hx ?hl ?_); (case hx => walk_at "at"); (case hl => first | exact Nat.lt_of_ble_eq_true rfl | omega); intro H2 k2 h2)
  | ((with_reducible refine' ty_list ?hx ?_); (case hx => walk_at "at"))
  | (refine And.intro (by (with_reducible show _ ≤ sizeLine); walk_at "sz") ?_; walk_at "new")
  | with_reducible refine s_exv ?_
  | walk_at "newx")
local macro_rules | `(tactic| walk_at "sx") => `(tactic| repeat (walk_at "s1"))
local macro_rules | `(tactic| walk_at "s2") => `(tactic| first
  | ((with_reducible refine' r_ixG ?hx ?hn ?_); (case hx => walk_at "at"); (case hn => omega))
  | ((with_reducible refine' r_ixGT ?hx ?hn ?_); (case hx => walk_at "at"); (case hn => omega))
  | (with_reducible refine ig_cons (fun hix => ?_) (fun hix => ?_))
  | ((with_reducible refine ig_nil ?_); omega)
  | ((with_reducible refine' i_T ?hc ?_); (case hc => omega))
  | ((with_reducible refine' i_F ?hc ?_); (case hc => omega))
  | (with_reducible refine i_2 (fun hc => ?_) (fun hc => ?_))
  | (with_reducible refine i_n2 (fun hc => ?_) (fun hc => ?_)))
local macro_rules | `(tactic| walk_at "go") => `(tactic| repeat' (first | walk_at "s1" | walk_at "s2"))

local macro_rules | `(tactic| walk_at "s1") => `(tactic| first
  | with_reducible refine s_chain ?_
  | with_reducible refine s_fldS ?_
  | with_reducible refine s_fld ?_
  | with_reducible refine s_dIn ?_
  | with_reducible refine s_dNotIn ?_
  | with_reducible refine s_sl ?_
  | with_reducible refine s_noPart ?_
  | with_reducible refine s_part ?_
  | with_reducible refine s_meth ?_
  | with_reducible refine s_make ?_)

section
variable {P : Program} {w : World} {K : PySem.W.Frag} {mg : Str → Option Value} {base : Heap} {A : Ad}
def spDim (C : Addr) : Sp := fun vs H Q _ => ∃ (x : Addr) (n : Nat) (ns : List Nat), vs = [.ref x] ∧ Rn C H x n ns ∧ Nums n ns ∧ n ≤ 8 ∧ ∀ (b : Nat) H', Same H H' → (∀ fs z, (lotsOf n n).filter (freeB ns n) = fs ++ [z] → b = z.length) → Q (.int b) H'
theorem ok_dim (T : Txt P K mg A) : FnOk P w K mg base CX0 5 A.a_dimension A.d_dimension ["rules"] (spDim A.c_Rules) := by
  refine T.F_dimension.ok sc_dimension (fun vs H Q E h => ?_) (fun cdv A' outer s H vs Q E hr h => ?_)
  · obtain ⟨x, n, ns, rfl, _⟩ := h
    rfl
  · obtain ⟨x, n, ns, rfl, R, N, sn, k⟩ := h
    have G_free_lots := ok_freeLots (w := w) (base := base) T
    refine ⟨_, (pss_one (ps_ret (pe_callB call_len (by rfl) T.n_len (by decide +kernel) (pa_cons (pe_ix ix_seq (pe_call G_free_lots (hr.mono (by decide)) rfl T.g_free_lots T.F_free_lots.kp (B_free_lots T) .nil pass0 (pa_cons (pv 0) pa_nil)) (pe_un un_neg pe_int) (fun _ _ => rfl)) pa_nil)))), ?_⟩
    walk_at "sx"
    refine ⟨x, n, ns, rfl, R, N, sn, fun p ks H' s' hp nk ek => ?_⟩
    have ne : ks ≠ [] := fun z => by
      rw [z] at ek
      have m : [] ∈ (lotsOf n n).filter (freeB ns n) := List.mem_filter.mpr ⟨List.contains_iff_mem.mp (lotsOf_nil ⟨n, by omega⟩), free_nil N.ne⟩
      rw [← ek] at m
      cases m
    obtain ⟨fs, z, e⟩ : ∃ fs z, ks = fs ++ [z] := ⟨ks.dropLast, ks.getLast ne, (List.dropLast_concat_getLast _).symm⟩
    have hp' : True → H' p = _ := fun _ => hp
    clear hp
    walk_at "sx"
    refine r_ixT (hp' trivial) (v := rN z) (by rw [e, List.map_append]; exact atI_last _ _) ?_
    walk_at "sx"
    refine ⟨_, _, rfl, .inr ⟨_, SqT.of (nk z (by rw [e]; simp)), rfl⟩, ?_⟩
    rw [List.length_map]
    refine k _ _ s' fun gs y hy => ?_
    rw [← ek, e, List.map_append] at hy
    have z2 := List.append_inj_right' hy rfl
    cases z2
    rfl
end
end K15

set_option Elab.async false
set_option linter.all false
set_option maxRecDepth 100000
set_option maxHeartbeats 4000000
namespace K15
open PySem L2 Sx
local macro_rules | `(tactic| walk_at "cond") => `(tactic| first
  | assumption
  | decide
  | exact c_mul_r (by first | decide | omega) (by first | decide | omega)
  | exact c_mul_l (by first | decide | omega) (by first | decide | omega)
  | exact c_div (by first | decide | omega) (by first | decide | omega)
  | exact c_pow (by first | decide | omega) (by first | decide | omega) (by first | decide | omega)
  | omega)
local macro_rules | `(tactic| walk_at "ne") => `(tactic| first
  | assumption
  | (refine Ne.symm ?_; assumption)
  | (refine' Flow.ne ?nh ?nn; (case nn => assumption); (case nh => walk_at "fl"))
  | (refine Ne.symm ?_; refine' Flow.ne ?nh ?nn; (case nn => assumption); (case nh => walk_at "fl"))
  | (refine' ne_of_none ?nh ?nn; (case nn => assumption); (case nh => walk_at "at"))
  | (refine Ne.symm ?_; refine' ne_of_none ?nh ?nn; (case nn => assumption); (case nh => walk_at "at")))
local macro_rules | `(tactic| walk_at "at") => `(tactic| first
  | assumption
  | (refine Same.up (by assumption) ?_; walk_at "at")
  | (refine Keep.up (by assumption) (by walk_at "ne") ?_; walk_at "at"))
local macro_rules | `(tactic| walk_at "fl") => `(tactic| first
  | assumption
  | (refine Flow.same (by assumption) ?_; walk_at "fl")
  | (refine Flow.keep (by assumption) (by walk_at "ne") ?_; walk_at "fl"))
local macro_rules | `(tactic| walk_at "fr") => `(tactic| first
  | assumption
  | (refine same_free (by assumption) ?_; walk_at "fr")
  | (refine Keep.free (by assumption) (by walk_at "ne") ?_; walk_at "fr"))
local macro_rules | `(tactic| walk_at "kp") => `(tactic| first
  | assumption
  | exact Keep.refl _ _
  | (refine Keep.trans ?_ (by assumption); walk_at "kp")
  | (refine Keep.trans ?_ (Keep.same (by assumption)); walk_at "kp"))
local macro_rules | `(tactic| walk_at "sm") => `(tactic| first
  | assumption
  | exact L2.Same.refl _
  | (refine L2.Same.trans ?_ (by assumption); walk_at "sm"))
local macro_rules | `(tactic| walk_at "sz") => `(tactic| first | exact Nat.le_of_ble_eq_true rfl | omega)
local macro_rules | `(tactic| walk_at "new") => `(tactic| (intro p np; generalize hE : upd _ p _ = H2; have s2 := new_same np hE; have h2 := new_at hE; clear hE))
local macro_rules | `(tactic| walk_at "newx") => `(tactic| (intro e d na nd hda; generalize hE : upd (upd _ d _) e _ = H2; have s2 := newx_same na nd hE; have h2 := newx_at hE; have h3 := newx_d hda hE; clear hE))
local macro_rules | `(tactic| walk_at "s1") => `(tactic| first
  | with_reducible refine s_seq ?_
  | with_reducible refine s_asg ?_
  | with_reducible refine s_name ?_
  | with_reducible refine s_ret ?_
  | with_reducible refine s_c ?_
  | ((with_reducible refine' s_var ?hv ?_); (case hv => rfl))
  | with_reducible refine s_op ?_
  | with_reducible refine s_un ?_
  | with_reducible refine s_ifS ?_
  | with_reducible refine s_cb ?_
  | with_reducible refine s_cons ?_
  | with_reducible refine s_nil ?_
  | with_reducible refine s_call ?_
  | with_reducible refine s_test ?_
  | with_reducible refine s_tB ?_
  | with_reducible refine s_bl ?_
  | with_reducible refine s_and ?_
  | with_reducible refine s_or ?_
  | with_reducible refine s_not ?_
  | with_reducible refine s_andV ?_
  | with_reducible refine s_orV ?_
  | with_reducible refine s_notV ?_
  | with_reducible refine s_blV ?_
  | with_reducible refine s_if ?_
  | with_reducible refine s_tup ?_
  | with_reducible refine s_lst ?_
  | with_reducible refine s_drop ?_
  | with_reducible refine s_next ?_
  | with_reducible refine s_sub ?_
  | with_reducible refine s_bm ?_
  | with_reducible refine s_callK ?_
  | with_reducible refine s_brk ?_
  | with_reducible refine s_cont ?_
  | with_reducible refine r_I0 ?_
  | with_reducible refine r_U ?_
  | with_reducible refine r_eqI ?_
  | with_reducible refine r_neI ?_
  | with_reducible refine r_isB ?_
  | with_reducible refine r_notB ?_
  | with_reducible refine i_t ?_
  | with_reducible refine i_f ?_
  | with_reducible refine i_nt ?_
  | with_reducible refine i_nf ?_
  | ((with_reducible refine' r_I ?hc ?_); (case hc => walk_at "cond"))
  | (with_reducible refine .inl ⟨_, rfl, ?_⟩)
  | (with_reducible refine ⟨_, rfl, ?_⟩)
  | ((with_reducible refine' r_ixL ?hx ?ha ?_); (case hx => walk_at "at"); (case ha => rfl))
  | ((with_reducible refine' r_ixT ?hx ?ha ?_); (case hx => walk_at "at"); (case ha => rfl))
  | ((with_reducible refine' r_setL ?hx ?ha ?_); (case hx => walk_at "at"); (case ha => rfl); intro H2 k2 h2; (try dsimp only [List.set, Int.toNat] at h2))
  | ((with_reducible refine' r_app ?hx ?hl ?_); (case hx => walk_at "at"); (case hl => first | exact Nat.lt_of_ble_eq_true rfl | omega); intro H2 k2 h2)
  | ((with_reducible refine' ty_list ?hx ?_); (case hx => walk_at "at"))
  | (refine And.intro (by (with_reducible show _ ≤ sizeLine); walk_at "sz") ?_; walk_at "new")
  | with_reducible refine s_exv ?_
  | walk_at "newx")
local macro_rules | `(tactic| walk_at "sx") => `(tactic| repeat (walk_at "s1"))
local macro_rules | `(tactic| walk_at "s2") => `(tactic| first
  | ((with_reducible refine' r_ixG ?hx ?hn ?_); (case hx => walk_at "at"); (case hn => omega))
  | ((with_reducible refine' r_ixGT ?hx ?hn ?_); (case hx => walk_at "at"); (case hn => omega))
  | (with_reducible refine ig_cons (fun hix => ?_) (fun hix => ?_))
  | ((with_reducible refine ig_nil ?_); omega)
  | ((with_reducible refine' i_T ?hc ?_); (case hc => omega))
  | ((with_reducible refine' i_F ?hc ?_); (case hc => omega))
  | (with_reducible refine i_2 (fun hc => ?_) (fun hc => ?_))
  | (with_reducible refine i_n2 (fun hc => ?_) (fun hc => ?_)))
local macro_rules | `(tactic| walk_at "go") => `(tactic| repeat' (first | walk_at "s1" | walk_at "s2"))

local macro_rules | `(tactic| walk_at "s1") => `(tactic| first
  | with_reducible refine s_chain ?_
  | with_reducible refine s_fldS ?_
  | with_reducible refine s_fld ?_
  | with_reducible refine s_dIn ?_
  | with_reducible refine s_dNotIn ?_
  | with_reducible refine s_sl ?_
  | with_reducible refine s_noPart ?_
  | with_reducible refine s_part ?_
  | with_reducible refine s_meth ?_
  | with_reducible refine s_make ?_)

section
variable {P : Program} {w : World} {K : PySem.W.Frag} {mg : Str → Option Value} {base : Heap} {A : Ad}

def spTr : Sp := fun vs H Q E => ∃ b, spTrue b vs H Q E
theorem ok_tr (T : Txt P K mg A) : FnOk P w K mg base CX0 3 A.a__law_true_lots A.d__law_true_lots ["lots", "size", "listed", "strong"] spTr :=
  ⟨fun vs H Q E ⟨b, h⟩ => (ok_true (w := w) (base := base) T b).len vs H Q E h, fun A' outer s H args us vs Q E hr he hb hv ⟨b, h⟩ => (ok_true (w := w) (base := base) T b).run A' outer s H args us vs Q E hr he hb hv h⟩
/-- what dimension says -/
def spChain (C : Addr) : Sp := fun vs H Q _ => ∃ (x l : Addr) (n : Nat) (ns : List Nat), vs = [.ref x, .int n, .ref l] ∧ Rn C H x n ns ∧ Lst H l n ns ∧ ∀ H', Same H H' → Q (.bl true) H'
theorem ok_chain (T : Txt P K mg A) : FnOk P w K mg base CX0 7 A.a__law_chain A.d__law_chain ["rules", "size", "listed"] (spChain A.c_Rules) := by
  refine T.F__law_chain.ok sc__law_chain (fun vs H Q E h => ?_) (fun cdv A' outer s H vs Q E hr h => ?_)
  · obtain ⟨x, l, n, ns, rfl, _⟩ := h
    rfl
  · obtain ⟨x, l, n, ns, rfl, R, L, k⟩ := h
    have G_free_lots := ok_freeLots (w := w) (base := base) T
    have G_strong_lots := ok_strongLots (w := w) (base := base) T
    have G__law_true_lots := ok_tr (w := w) (base := base) T
    have G_dimension := ok_dim (w := w) (base := base) T
    have G__law_is_integer := ok_isI (w := w) (base := base) T
    have G_lots_up_to := ok_upTo (w := w) (base := base) T
    have G__law_up_to := ok_line (w := w) (base := base) T
    have sn := L.sn
    have N := L.N
    obtain ⟨fs, zz, ez⟩ := free_last (n := n) (by omega) N.ne
    obtain ⟨mx, dn, up⟩ := last_mxd (by omega) N ez rfl
    obtain ⟨d, ed⟩ : ∃ d, d = zz.length := ⟨_, rfl⟩
    rw [← ed] at mx dn up
    refine ⟨_, (pss_cons (ps_set (i := 3) sc__law_chain.nd rfl (Or.inl rfl) (pe_call G_free_lots (hr.mono (by decide)) rfl T.g_free_lots T.F_free_lots.kp (B_free_lots T) .nil pass0 (pa_cons (pv 0) pa_nil)))
  (pss_cons (ps_set (i := 4) sc__law_chain.nd rfl (Or.inl rfl) (pe_call G_strong_lots (hr.mono (by decide)) rfl T.g_strong_lots T.F_strong_lots.kp (B_strong_lots T) .nil pass0 (pa_cons (pv 0) pa_nil)))
  (pss_cons (ps_if (PW.pt (pw_or (pt_not (pt_val (pe_call G__law_true_lots (hr.mono (by decide)) rfl T.g__law_true_lots T.F__law_true_lots.kp (B__law_true_lots T) .nil pass0 (pa_cons (pv 3) (pa_cons (pv 1) (pa_cons (pv 2) (pa_cons pe_bl pa_nil))))))) (pw_or1 (pt_not (pt_val (pe_call G__law_true_lots (hr.mono (by decide)) rfl T.g__law_true_lots T.F__law_true_lots.kp (B__law_true_lots T) .nil pass0 (pa_cons (pv 4) (pa_cons (pv 1) (pa_cons (pv 2) (pa_cons pe_bl pa_nil)))))))))) (pss_one (ps_ret pe_bl)) pss_nil)
  (pss_cons (ps_set (i := 5) sc__law_chain.nd rfl (Or.inl rfl) (pe_call G_dimension (hr.mono (by decide)) rfl T.g_dimension T.F_dimension.kp (B_dimension T) .nil pass0 (pa_cons (pv 0) pa_nil)))
  (pss_cons (ps_if (PW.pt (pw_or (pt_not (pt_val (pe_call G__law_is_integer (hr.mono (by decide)) rfl T.g__law_is_integer T.F__law_is_integer.kp (B__law_is_integer T) .nil pass0 (pa_cons (pv 5) (pa_cons pe_int (pa_cons (pe_op op_add (pv 1) pe_int) pa_nil)))))) (pw_or1 (pt_cmpR op_ne (pe_callB (cr_max rfl) (by rfl) T.n_max (by decide +kernel) (pa_cons (pe_op op_cat (pe_lst (pa_cons pe_int pa_nil)) (pe_lc (own := [("lot", 7)]) (g := (gName 7)) (by rfl) sc__law_chain.nd (pi_tup (pv 3)) (blkOk_by (own := [("lot", 7)]) (N := ["rules", "size", "listed", "free", "strong", "d", "most", "lot"]) (sc := defScope s__law_chain) (by decide +kernel)) (fun _ _ _ _ _ => (pg_name (i := 7) sc__law_chain.nd rfl (Or.inl rfl))) (fun _ _ _ _ _ => pts_nil) (fun _ _ _ _ _ => (pe_callB (r := rLenK K) call_len (by rfl) T.n_len (by decide +kernel) (pa_cons (pv 7) pa_nil))))) pa_nil)) (pv 5) (nomark _))))) (pss_one (ps_ret pe_bl)) pss_nil)
  (pss_cons (ps_set (i := 6) sc__law_chain.nd rfl (Or.inl rfl) (pe_call G_lots_up_to (hr.mono (by decide)) rfl T.g_lots_up_to T.F_lots_up_to.kp (B_lots_up_to T) .nil pass0 (pa_cons (pv 1) (pa_cons (pv 5) pa_nil))))
  (pss_cons (ps_if (PW.pt (pw_or (pt_not (pt_val (pe_call G__law_is_integer (hr.mono (by decide)) rfl T.g__law_is_integer T.F__law_is_integer.kp (B__law_is_integer T) .nil pass0 (pa_cons (pv 6) (pa_cons pe_int (pa_cons pe_int pa_nil)))))) (pw_or1 (pt_cmpR op_ne (pv 6) (pe_call G__law_up_to (hr.mono (by decide)) rfl T.g__law_up_to T.F__law_up_to.kp (B__law_up_to T) .nil pass0 (pa_cons (pv 1) (pa_cons (pv 5) pa_nil))) (nomark _))))) (pss_one (ps_ret pe_bl)) pss_nil)
  (pss_one (ps_ret (pe_chain3 op_le op_le op_le (pe_callB call_len (by rfl) T.n_len (by decide +kernel) (pa_cons (pv 4) pa_nil)) (pe_callB call_len (by rfl) T.n_len (by decide +kernel) (pa_cons (pv 2) pa_nil)) (pe_callB call_len (by rfl) T.n_len (by decide +kernel) (pa_cons (pv 3) pa_nil)) (pv 6))))))))))), ?_⟩
    walk_at "sx"
    refine ⟨x, n, ns, rfl, R, N, by omega, fun p kf H1 s1 hp0 nf ef => ?_⟩
    have hp : True → H1 p = some (.tup (kf.map rN)) := fun _ => hp0
    clear hp0
    walk_at "sx"
    refine ⟨x, n, ns, rfl, R.same s1, N, by omega, fun q kg H2 s2 hq0 ng eg => ?_⟩
    have hq : True → H2 q = some (.tup (kg.map rN)) := fun _ => hq0
    clear hq0
    have s12 := s1.trans s2
    walk_at "sx"
    refine ⟨false, p, l, n, ns, kf, rfl, s2 _ _ (hp trivial), nf.same s2, ef, L.same s12, fun H3 s3 => ?_⟩
    walk_at "sx"
    refine ⟨true, q, l, n, ns, kg, rfl, s3 _ _ (hq trivial), ng.same s3, eg, L.same (s12.trans s3), fun H4 s4 => ?_⟩
    walk_at "sx"
    have s14 := s12.trans (s3.trans s4)
    refine ⟨x, n, ns, rfl, R.same s14, N, by omega, fun b H5 s5 hb => ?_⟩
    obtain rfl : d = b := by rw [hb fs zz ez, ed]
    have s15 := s14.trans s5
    have hp5 : True → H5 p = some (.tup (kf.map rN)) := fun _ => s5 _ _ (s4 _ _ (s3 _ _ (s2 _ _ (hp trivial))))
    have nf5 : NsAt H5 kf := nf.same (s2.trans (s3.trans (s4.trans s5)))
    walk_at "sx"
    refine ⟨_, _, _, rfl, by omega, by omega, ?_⟩
    walk_at "sx"
    rename_i pz npz H6 s6 h6
    have lkf : kf.length ≤ 64 := by
      have z := congrArg List.length ef
      have w := List.length_filter_le (freeB ns n) (lotsOf n n)
      have v := (lots_len5 ⟨n, by omega⟩)
      rw [List.length_map] at z
      rw [z]
      exact Nat.le_trans w v
    have hp6 : True → H6 p = some (.tup (kf.map rN)) := fun _ => s6 _ _ (hp5 trivial)
    have nf6 : NsAt H6 kf := nf5.same s6
    have h6' : True → H6 pz = _ := fun _ => h6
    clear h6
    refine ⟨_, rfl, p, rfl, ⟨_, SqT.of (hp6 trivial)⟩, fun D hD => lc_tup (K := K) (a := p) (xs := kf.map rN) (fun i H' => Same H6 H' ∧ H' D = some (.lst (((kf.take i).map fun z => (z.2.length : Int)).map V.int))) ⟨Same.new hD, upd_same⟩ (fun i H' _ h => SqT.of (h.1 _ _ (hp6 trivial))) ?_ ?_⟩
    · rintro i y H' hy ⟨s', hD'⟩
      obtain ⟨z, hz, rfl⟩ : ∃ z, kf[i]? = some z ∧ rN z = y := by
        rw [List.getElem?_map] at hy
        exact Option.map_eq_some_iff.mp hy
      have zm := List.mem_of_getElem? hz
      refine s_name ⟨rfl, ?_⟩
      refine s_yes (i_t ?_)
      walk_at "sx"
      refine ⟨_, _, rfl, .inr ⟨_, SqT.of (s' _ _ (nf6 z zm)), rfl⟩, ?_⟩
      refine ⟨_, hD', ?_, Sx.Same.put s' hD, ?_⟩
      · rw [List.length_map, List.length_map, List.length_take, sizeLine_eq]
        omega
      · rw [upd_same, List.take_succ, hz, List.length_map]
        simp
    rintro H7 ⟨s7, hD7⟩
    rw [List.length_map, List.take_length] at hD7
    refine ⟨pz, D, _, _, rfl, rfl, s7 _ _ (h6' trivial), hD7, by rw [List.length_map, List.length_map, sizeLine_eq]; show 1 + _ ≤ _; omega, fun p8 np8 => ?_⟩
    generalize hE : upd H7 p8 _ = H8
    have s8 := new_same np8 hE
    have h8 : H8 p8 = some (.lst ((0 :: (kf.map fun z => (z.2.length : Int))).map V.int)) := new_at hE
    clear hE
    refine ⟨p8, _, rfl, SqL.of h8, by rw [List.length_cons]; omega, fun mm hm hmx => ?_⟩
    have em : mm = (d : Int) := by
      have zk : ∃ z ∈ kf, z.2 = zz := by
        have : zz ∈ kf.map (·.2) := by rw [show kf.map (·.2) = _ from ef, ez]; simp
        exact List.mem_map.mp this
      obtain ⟨z, hz, e⟩ := zk
      have a1 := hmx (z.2.length : Int) (List.mem_cons_of_mem _ (List.mem_map.mpr ⟨z, hz, rfl⟩))
      have a2 : mm ≤ (d : Int) := by
        rcases List.mem_cons.mp hm with r | r
        · omega
        · obtain ⟨y, hy, rfl⟩ := List.mem_map.mp r
          have := up y.2 (by rw [← show kf.map (·.2) = _ from ef]; exact List.mem_map.mpr ⟨y, hy, rfl⟩)
          omega
      rw [e] at a1
      omega
    rw [em]
    have s58 := s6.trans (s7.trans s8)
    walk_at "sx"
    rw [show (!decide ((d : Int) = (d : Int))) = false by simp]
    obtain ⟨u1, u2, u3⟩ := upto_all ⟨n, by omega⟩ ⟨d, by omega⟩
    have fu := free_upto (n := n) (by omega) (by omega) up
    walk_at "sx"
    refine ⟨n, d, rfl, by omega, by omega, fun H9 s9 => ?_⟩
    walk_at "sx"
    refine ⟨_, _, _, rfl, u2, u3, ?_⟩
    walk_at "sx"
    refine ⟨n, d, rfl, by omega, by omega, fun H10 s10 => ?_⟩
    walk_at "sx"
    rw [show (!decide (upTo n d = upTo n d)) = false by simp]
    have se := s58.trans (s9.trans s10)
    obtain ⟨ks, hl0, rows, ek⟩ := L.at_
    have e1 : kg.length ≤ ns.length := by
      have z := congrArg List.length (show kg.map (·.2) = (lotsOf n n).filter (lotP true ns n) from eg)
      rw [List.length_map, cnt_lots (by omega)] at z
      rw [z]
      exact strong_le (by omega) N
    have e2 : ns.length ≤ kf.length := by
      have z := congrArg List.length (show kf.map (·.2) = (lotsOf n n).filter (lotP false ns n) from ef)
      rw [List.length_map, cnt_lots (by omega)] at z
      rw [z]
      exact free_ge (by omega) N
    have e3 : (kf.length : Int) ≤ upTo n d := by
      have z := congrArg List.length ef
      rw [List.length_map] at z
      rw [z]
      exact fu
    have e4 : ks.length = ns.length := by simpa using congrArg List.length ek
    have sF := s15.trans se
    walk_at "sx"
    refine s_chain3 ?_
    walk_at "sx"
    refine ⟨_, _, rfl, .inr ⟨_, SqT.of (se _ _ (s5 _ _ (s4 _ _ (s3 _ _ (hq trivial))))), rfl⟩, ?_⟩
    rw [List.length_map]
    walk_at "sx"
    refine ⟨_, _, rfl, .inl ⟨_, SqL.of (sF _ _ hl0), rfl⟩, ?_⟩
    rw [List.length_map, e4]
    refine r_I0 ?_
    refine ⟨by rw [decide_eq_true (by omega)], ?_⟩
    walk_at "sx"
    refine ⟨_, _, rfl, .inr ⟨_, SqT.of (se _ _ (hp5 trivial)), rfl⟩, ?_⟩
    rw [List.length_map]
    refine r_I0 ?_
    refine ⟨by rw [decide_eq_true (by omega)], ?_⟩
    walk_at "sx"
    rw [decide_eq_true e3]
    exact k _ sF
end
end K15

set_option Elab.async false
set_option linter.all false
set_option maxRecDepth 100000
set_option maxHeartbeats 4000000
namespace K15
open PySem L2 Sx
local macro_rules | `(tactic| walk_at "cond") => `(tactic| first
  | assumption
  | decide
  | exact c_mul_r (by first | decide | omega) (by first | decide | omega)
  | exact c_mul_l (by first | decide | omega) (by first | decide | omega)
  | exact c_div (by first | decide | omega) (by first | decide | omega)
  | exact c_pow (by first | decide | omega) (by first | decide | omega) (by first | decide | omega)
  | omega)
local macro_rules | `(tactic| walk_at "ne") => `(tactic| first
  | assumption
  | (refine Ne.symm ?_; assumption)
  | (refine' Flow.ne ?nh ?nn; (case nn => assumption); (case nh => walk_at "fl"))
  | (refine Ne.symm ?_; refine' Flow.ne ?nh ?nn; (case nn => assumption); (case nh => walk_at "fl"))
  | (refine' ne_of_none ?nh ?nn; (case nn => assumption); (case nh => walk_at "at"))
  | (refine Ne.symm ?_; refine' ne_of_none ?nh ?nn; (case nn => assumption); (case nh => walk_at "at")))
local macro_rules | `(tactic| walk_at "at") => `(tactic| first
  | assumption
  | (refine Same.up (by assumption) ?_; walk_at "at")
  | (refine Keep.up (by assumption) (by walk_at "ne") ?_; walk_at "at"))
local macro_rules | `(tactic| walk_at "fl") => `(tactic| first
  | assumption
  | (refine Flow.same (by assumption) ?_; walk_at "fl")
  | (refine Flow.keep (by assumption) (by walk_at "ne") ?_; walk_at "fl"))
local macro_rules | `(tactic| walk_at "fr") => `(tactic| first
  | assumption
  | (refine same_free (by assumption) ?_; walk_at "fr")
  | (refine Keep.free (by assumption) (by walk_at "ne") ?_; walk_at "fr"))
local macro_rules | `(tactic| walk_at "kp") => `(tactic| first
  | assumption
  | exact Keep.refl _ _
  | (refine Keep.trans ?_ (by assumption); walk_at "kp")
  | (refine Keep.trans ?_ (Keep.same (by assumption)); walk_at "kp"))
local macro_rules | `(tactic| walk_at "sm") => `(tactic| first
  | assumption
  | exact L2.Same.refl _
  | (refine L2.Same.trans ?_ (by assumption); walk_at "sm"))
local macro_rules | `(tactic| walk_at "sz") => `(tactic| first | exact Nat.le_of_ble_eq_true rfl | omega)
local macro_rules | `(tactic| walk_at "new") => `(tactic| (intro p np; generalize hE : upd _ p _ = H2; have s2 := new_same np hE; have h2 := new_at hE; clear hE))
local macro_rules | `(tactic| walk_at "newx") => `(tactic| (intro e d na nd hda; generalize hE : upd (upd _ d _) e _ = H2; have s2 := newx_same na nd hE; have h2 := newx_at hE; have h3 := newx_d hda hE; clear hE))
local macro_rules | `(tactic| walk_at "s1") => `(tactic| first
  | with_reducible refine s_seq ?_
  | with_reducible refine s_asg ?_
  | with_reducible refine s_name ?_
  | with_reducible refine s_ret ?_
  | with_reducible refine s_c ?_
  | ((with_reducible refine' s_var ?hv ?_); (case hv => rfl))
  | with_reducible refine s_op ?_
  | with_reducible refine s_un ?_
  | with_reducible refine s_ifS ?_
  | with_reducible refine s_cb ?_
  | with_reducible refine s_cons ?_
  | with_reducible refine s_nil ?_
  | with_reducible refine s_call ?_
  | with_reducible refine s_test ?_
  | with_reducible refine s_tB ?_
  | with_reducible refine s_bl ?_
  | with_reducible refine s_and ?_
  | with_reducible refine s_or ?_
  | with_reducible refine s_not ?_
  | with_reducible refine s_andV ?_
  | with_reducible refine s_orV ?_
  | with_reducible refine s_notV ?_
  | with_reducible refine s_blV ?_
  | with_reducible refine s_if ?_
  | with_reducible refine s_tup ?_
  | with_reducible refine s_lst ?_
  | with_reducible refine s_drop ?_
  | with_reducible refine s_next ?_
  | with_reducible refine s_sub ?_
  | with_reducible refine s_bm ?_
  | with_reducible refine s_callK ?_
  | with_reducible refine s_brk ?_
  | with_reducible refine s_cont ?_
  | with_reducible refine r_I0 ?_
  | with_reducible refine r_U ?_
  | with_reducible refine r_eqI ?_
  | with_reducible refine r_neI ?_
  | with_reducible refine r_isB ?_
  | with_reducible refine r_notB ?_
  | with_reducible refine i_t ?_
  | with_reducible refine i_f ?_
  | with_reducible refine i_nt ?_
  | with_reducible refine i_nf ?_
  | ((with_reducible refine' r_I ?hc ?_); (case hc => walk_at "cond"))
  | (with_reducible refine .inl ⟨_, rfl, ?_⟩)
  | (with_reducible refine ⟨_, rfl, ?_⟩)
  | ((with_reducible refine' r_ixL ?hx ?ha ?_); (case hx => walk_at "at"); (case ha => rfl))
  | ((with_reducible refine' r_ixT ?hx ?ha ?_); (case hx => walk_at "at"); (case ha => rfl))
  | ((with_reducible refine' r_setL ?hx ?ha ?_); (case hx => walk_at "at"); (case ha => rfl); intro H2 k2 h2; (try dsimp only [List.set, Int.toNat] at h2))
  | ((with_reducible refine' r_app ?hx ?hl ?_); (case hx => walk_at "at"); (case hl => first | exact Nat.lt_of_ble_eq_true rfl | omega); intro H2 k2 h2)
  | ((with_reducible refine' ty_list ?hx ?_); (case hx => walk_at "at"))
  | (refine And.intro (by (with_reducible show _ ≤ sizeLine); walk_at "sz") ?_; walk_at "new")
  | with_reducible refine s_exv ?_
  | walk_at "newx")
local macro_rules | `(tactic| walk_at "sx") => `(tactic| repeat (walk_at "s1"))
local macro_rules | `(tactic| walk_at "s2") => `(tactic| first
  | ((with_reducible refine' r_ixG ?hx ?hn ?_); (case hx => walk_at "at"); (case hn => omega))
  | ((with_reducible refine' r_ixGT ?hx ?hn ?_); (case hx => walk_at "at"); (case hn => omega))
  | (with_reducible refine ig_cons (fun hix => ?_) (fun hix => ?_))
  | ((with_reducible refine ig_nil ?_); omega)
  | ((with_reducible refine' i_T ?hc ?_); (case hc => omega))
  | ((with_reducible refine' i_F ?hc ?_); (case hc => omega))
  | (with_reducible refine i_2 (fun hc => ?_) (fun hc => ?_))
  | (with_reducible refine i_n2 (fun hc => ?_) (fun hc => ?_)))
local macro_rules | `(tactic| walk_at "go") => `(tactic| repeat' (first | walk_at "s1" | walk_at "s2"))

local macro_rules | `(tactic| walk_at "s1") => `(tactic| first
  | with_reducible refine s_chain ?_
  | with_reducible refine s_fldS ?_
  | with_reducible refine s_fld ?_
  | with_reducible refine s_dIn ?_
  | with_reducible refine s_dNotIn ?_
  | with_reducible refine s_sl ?_
  | with_reducible refine s_noPart ?_
  | with_reducible refine s_part ?_
  | with_reducible refine s_meth ?_
  | with_reducible refine s_make ?_)

section
variable {P : Program} {w : World} {K : PySem.W.Frag} {mg : Str → Option Value} {base : Heap} {A : Ad}
theorem uE {k : Nat} {A : Around} (r : Room k A) : A.units + 64 < cLine := by
  have := r.un
  omega
/-- rows as data -/
def dRow (r : List Int) : PyData := .tuple (r.map PyData.int)
def dRows (ks : List (Addr × List Int)) : PyData := .tuple (ks.map fun p => dRow p.2)
theorem dp_ints {H : Hp} : ∀ r : List Int, DpAll K H (r.map V.int) (r.map PyData.int)
  | [] => .nil
  | i :: r => .cons (.int i) (dp_ints r)
theorem dp_all {H : Hp} {n : Nat} : ∀ ks : List (Addr × List Int), RowsAt H n ks → DpAll K H (ks.map rf) (ks.map fun p => dRow p.2)
  | [], _ => .nil
  | p :: ks, h => .cons (.tup (SqT.of (h p List.mem_cons_self).1) (dp_ints p.2)) (dp_all ks fun q hq => h q (List.mem_cons_of_mem _ hq))
theorem dp_rows {H : Hp} {n : Nat} {t : Addr} {ks : List (Addr × List Int)} (ht : H t = some (.tup (ks.map rf))) (h : RowsAt H n ks) : Dp K H (.ref t) (dRows ks) := .tup (SqT.of ht) (dp_all ks h)
theorem can_ints : ∀ r : List Int, PyData.canLayAll0 (r.map PyData.int) = true
  | [] => by rw [List.map_nil, PyData.canLayAll0]
  | i :: r => by rw [List.map_cons, PyData.canLayAll0, PyData.canLay0, can_ints r] <;> rfl
theorem can_rows : ∀ ks : List (Addr × List Int), PyData.canLayAll0 (ks.map fun p => dRow p.2) = true
  | [] => by rw [List.map_nil, PyData.canLayAll0]
  | p :: ks => by
    rw [List.map_cons, PyData.canLayAll0, can_rows ks, dRow, PyData.canLay0, can_ints p.2]
    rfl
theorem dep_ints : ∀ r : List Int, PyData.depthAll (r.map PyData.int) = 0
  | [] => by rw [List.map_nil, PyData.depthAll]
  | i :: r => by
    rw [List.map_cons, PyData.depthAll, PyData.depth, dep_ints r]
    rfl
theorem dep_rows : ∀ ks : List (Addr × List Int), PyData.depthAll (ks.map fun p => dRow p.2) ≤ 1
  | [] => by
    rw [List.map_nil, PyData.depthAll]
    omega
  | p :: ks => by
    rw [List.map_cons, PyData.depthAll, dRow, PyData.depth, dep_ints p.2]
    have := dep_rows ks
    omega
theorem sh_rows (ks : List (Addr × List Int)) : PySem.SeqAt.shaped (dRows ks) = true := by
  unfold PySem.SeqAt.shaped dRows
  rw [PyData.canLay0, can_rows ks, PyData.depth]
  have := dep_rows ks
  rw [decide_eq_true (by omega)]
  rfl

theorem uE5 {k : Nat} {A : Around} (r : Room k A) : A.units + 65 < cLine := by
  have := r.un
  omega
def dList (ks : List (Addr × List Int)) : PyData := .list (ks.map fun p => dRow p.2)
theorem dp_list {H : Hp} {n : Nat} {t : Addr} {ks : List (Addr × List Int)} (ht : H t = some (.lst (ks.map rf))) (h : RowsAt H n ks) : Dp K H (.ref t) (dList ks) := .lst (SqL.of ht) (dp_all ks h)
theorem sh_list (ks : List (Addr × List Int)) : PySem.SeqAt.shaped (dList ks) = true := by
  unfold PySem.SeqAt.shaped dList
  rw [PyData.canLay0, can_rows ks, PyData.depth]
  have := dep_rows ks
  rw [decide_eq_true (by omega)]
  rfl
theorem dp_row {H : Hp} {p : Addr} {r : List Int} (h : H p = some (.tup (r.map V.int))) : Dp K H (.ref p) (dRow r) := .tup (SqT.of h) (dp_ints r)
theorem sh_row (r : List Int) : PySem.SeqAt.shaped (dRow r) = true := by
  unfold PySem.SeqAt.shaped dRow
  rw [PyData.canLay0, can_ints r, PyData.depth, dep_ints r]
  rfl
theorem eqv_ints : ∀ a b : List Int, PyData.eqvAll (a.map PyData.int) (b.map PyData.int) = decide (a = b)
  | [], [] => by rw [List.map_nil, PyData.eqvAll]; rfl
  | [], y :: b => by rw [List.map_nil, List.map_cons, PyData.eqvAll]; rfl
  | x :: a, [] => by rw [List.map_nil, List.map_cons, PyData.eqvAll]; rfl
  | x :: a, y :: b => by
    rw [List.map_cons, List.map_cons, PyData.eqvAll, eqv_ints a b, PyData.eqv]
    by_cases h : x = y
    · subst h
      simp
    · simp [h]
theorem eqv_row (a b : List Int) : PyData.eqv (dRow a) (dRow b) = decide (a = b) := by
  unfold dRow
  rw [PyData.eqv, eqv_ints]
theorem any_row (r : List Int) : ∀ ks : List (Addr × List Int), ((ks.map fun p => dRow p.2).any fun z => PyData.eqv z (dRow r)) = decide (r ∈ ks.map (·.2))
  | [] => by simp
  | p :: ks => by
    rw [List.map_cons, List.any_cons, any_row r ks, eqv_row, List.map_cons]
    by_cases h : p.2 = r
    · simp [h]
    · have h2 : ¬ r = p.2 := fun e => h e.symm
      simp [h, h2]
theorem dRows_eq {ks ls : List (Addr × List Int)} (e : ks.map (·.2) = ls.map (·.2)) : dRows ks = dRows ls := by
  unfold dRows
  have f : ∀ ks : List (Addr × List Int), (ks.map fun p => dRow p.2) = (ks.map (·.2)).map dRow := fun ks => by rw [List.map_map]; rfl
  rw [f, f, e]
theorem full_all {n : Nat} {ns : List Nat} (N : Nums n ns) (e : ns.length = 2 ^ n) : ∀ m, m < 2 ^ n → m ∈ ns := fun m hm =>
  all_of_len (l := ns) (s := List.range (2 ^ n)) (N.asc.imp fun h => Nat.ne_of_lt h) (fun x hx => List.mem_range.mpr (N.lt x hx)) (by rw [List.length_range]; omega) m (List.mem_range.mpr hm)
theorem full_cnt {b : Bool} {n : Nat} {ns : List Nat} (sn : n ≤ 8) (N : Nums n ns) (e : ns.length = 2 ^ n) : cntB b n ns = 2 ^ n := by
  unfold cntB
  rw [List.filter_eq_self.mpr, List.length_range]
  intro M hM
  have lM := List.mem_range.mp hM
  have all := full_all N e
  have M8 := lt_256 sn lM
  cases b with
  | false => exact (lotB_free M8).mpr fun s hs => ⟨s, all s (sub_lt lM (mem_subs.mp hs).2), (mem_subs.mp hs).2⟩
  | true => exact (lotB_strong sn N M8).mpr ⟨0, Nat.zero_and _, fun s hs => by rw [Nat.zero_add]; exact all s (sub_lt lM (mem_subs.mp hs).2)⟩
theorem oth_ne {n : Nat} {ns : List Nat} (N : Nums n ns) (e : ¬ ns.length = 2 ^ n) : oth n ns ≠ [] := fun z => e (by
  have a : ns.length ≤ 2 ^ n := by
    have w := L2.nat_nodup_len ns (List.range (2 ^ n)) (N.asc.imp fun h => Nat.ne_of_lt h) fun m hm => List.mem_range.mpr (N.lt m hm)
    rwa [List.length_range] at w
  have b : 2 ^ n ≤ ns.length := by
    have w := L2.nat_nodup_len (List.range (2 ^ n)) ns List.nodup_range fun m hm => Classical.byContradiction fun no => by
      have : m ∈ oth n ns := List.mem_filter.mpr ⟨hm, by simpa using no⟩
      rw [z] at this
      cases this
    rwa [List.length_range] at w
  omega)
theorem mem_oth {n m : Nat} {ns : List Nat} : m ∈ oth n ns ↔ m < 2 ^ n ∧ m ∉ ns := by
  unfold oth
  rw [List.mem_filter, List.mem_range]
  simp
theorem cnt_of {b : Bool} {n : Nat} {ns : List Nat} {kl : List (Addr × List Nat)} (sn : n ≤ 8) (e : kl.map (·.2) = (lotsOf n n).filter (lotP b ns n)) : kl.length = cntB b n ns := by
  have z := congrArg List.length e
  rw [List.length_map, cnt_lots sn] at z
  exact z

def spComp (C : Addr) : Sp := fun vs H Q _ => ∃ (x l : Addr) (n : Nat) (ns : List Nat), vs = [.ref x, .int n, .ref l] ∧ Rn C H x n ns ∧ Lst H l n ns ∧ ∀ H', Same H H' → Q (.bl true) H'
theorem ok_comp (T : Txt P K mg A) : FnOk P w K mg base CX0 9 A.a__law_complement A.d__law_complement ["rules", "size", "listed"] (spComp A.c_Rules) := by
  refine T.F__law_complement.ok sc__law_complement (fun vs H Q E h => ?_) (fun cdv A' outer s H vs Q E hr h => ?_)
  · obtain ⟨x, l, n, ns, rfl, _⟩ := h
    rfl
  · obtain ⟨x, l, n, ns, rfl, R, L, k⟩ := h
    have G__law_full := ok_full (w := w) (base := base) T
    have G__law_row := ok_rowOf (w := w) (base := base) T
    have G_free_lots := ok_freeLots (w := w) (base := base) T
    have G_strong_lots := ok_strongLots (w := w) (base := base) T
    have G__law_chain := ok_chain (w := w) (base := base) T
    have G_Rules__others := ok_others (w := w) (base := base) T
    have sn := L.sn
    have N := L.N
    obtain ⟨ks, hl0, rows, ek⟩ := L.at_
    have hl : True → H l = some (.lst (ks.map rf)) := fun _ => hl0
    clear hl0
    have lk : ks.length = ns.length := by simpa using congrArg List.length ek
    obtain ⟨pp, epp⟩ : ∃ pp, pp = 2 ^ n := ⟨_, rfl⟩
    have p8 : pp ≤ 32 := by
      rw [epp]
      exact Nat.pow_le_pow_right (n := 2) (by decide) sn
    refine ⟨_, (pss_cons (ps_if (pt_cmpR op_eq (pe_callB call_len (by rfl) T.n_len (by decide +kernel) (pa_cons (pv 2) pa_nil)) (pe_call G__law_full (hr.mono (by decide)) rfl T.g__law_full T.F__law_full.kp (B__law_full T) .nil pass0 (pa_cons (pv 1) pa_nil)) (nomark _)) (pss_one (ps_ret (pe_and (pe_cmpR op_eq (pe_callB call_len (by rfl) T.n_len (by decide +kernel) (pa_cons (pe_call G_free_lots (hr.mono (by decide)) rfl T.g_free_lots T.F_free_lots.kp (B_free_lots T) .nil pass0 (pa_cons (pv 0) pa_nil)) pa_nil)) (pe_call G__law_full (hr.mono (by decide)) rfl T.g__law_full T.F__law_full.kp (B__law_full T) .nil pass0 (pa_cons (pv 1) pa_nil)) (nomark _)) (pe_one (pe_cmpR op_eq (pe_callB call_len (by rfl) T.n_len (by decide +kernel) (pa_cons (pe_call G_strong_lots (hr.mono (by decide)) rfl T.g_strong_lots T.F_strong_lots.kp (B_strong_lots T) .nil pass0 (pa_cons (pv 0) pa_nil)) pa_nil)) (pe_call G__law_full (hr.mono (by decide)) rfl T.g__law_full T.F__law_full.kp (B__law_full T) .nil pass0 (pa_cons (pv 1) pa_nil)) (nomark _)))))) pss_nil)
  (pss_cons (ps_setLc (i := 3) (own := [("k", 5)]) (g := (gName 5)) (by rfl) sc__law_complement.nd rfl rfl (sw_true rfl rfl rfl (by decide +kernel)) (pi_range1 rfl T.n_range (pa_cons (pe_call G__law_full (hr.mono (by decide)) rfl T.g__law_full T.F__law_full.kp (B__law_full T) .nil pass0 (pa_cons (pv 1) pa_nil)) pa_nil)) (blkOk_by (own := [("k", 5)]) (N := ["rules", "size", "listed", "lacking", "others", "k"]) (sc := defScope s__law_complement) (by decide +kernel)) (fun _ _ _ _ _ => (pg_name (i := 5) sc__law_complement.nd rfl (Or.inl rfl))) (fun _ _ _ _ _ => pts_one (pt_cmpR (r := rNotInD K) (op_notInD (uE5 hr)) (pe_call G__law_row (hr.mono (by decide)) rfl T.g__law_row T.F__law_row.kp (B__law_row T) .nil pass0 (pa_cons (pv 5) (pa_cons (pv 1) pa_nil))) (pv 2) rfl)) (fun _ _ _ _ _ => (pe_call G__law_row (hr.mono (by decide)) rfl T.g__law_row T.F__law_row.kp (B__law_row T) .nil pass0 (pa_cons (pv 5) (pa_cons (pv 1) pa_nil)))))
  (pss_cons (ps_set (i := 4) sc__law_complement.nd rfl (Or.inl rfl) (pe_meth0 (pv 0) T.cl_Rules T.me_Rules_others G_Rules__others (hr.mono (by decide)) (B_Rules__others T) .nil pass0))
  (pss_cons (ps_if (PW.pt (pw_or (pt_not (pt_val (pe_callB (id := "isinstance") (r := rIsiV K) call_isiV (by rfl) T.n_isinstance (by decide +kernel) (pa_cons (pv 4) (pa_cons (pe_glob (v := .ref A.c_Rules) rfl T.g_Rules rfl) pa_nil))))) (pw_or1 (pt_cmpR (op_neD (uE hr)) (pe_fld (pv 4) rfl) (pe_callTy call_tuple_of (by rfl) T.n_tuple (by decide +kernel) (pa_cons (pv 3) pa_nil)) (nomark _))))) (pss_one (ps_ret pe_bl)) pss_nil)
  (pss_cons (ps_if (pt_not (pt_val (pe_call G__law_chain (hr.mono (by decide)) rfl T.g__law_chain T.F__law_chain.kp (B__law_chain T) .nil pass0 (pa_cons (pv 4) (pa_cons (pv 1) (pa_cons (pv 3) pa_nil)))))) (pss_one (ps_ret pe_bl)) pss_nil)
  (pss_cons (ps_if (pt_cmpR op_ne (pe_op op_add (pe_callB call_len (by rfl) T.n_len (by decide +kernel) (pa_cons (pe_call G_free_lots (hr.mono (by decide)) rfl T.g_free_lots T.F_free_lots.kp (B_free_lots T) .nil pass0 (pa_cons (pv 0) pa_nil)) pa_nil)) (pe_callB call_len (by rfl) T.n_len (by decide +kernel) (pa_cons (pe_call G_strong_lots (hr.mono (by decide)) rfl T.g_strong_lots T.F_strong_lots.kp (B_strong_lots T) .nil pass0 (pa_cons (pv 4) pa_nil)) pa_nil))) (pe_call G__law_full (hr.mono (by decide)) rfl T.g__law_full T.F__law_full.kp (B__law_full T) .nil pass0 (pa_cons (pv 1) pa_nil)) (nomark _)) (pss_one (ps_ret pe_bl)) pss_nil)
  (pss_one (ps_ret (pe_cmpR op_eq (pe_op op_add (pe_callB call_len (by rfl) T.n_len (by decide +kernel) (pa_cons (pe_call G_free_lots (hr.mono (by decide)) rfl T.g_free_lots T.F_free_lots.kp (B_free_lots T) .nil pass0 (pa_cons (pv 4) pa_nil)) pa_nil)) (pe_callB call_len (by rfl) T.n_len (by decide +kernel) (pa_cons (pe_call G_strong_lots (hr.mono (by decide)) rfl T.g_strong_lots T.F_strong_lots.kp (B_strong_lots T) .nil pass0 (pa_cons (pv 0) pa_nil)) pa_nil))) (pe_call G__law_full (hr.mono (by decide)) rfl T.g__law_full T.F__law_full.kp (B__law_full T) .nil pass0 (pa_cons (pv 1) pa_nil)) (nomark _)))))))))), ?_⟩
    walk_at "sx"
    refine ⟨_, _, rfl, .inl ⟨_, SqL.of (hl trivial), rfl⟩, ?_⟩
    rw [List.length_map, lk]
    walk_at "sx"
    refine ⟨n, rfl, sn, fun H1 s1 => ?_⟩
    rw [← epp]
    walk_at "sx"
    refine i_2 (fun c => ?_) (fun c => ?_)
    · have c' : ns.length = 2 ^ n := by omega
      walk_at "sx"
      refine ⟨x, n, ns, rfl, R.same s1, N, by omega, fun p kf H2 s2 hp nf ef => ?_⟩
      walk_at "sx"
      refine ⟨_, _, rfl, .inr ⟨_, SqT.of hp, rfl⟩, ?_⟩
      rw [List.length_map, cnt_of (b := false) (by omega) ef, full_cnt (by omega) N c']
      walk_at "sx"
      refine ⟨n, rfl, sn, fun H3 s3 => ?_⟩
      walk_at "sx"
      rw [decide_eq_true rfl]
      walk_at "sx"
      refine ⟨x, n, ns, rfl, R.same (s1.trans (s2.trans s3)), N, by omega, fun q kg H4 s4 hq ng eg => ?_⟩
      walk_at "sx"
      refine ⟨_, _, rfl, .inr ⟨_, SqT.of hq, rfl⟩, ?_⟩
      rw [List.length_map, cnt_of (b := true) (by omega) eg, full_cnt (by omega) N c']
      walk_at "sx"
      refine ⟨n, rfl, sn, fun H5 s5 => ?_⟩
      walk_at "sx"
      rw [decide_eq_true rfl]
      exact k _ (s1.trans (s2.trans (s3.trans (s4.trans s5))))
    have c' : ¬ ns.length = 2 ^ n := by omega
    have one := oth_ne N c'
    have O := oth_nums (by omega) one
    walk_at "sx"
    unfold tLc iRng1
    walk_at "sx"
    refine ⟨n, rfl, sn, fun H2 s2 => ?_⟩
    rw [← epp]
    have s02 := s1.trans s2
    walk_at "sx"
    refine ⟨by omega, by omega, ?_⟩
    rw [Int.toNat_natCast]
    refine fun D hD => lc_range (lo := 0) (n := pp) (fun i H' => Same H2 H' ∧ ∃ ls, (True → H' D = some (.lst (ls.map rf))) ∧ RowsAt H' n ls ∧ ls.map (·.2) = ((List.range i).filter fun m => !decide (m ∈ ns)).map (bitsOf n)) ⟨Same.new hD, [], fun _ => upd_same, rows_nil, rfl⟩ ?_ ?_
    · rintro i H' hi ⟨s', ls, hD', rl, el⟩
      have ll : ls.length ≤ 32 := by
        have z := congrArg List.length el
        rw [List.length_map, List.length_map] at z
        have w := List.length_filter_le (fun m => !decide (m ∈ ns)) (List.range i)
        rw [List.length_range] at w
        omega
      refine s_name ⟨rfl, ?_⟩
      walk_at "sx"
      refine ⟨i, n, by rw [Int.zero_add]; rfl, by omega, fun p H3 s3 h3 => ?_⟩
      have s23 := s'.trans s3
      have h3' : True → H3 p = _ := fun _ => h3
      clear h3
      walk_at "sx"
      refine ⟨dRow (bitsOf n i), (ks.map fun p : Addr × List Int => dRow p.2), dp_row (h3' trivial), dp_list (s23 _ _ (s02 _ _ (hl trivial))) (rows.same (s02.trans s23)), sh_row _, sh_list ks, ?_⟩
      rw [any_row, ek]
      have eb : decide (bitsOf n i ∈ ns.map (bitsOf n)) = decide (i ∈ ns) := decide_eq_decide.mpr ⟨fun h => by
        obtain ⟨y, hy, e⟩ := List.mem_map.mp h
        rw [← bits_inj (N.lt y hy) (by omega) e]
        exact hy, fun h => List.mem_map.mpr ⟨i, h, rfl⟩⟩
      rw [eb]
      refine ⟨_, rfl, ?_⟩
      refine i_b2 (fun hb => ?_) (fun hb => ?_)
      · have hb' : (!decide (i ∈ ns)) = true := hb
        walk_at "sx"
        refine ⟨i, n, by rw [Int.zero_add]; rfl, by omega, fun p2 H4 s4 h4 => ?_⟩
        refine (rows_step hD (s3 _ _ (hD' trivial)) s23 s4 (rl.same s3) h4 (bitsOf_bits n i) (by omega) ?_).imp fun acc h => ⟨h.1, h.2.1, h.2.2.1, h.2.2.2.imp fun ls' h => ⟨fun _ => h.1, h.2.1, h.2.2⟩⟩
        rw [el, List.range_succ, List.filter_append, List.filter_cons, if_pos hb', List.map_append]
        rfl
      · have hb' : (!decide (i ∈ ns)) = false := hb
        refine ⟨s23, ls, fun _ => s3 _ _ (hD' trivial), rl.same s3, ?_⟩
        rw [el, List.range_succ, List.filter_append, List.filter_cons, if_neg (by rw [hb']; simp), List.filter_nil, List.append_nil]
    rintro H3 ⟨s3, ls, hD', rl, el⟩
    rw [epp] at el
    have el' : ls.map (·.2) = (oth n ns).map (bitsOf n) := el
    have s03 := s02.trans s3
    have R3 := R.same s03
    obtain ⟨ks0, ⟨dx, t, kn, hx, _⟩, _⟩ := id R3
    walk_at "sx"
    refine ⟨x, dx, _, rfl, hx, rfl, ?_⟩
    walk_at "sx"
    refine ⟨x, n, ns, rfl, R3, N.lt, by omega, one, fun y H4 s4 Ry => ?_⟩
    have s04 := s03.trans s4
    obtain ⟨ks1, ⟨dy, u, kn1, hy, hu, _, rows1, _⟩, ek1⟩ := id Ry
    have hu' : True → H4 u = some (.tup (ks1.map rf)) := fun _ => hu
    clear hu
    have hD4 : True → H4 D = some (.lst (ls.map rf)) := fun _ => s4 _ _ (hD' trivial)
    walk_at "sx"
    refine T.o_Rules.own hy ?_
    walk_at "sx"
    refine r_get rfl hy T.cl_Rules T.no_Rules_rows rfl ?_
    walk_at "sx"
    refine ⟨D, _, rfl, .inl ⟨SqL.of (hD4 trivial), fun q np => ?_⟩⟩
    generalize hE : upd H4 q _ = H5
    have s5 := new_same np hE
    have h5 : True → H5 q = some (.tup (ls.map rf)) := fun _ => new_at hE
    clear hE
    refine ⟨dRows ks1, dRows ls, dp_rows (s5 _ _ (hu' trivial)) (rows1.same s5), dp_rows (h5 trivial) (rl.same (s4.trans s5)), sh_rows ks1, sh_rows ls, ?_⟩
    rw [dRows_eq (ek1.trans el'.symm), PySem.SeqAt.eqv_refl _ (PySem.SeqAt.canLay_of_shaped (sh_rows ls))]
    walk_at "sx"
    have s05 := s04.trans s5
    have Ry5 := Ry.same s5
    refine ⟨y, D, n, oth n ns, rfl, Ry5, ⟨⟨ls, s5 _ _ (hD4 trivial), rl.same (s4.trans s5), el'⟩, O, sn⟩, fun H6 s6 => ?_⟩
    walk_at "sx"
    have s06 := s05.trans s6
    have Ry6 := Ry5.same s6
    have c1 := com_sum sn N O (fun m => mem_oth)
    have c2 := com_sum sn O N (fun m => ⟨fun h => ⟨N.lt m h, fun z => (mem_oth.mp z).2 h⟩, fun h => Classical.byContradiction fun no => h.2 (mem_oth.mpr ⟨h.1, no⟩)⟩)
    refine ⟨x, n, ns, rfl, R.same s06, N, by omega, fun p kf H7 s7 hp nf ef => ?_⟩
    walk_at "sx"
    refine ⟨_, _, rfl, .inr ⟨_, SqT.of hp, rfl⟩, ?_⟩
    rw [List.length_map, cnt_of (b := false) (by omega) ef]
    clear hp nf
    walk_at "sx"
    refine ⟨y, n, oth n ns, rfl, Ry6.same s7, O, by omega, fun q kg H8 s8 hq ng eg => ?_⟩
    walk_at "sx"
    refine ⟨_, _, rfl, .inr ⟨_, SqT.of hq, rfl⟩, ?_⟩
    rw [List.length_map, cnt_of (b := true) (by omega) eg]
    clear hq ng
    walk_at "sx"
    refine ⟨n, rfl, sn, fun H9 s9 => ?_⟩
    rw [show ((cntB false n ns : Nat) : Int) + ((cntB true n (oth n ns) : Nat) : Int) = ((2 ^ n : Nat) : Int) by rw [← c1, Int.natCast_add]]
    walk_at "sx"
    rw [show (!decide (((2 ^ n : Nat) : Int) = ((2 ^ n : Nat) : Int))) = false by simp]
    have s69 := s7.trans (s8.trans s9)
    walk_at "sx"
    refine ⟨y, n, oth n ns, rfl, Ry6.same s69, O, by omega, fun q kg H10 s10 hq ng eg => ?_⟩
    walk_at "sx"
    refine ⟨_, _, rfl, .inr ⟨_, SqT.of hq, rfl⟩, ?_⟩
    rw [List.length_map, cnt_of (b := false) (by omega) eg]
    clear hq ng
    walk_at "sx"
    refine ⟨x, n, ns, rfl, R.same (s06.trans (s69.trans s10)), N, by omega, fun p kf H11 s11 hp nf ef => ?_⟩
    walk_at "sx"
    refine ⟨_, _, rfl, .inr ⟨_, SqT.of hp, rfl⟩, ?_⟩
    rw [List.length_map, cnt_of (b := true) (by omega) ef]
    clear hp nf
    walk_at "sx"
    refine ⟨n, rfl, sn, fun H12 s12 => ?_⟩
    rw [show ((cntB false n (oth n ns) : Nat) : Int) + ((cntB true n ns : Nat) : Int) = ((2 ^ n : Nat) : Int) by rw [← c2, Int.natCast_add]]
    walk_at "sx"
    rw [decide_eq_true rfl]
    exact k _ (s06.trans (s69.trans (s10.trans (s11.trans s12))))
end
end K15

set_option Elab.async false
set_option linter.all false
set_option maxRecDepth 100000
set_option maxHeartbeats 4000000
namespace K15
open PySem L2 Sx
local macro_rules | `(tactic| walk_at "cond") => `(tactic| first
  | assumption
  | decide
  | exact c_mul_r (by first | decide | omega) (by first | decide | omega)
  | exact c_mul_l (by first | decide | omega) (by first | decide | omega)
  | exact c_div (by first | decide | omega) (by first | decide | omega)
  | exact c_pow (by first | decide | omega) (by first | decide | omega) (by first | decide | omega)
  | omega)
local macro_rules | `(tactic| walk_at "ne") => `(tactic| first
  | assumption
  | (refine Ne.symm ?_; assumption)
  | (refine' Flow.ne ?nh ?nn; (case nn => assumption); (case nh => walk_at "fl"))
  | (refine Ne.symm ?_; refine' Flow.ne ?nh ?nn; (case nn => assumption); (case nh => walk_at "fl"))
  | (refine' ne_of_none ?nh ?nn; (case nn => assumption); (case nh => walk_at "at"))
  | (refine Ne.symm ?_; refine' ne_of_none ?nh ?nn; (case nn => assumption); (case nh => walk_at "at")))
local macro_rules | `(tactic| walk_at "at") => `(tactic| first
  | assumption
  | (refine Same.up (by assumption) ?_; walk_at "at")
  | (refine Keep.up (by assumption) (by walk_at "ne") ?_; walk_at "at"))
local macro_rules | `(tactic| walk_at "fl") => `(tactic| first
  | assumption
  | (refine Flow.same (by assumption) ?_; walk_at "fl")
  | (refine Flow.keep (by assumption) (by walk_at "ne") ?_; walk_at "fl"))
local macro_rules | `(tactic| walk_at "fr") => `(tactic| first
  | assumption
  | (refine same_free (by assumption) ?_; walk_at "fr")
  | (refine Keep.free (by assumption) (by walk_at "ne") ?_; walk_at "fr"))
local macro_rules | `(tactic| walk_at "kp") => `(tactic| first
  | assumption
  | exact Keep.refl _ _
  | (refine Keep.trans ?_ (by assumption); walk_at "kp")
  | (refine Keep.trans ?_ (Keep.same (by assumption)); walk_at "kp"))
local macro_rules | `(tactic| walk_at "sm") => `(tactic| first
  | assumption
  | exact L2.Same.refl _
  | (refine L2.Same.trans ?_ (by assumption); walk_at "sm"))
local macro_rules | `(tactic| walk_at "sz") => `(tactic| first | exact Nat.le_of_ble_eq_true rfl | omega)
local macro_rules | `(tactic| walk_at "new") => `(tactic| (intro p np; generalize hE : upd _ p _ = H2; have s2 := new_same np hE; have h2 := new_at hE; clear hE))
local macro_rules | `(tactic| walk_at "newx") => `(tactic| (intro e d na nd hda; generalize hE : upd (upd _ d _) e _ = H2; have s2 := newx_same na nd hE; have h2 := newx_at hE; have h3 := newx_d hda hE; clear hE))
local macro_rules | `(tactic| walk_at "s1") => `(tactic| first
  | with_reducible refine s_seq ?_
  | with_reducible refine s_asg ?_
  | with_reducible refine s_name ?_
  | with_reducible refine s_ret ?_
  | with_reducible refine s_c ?_
  | ((with_reducible refine' s_var ?hv ?_); (case hv => rfl))
  | with_reducible refine s_op ?_
  | with_reducible refine s_un ?_
  | with_reducible refine s_ifS ?_
  | with_reducible refine s_cb ?_
  | with_reducible refine s_cons ?_
  | with_reducible refine s_nil ?_
  | with_reducible refine s_call ?_
  | with_reducible refine s_test ?_
  | with_reducible refine s_tB ?_
  | with_reducible refine s_bl ?_
  | with_reducible refine s_and ?_
  | with_reducible refine s_or ?_
  | with_reducible refine s_not ?_
  | with_reducible refine s_andV ?_
  | with_reducible refine s_orV ?_
  | with_reducible refine s_notV ?_
  | with_reducible refine s_blV ?_
  | with_reducible refine s_if ?_
  | with_reducible refine s_tup ?_
  | with_reducible refine s_lst ?_
  | with_reducible refine s_drop ?_
  | with_reducible refine s_next ?_
  | with_reducible refine s_sub ?_
  | with_reducible refine s_bm ?_
  | with_reducible refine s_callK ?_
  | with_reducible refine s_brk ?_
  | with_reducible refine s_cont ?_
  | with_reducible refine r_I0 ?_
  | with_reducible refine r_U ?_
  | with_reducible refine r_eqI ?_
  | with_reducible refine r_neI ?_
  | with_reducible refine r_isB ?_
  | with_reducible refine r_notB ?_
  | with_reducible refine i_t ?_
  | with_reducible refine i_f ?_
  | with_reducible refine i_nt ?_
  | with_reducible refine i_nf ?_
  | ((with_reducible refine' r_I ?hc ?_); (case hc => walk_at "cond"))
  | (with_reducible refine .inl ⟨_, rfl, ?_⟩)
  | (with_reducible refine ⟨_, rfl, ?_⟩)
  | ((with_reducible refine' r_ixL ?hx ?ha ?_); (case hx => walk_at "at"); (case ha => rfl))
  | ((with_reducible refine' r_ixT ?hx ?ha ?_); (case hx => walk_at "at"); (case ha => rfl))
  | ((with_reducible refine' r_setL ?hx ?ha ?_); (case hx => walk_at "at"); (case ha => rfl); intro H2 k2 h2; (try dsimp only [List.set, Int.toNat] at h2))
  | ((with_reducible refine' r_app ?hx ?hl ?_); (case hx => walk_at "at"); (case hl => first | exact Nat.lt_of_ble_eq_true rfl | omega); intro H2 k2 h2)
  | ((with_reducible refine' ty_list ?hx ?_); (case hx => walk_at "at"))
  | (refine And.intro (by (with_reducible show _ ≤ sizeLine); walk_at "sz") ?_; walk_at "new")
  | with_reducible refine s_exv ?_
  | walk_at "newx")
local macro_rules | `(tactic| walk_at "sx") => `(tactic| repeat (walk_at "s1"))
local macro_rules | `(tactic| walk_at "s2") => `(tactic| first
  | ((with_reducible refine' r_ixG ?hx ?hn ?_); (case hx => walk_at "at"); (case hn => omega))
  | ((with_reducible refine' r_ixGT ?hx ?hn ?_); (case hx => walk_at "at"); (case hn => omega))
  | (with_reducible refine ig_cons (fun hix => ?_) (fun hix => ?_))
  | ((with_reducible refine ig_nil ?_); omega)
  | ((with_reducible refine' i_T ?hc ?_); (case hc => omega))
  | ((with_reducible refine' i_F ?hc ?_); (case hc => omega))
  | (with_reducible refine i_2 (fun hc => ?_) (fun hc => ?_))
  | (with_reducible refine i_n2 (fun hc => ?_) (fun hc => ?_)))
local macro_rules | `(tactic| walk_at "go") => `(tactic| repeat' (first | walk_at "s1" | walk_at "s2"))

local macro_rules | `(tactic| walk_at "s1") => `(tactic| first
  | with_reducible refine s_chain ?_
  | with_reducible refine s_fldS ?_
  | with_reducible refine s_fld ?_
  | with_reducible refine s_dIn ?_
  | with_reducible refine s_dNotIn ?_
  | with_reducible refine s_sl ?_
  | with_reducible refine s_noPart ?_
  | with_reducible refine s_part ?_
  | with_reducible refine s_meth ?_
  | with_reducible refine s_make ?_)

section
variable {P : Program} {w : World} {K : PySem.W.Frag} {mg : Str → Option Value} {base : Heap} {A : Ad}

/-- size and rows as the law has them -/
def Pr (H : Hp) (o : Addr) (n : Nat) (ns : List Nat) : Prop := ∃ l, H o = some (.lst [.int n, .ref l]) ∧ Lst H l n ns
theorem Pr.same {H H' : Hp} {o : Addr} {n : Nat} {ns : List Nat} (e : Same H H') (h : Pr H o n ns) : Pr H' o n ns := h.elim fun l h => ⟨l, e _ _ h.1, h.2.same e⟩
def spHalf (b : Bool) : Sp := fun vs H Q _ => ∃ (p o1 o2 : Addr) (n1 n2 : Nat) (ns1 ns2 : List Nat) (kl : List (Addr × List Nat)), vs = [.ref p, .ref o1, .ref o2, .bl b] ∧ H p = some (.tup (kl.map rN)) ∧ NsAt H kl ∧ kl.map (·.2) = (lotsOf (n1 + n2) (n1 + n2)).filter (lotP b (prodN n2 ns1 ns2) (n1 + n2)) ∧ Pr H o1 n1 ns1 ∧ Pr H o2 n2 ns2 ∧ n1 + n2 ≤ 5 ∧ ∀ H', Same H H' → Q (.bl true) H'
theorem ok_half (T : Txt P K mg A) (b : Bool) : FnOk P w K mg base CX0 3 A.a__law_halves A.d__law_halves ["lots", "one", "other", "strong"] (spHalf b) := by
  refine T.F__law_halves.ok sc__law_halves (fun vs H Q E h => ?_) (fun cdv A' outer s H vs Q E hr h => ?_)
  · obtain ⟨p, o1, o2, n1, n2, ns1, ns2, kl, rfl, _⟩ := h
    rfl
  · obtain ⟨p, o1, o2, n1, n2, ns1, ns2, kl, rfl, hp0, na, el, ⟨l1, h1, Lo⟩, ⟨l2, h2, Lt⟩, sn, k⟩ := h
    have G__law_is_lot := ok_isLot (w := w) (base := base) T
    have G__law_is_free := ok_lfree (w := w) (base := base) T
    have G__law_is_strong := ok_lstr (w := w) (base := base) T
    have hp : True → H p = some (.tup (kl.map rN)) := fun _ => hp0
    clear hp0
    have N1 := Lo.N
    have N2 := Lt.N
    obtain ⟨ks1, a1, r1, e1⟩ := Lo.at_
    obtain ⟨ks2, a2, r2, e2⟩ := Lt.at_
    have hl1 : True → H l1 = some (.lst (ks1.map rf)) := fun _ => a1
    have hl2 : True → H l2 = some (.lst (ks2.map rf)) := fun _ => a2
    clear a1 a2
    refine ⟨_, (pss_cons (ps_if (pt_not (pt_val (pe_callB (id := "isinstance") (r := rIsiV K) call_isiV (by rfl) T.n_isinstance (by decide +kernel) (pa_cons (pv 0) (pa_cons (pe_bltn (v := .ty "tuple") (u := .type "tuple") (by rfl) T.n_tuple (by decide +kernel) rfl) pa_nil))))) (pss_one (ps_ret pe_bl)) pss_nil)
  (pss_cons (ps_set (i := 4) sc__law_halves.nd rfl (Or.inr rfl) (pe_ix (r := rIx K) ix_seq (pv 1) pe_int (fun _ _ => rfl)))
  (pss_cons (ps_for PassesOwn.never rfl (pi_tup (pv 0)) (pg_name (i := 5) sc__law_halves.nd rfl (Or.inl rfl))
  (pss_cons (ps_if (pt_not (pt_val (pe_call G__law_is_lot (hr.mono (by decide)) rfl T.g__law_is_lot T.F__law_is_lot.kp (B__law_is_lot T) .nil pass0 (pa_cons (pv 5) (pa_cons (pe_op op_add (pv 4) (pe_ix (r := rIx K) ix_seq (pv 2) pe_int (fun _ _ => rfl))) pa_nil))))) (pss_one (ps_ret pe_bl)) pss_nil)
  (pss_cons (ps_set (i := 6) sc__law_halves.nd rfl (Or.inl rfl) (pe_callTy call_tuple_of (by rfl) T.n_tuple (by decide +kernel) (pa_cons (pe_lc (own := [("point", 8)]) (g := (gName 8)) (by rfl) sc__law_halves.nd (pi_tup (pv 5)) (blkOk_by (own := [("point", 8)]) (N := ["lots", "one", "other", "strong", "size", "lot", "front", "back", "point"]) (sc := defScope s__law_halves) (by decide +kernel)) (fun _ _ _ _ _ => (pg_name (i := 8) sc__law_halves.nd rfl (Or.inl rfl))) (fun _ _ _ _ _ => pts_one (pt_cmpR op_lt (pv 8) (pv 4) (nomark _))) (fun _ _ _ _ _ => (pv 8))) pa_nil)))
  (pss_cons (ps_set (i := 7) sc__law_halves.nd rfl (Or.inl rfl) (pe_callTy call_tuple_of (by rfl) T.n_tuple (by decide +kernel) (pa_cons (pe_lc (own := [("point", 8)]) (g := (gName 8)) (by rfl) sc__law_halves.nd (pi_tup (pv 5)) (blkOk_by (own := [("point", 8)]) (N := ["lots", "one", "other", "strong", "size", "lot", "front", "back", "point"]) (sc := defScope s__law_halves) (by decide +kernel)) (fun _ _ _ _ _ => (pg_name (i := 8) sc__law_halves.nd rfl (Or.inl rfl))) (fun _ _ _ _ _ => pts_one (pt_cmpR op_ge (pv 8) (pv 4) (nomark _))) (fun _ _ _ _ _ => (pe_op op_sub (pv 8) (pv 4)))) pa_nil)))
  (pss_cons (ps_if (PW.pt (pw_and (pt_val (pv 3)) (pw_and1 (pt_not (PW.pt (pw_and (pt_val (pe_call G__law_is_strong (hr.mono (by decide)) rfl T.g__law_is_strong T.F__law_is_strong.kp (B__law_is_strong T) .nil pass0 (pa_cons (pv 4) (pa_cons (pe_ix (r := rIx K) ix_seq (pv 1) pe_int (fun _ _ => rfl)) (pa_cons (pv 6) pa_nil))))) (pw_and1 (pt_val (pe_call G__law_is_strong (hr.mono (by decide)) rfl T.g__law_is_strong T.F__law_is_strong.kp (B__law_is_strong T) .nil pass0 (pa_cons (pe_ix (r := rIx K) ix_seq (pv 2) pe_int (fun _ _ => rfl)) (pa_cons (pe_ix (r := rIx K) ix_seq (pv 2) pe_int (fun _ _ => rfl)) (pa_cons (pv 7) pa_nil)))))))))))) (pss_one (ps_ret pe_bl)) pss_nil)
  (pss_one (ps_if (PW.pt (pw_and (pt_not (pt_val (pv 3))) (pw_and1 (pt_not (PW.pt (pw_and (pt_val (pe_call G__law_is_free (hr.mono (by decide)) rfl T.g__law_is_free T.F__law_is_free.kp (B__law_is_free T) .nil pass0 (pa_cons (pe_ix (r := rIx K) ix_seq (pv 1) pe_int (fun _ _ => rfl)) (pa_cons (pv 6) pa_nil)))) (pw_and1 (pt_val (pe_call G__law_is_free (hr.mono (by decide)) rfl T.g__law_is_free T.F__law_is_free.kp (B__law_is_free T) .nil pass0 (pa_cons (pe_ix (r := rIx K) ix_seq (pv 2) pe_int (fun _ _ => rfl)) (pa_cons (pv 7) pa_nil))))))))))) (pss_one (ps_ret pe_bl)) pss_nil)))))))
  (pss_one (ps_ret pe_bl))))), ?_⟩
    walk_at "sx"
    refine isi_in (b := true) (in_tup (hp trivial)) ?_
    walk_at "sx"
    refine ⟨_, rfl, p, rfl, ⟨_, SqT.of (hp trivial)⟩, for_tup (K := K) (a := p) (xs := kl.map rN) (fun i σ H' => Same H H' ∧ ∃ v5 v6 v7, σ = [some (.ref p), some (.ref o1), some (.ref o2), some (.bl b), some (.int n1), v5, v6, v7, none]) ?_ ?_ ?_ ?_⟩
    · exact ⟨L2.Same.refl _, _, _, _, rfl⟩
    · rintro i σ H' _ ⟨kp, _⟩
      exact SqT.of (kp _ _ (hp trivial))
    · rintro i y σ H' hy ⟨s0, v5, v6, v7, rfl⟩
      obtain ⟨z, hz, rfl⟩ : ∃ z, kl[i]? = some z ∧ rN z = y := by
        rw [List.getElem?_map] at hy
        exact Option.map_eq_some_iff.mp hy
      have zm := List.mem_of_getElem? hz
      have zf : z.2 ∈ (lotsOf (n1 + n2) (n1 + n2)).filter (lotP b (prodN n2 ns1 ns2) (n1 + n2)) := by
        rw [← el]
        exact List.mem_map.mpr ⟨z, zm, rfl⟩
      obtain ⟨zl, zb⟩ := List.mem_filter.mp zf
      obtain ⟨pw, l8, lt⟩ := lots_mem (n := n1 + n2) (by omega) zl
      obtain ⟨f1, f2⟩ := halves_is (by omega) N1 N2 zl zb
      obtain ⟨m1, m2, _, _⟩ := halves (n1 := n1) (n2 := n2) (by omega) zl
      have hz1 : True → H' z.1 = some (.tup (z.2.map nv)) := fun _ => s0 _ _ (na z zm)
      have g1 : H' o1 = some (.lst [.int n1, .ref l1]) := s0 _ _ h1
      have g2 : H' o2 = some (.lst [.int n2, .ref l2]) := s0 _ _ h2
      walk_at "sx"
      refine ⟨z.1, n1 + n2, z.2, by rw [Int.natCast_add]; rfl, hz1 trivial, pw, lt, fun H2 s2 => ?_⟩
      walk_at "sx"
      refine ⟨_, rfl, z.1, rfl, ⟨_, SqT.of (s2 _ _ (hz1 trivial))⟩, fun D hD => lc_tup (K := K) (a := z.1) (xs := z.2.map nv) (fun j H3 => Same H2 H3 ∧ H3 D = some (.lst (((z.2.take j).filter fun p => decide (p < n1)).map nv))) ⟨Same.new hD, upd_same⟩ (fun j H3 _ h => SqT.of (h.1 _ _ (s2 _ _ (hz1 trivial)))) ?_ ?_⟩
      · rintro j y H3 hy ⟨s', hD'⟩
        obtain ⟨jj, hjj, rfl⟩ : ∃ q, z.2[j]? = some q ∧ nv q = y := by
          rw [List.getElem?_map] at hy
          exact Option.map_eq_some_iff.mp hy
        have fl : (((z.2.take j).filter fun p => decide (p < n1)).map nv).length < sizeLine := by
          rw [List.length_map, sizeLine_eq]
          have := List.length_filter_le (fun p => decide (p < n1)) (z.2.take j)
          rw [List.length_take] at this
          omega
        refine s_name ⟨rfl, ?_⟩
        walk_at "sx"
        refine i_2 (fun c => ?_) (fun c => ?_)
        · walk_at "sx"
          refine ⟨_, hD', fl, Sx.Same.put s' hD, ?_⟩
          rw [upd_same, filter_nextI _ hjj, if_pos (by rw [decide_eq_true]; omega), List.map_append]
          rfl
        · refine ⟨s', ?_⟩
          rw [hD', filter_nextI _ hjj, if_neg (by rw [decide_eq_true_eq]; omega), List.append_nil]
      rintro H3 ⟨s3, hD3⟩
      rw [List.length_map, List.take_length] at hD3
      refine ⟨D, _, rfl, .inl ⟨SqL.of hD3, fun t nt => ?_⟩⟩
      generalize hE : upd H3 t _ = H4
      have s4 := new_same nt hE
      have h4 : True → H4 t = some (.tup ((z.2.filter fun p => decide (p < n1)).map nv)) := fun _ => new_at hE
      clear hE
      have s24 := s2.trans (s3.trans s4)
      walk_at "sx"
      refine ⟨_, rfl, z.1, rfl, ⟨_, SqT.of (s24 _ _ (hz1 trivial))⟩, fun D2 hD2 => lc_tup (K := K) (a := z.1) (xs := z.2.map nv) (fun j H3 => Same H4 H3 ∧ H3 D2 = some (.lst ((((z.2.take j).filter fun p => decide (n1 ≤ p)).map fun p => p - n1).map nv))) ⟨Same.new hD2, upd_same⟩ (fun j H3 _ h => SqT.of (h.1 _ _ (s24 _ _ (hz1 trivial)))) ?_ ?_⟩
      · rintro j y H3 hy ⟨s', hD'⟩
        obtain ⟨jj, hjj, rfl⟩ : ∃ q, z.2[j]? = some q ∧ nv q = y := by
          rw [List.getElem?_map] at hy
          exact Option.map_eq_some_iff.mp hy
        have fl : ((((z.2.take j).filter fun p => decide (n1 ≤ p)).map fun p => p - n1).map nv).length < sizeLine := by
          rw [List.length_map, List.length_map, sizeLine_eq]
          have := List.length_filter_le (fun p => decide (n1 ≤ p)) (z.2.take j)
          rw [List.length_take] at this
          omega
        refine s_name ⟨rfl, ?_⟩
        walk_at "sx"
        refine i_2 (fun c => ?_) (fun c => ?_)
        · walk_at "sx"
          refine ⟨_, hD', fl, Sx.Same.put s' hD2, ?_⟩
          rw [upd_same, filter_nextI _ hjj, if_pos (by rw [decide_eq_true]; omega), List.map_append, List.map_append, show ((jj : Int) - (n1 : Int)) = ((jj - n1 : Nat) : Int) by omega]
          rfl
        · refine ⟨s', ?_⟩
          rw [hD', filter_nextI _ hjj, if_neg (by rw [decide_eq_true_eq]; omega), List.append_nil]
      rintro H5 ⟨s5, hD5⟩
      rw [List.length_map, List.take_length] at hD5
      refine ⟨D2, _, rfl, .inl ⟨SqL.of hD5, fun u nu => ?_⟩⟩
      generalize hE : upd H5 u _ = H6
      have s6 := new_same nu hE
      have h6 : True → H6 u = some (.tup (((z.2.filter fun p => decide (n1 ≤ p)).map fun p => p - n1).map nv)) := fun _ => new_at hE
      clear hE
      have s46 := s5.trans s6
      have s06 := s0.trans (s24.trans s46)
      have g1' : H6 o1 = some (.lst [.int n1, .ref l1]) := s06 _ _ h1
      have g2' : H6 o2 = some (.lst [.int n2, .ref l2]) := s06 _ _ h2
      walk_at "sx"
      cases b with
      | true =>
        walk_at "sx"
        refine ⟨l1, t, n1, ns1, _, ks1, rfl, s06 _ _ (hl1 trivial), r1.same s06, e1, N1.lt, N1.ne, N1.few, by omega, s46 _ _ (h4 trivial), m1, fun H7 s7 => ?_⟩
        rw [show strongB ns1 n1 _ = true from f1]
        walk_at "sx"
        refine ⟨l2, u, n2, ns2, _, ks2, rfl, s7 _ _ (s06 _ _ (hl2 trivial)), r2.same (s06.trans s7), e2, N2.lt, N2.ne, N2.few, by omega, s7 _ _ (h6 trivial), m2, fun H8 s8 => ?_⟩
        rw [show strongB ns2 n2 _ = true from f2]
        walk_at "sx"
        exact ⟨s06.trans (s7.trans s8), _, _, _, rfl⟩
      | false =>
        walk_at "sx"
        refine ⟨l1, t, n1, ns1, _, ks1, rfl, s06 _ _ (hl1 trivial), r1.same s06, e1, N1.lt, N1.few, by omega, s46 _ _ (h4 trivial), m1, fun H7 s7 => ?_⟩
        rw [show freeB ns1 n1 _ = true from f1]
        walk_at "sx"
        refine ⟨l2, u, n2, ns2, _, ks2, rfl, s7 _ _ (s06 _ _ (hl2 trivial)), r2.same (s06.trans s7), e2, N2.lt, N2.few, by omega, s7 _ _ (h6 trivial), m2, fun H8 s8 => ?_⟩
        rw [show freeB ns2 n2 _ = true from f2]
        walk_at "sx"
        exact ⟨s06.trans (s7.trans s8), _, _, _, rfl⟩
    · rintro σ H' ⟨s0, v5, v6, v7, rfl⟩
      walk_at "sx"
      exact k _ s0
def spHf : Sp := fun vs H Q E => ∃ b, spHalf b vs H Q E
theorem ok_hf (T : Txt P K mg A) : FnOk P w K mg base CX0 3 A.a__law_halves A.d__law_halves ["lots", "one", "other", "strong"] spHf :=
  ⟨fun vs H Q E ⟨b, h⟩ => (ok_half (w := w) (base := base) T b).len vs H Q E h, fun A' outer s H args us vs Q E hr he hb hv ⟨b, h⟩ => (ok_half (w := w) (base := base) T b).run A' outer s H args us vs Q E hr he hb hv h⟩
end
end K15

set_option Elab.async false
set_option linter.all false
set_option maxRecDepth 100000
set_option maxHeartbeats 4000000
namespace K15
open PySem L2 Sx
local macro_rules | `(tactic| walk_at "cond") => `(tactic| first
  | assumption
  | decide
  | exact c_mul_r (by first | decide | omega) (by first | decide | omega)
  | exact c_mul_l (by first | decide | omega) (by first | decide | omega)
  | exact c_div (by first | decide | omega) (by first | decide | omega)
  | exact c_pow (by first | decide | omega) (by first | decide | omega) (by first | decide | omega)
  | omega)
local macro_rules | `(tactic| walk_at "ne") => `(tactic| first
  | assumption
  | (refine Ne.symm ?_; assumption)
  | (refine' Flow.ne ?nh ?nn; (case nn => assumption); (case nh => walk_at "fl"))
  | (refine Ne.symm ?_; refine' Flow.ne ?nh ?nn; (case nn => assumption); (case nh => walk_at "fl"))
  | (refine' ne_of_none ?nh ?nn; (case nn => assumption); (case nh => walk_at "at"))
  | (refine Ne.symm ?_; refine' ne_of_none ?nh ?nn; (case nn => assumption); (case nh => walk_at "at")))
local macro_rules | `(tactic| walk_at "at") => `(tactic| first
  | assumption
  | (refine Same.up (by assumption) ?_; walk_at "at")
  | (refine Keep.up (by assumption) (by walk_at "ne") ?_; walk_at "at"))
local macro_rules | `(tactic| walk_at "fl") => `(tactic| first
  | assumption
  | (refine Flow.same (by assumption) ?_; walk_at "fl")
  | (refine Flow.keep (by assumption) (by walk_at "ne") ?_; walk_at "fl"))
local macro_rules | `(tactic| walk_at "fr") => `(tactic| first
  | assumption
  | (refine same_free (by assumption) ?_; walk_at "fr")
  | (refine Keep.free (by assumption) (by walk_at "ne") ?_; walk_at "fr"))
local macro_rules | `(tactic| walk_at "kp") => `(tactic| first
  | assumption
  | exact Keep.refl _ _
  | (refine Keep.trans ?_ (by assumption); walk_at "kp")
  | (refine Keep.trans ?_ (Keep.same (by assumption)); walk_at "kp"))
local macro_rules | `(tactic| walk_at "sm") => `(tactic| first
  | assumption
  | exact L2.Same.refl _
  | (refine L2.Same.trans ?_ (by assumption); walk_at "sm"))
local macro_rules | `(tactic| walk_at "sz") => `(tactic| first | exact Nat.le_of_ble_eq_true rfl | omega)
local macro_rules | `(tactic| walk_at "new") => `(tactic| (intro p np; generalize hE : upd _ p _ = H2; have s2 := new_same np hE; have h2 := new_at hE; clear hE))
local macro_rules | `(tactic| walk_at "newx") => `(tactic| (intro e d na nd hda; generalize hE : upd (upd _ d _) e _ = H2; have s2 := newx_same na nd hE; have h2 := newx_at hE; have h3 := newx_d hda hE; clear hE))
local macro_rules | `(tactic| walk_at "s1") => `(tactic| first
  | with_reducible refine s_seq ?_
  | with_reducible refine s_asg ?_
  | with_reducible refine s_name ?_
  | with_reducible refine s_ret ?_
  | with_reducible refine s_c ?_
  | ((with_reducible refine' s_var ?hv ?_); (case hv => rfl))
  | with_reducible refine s_op ?_
  | with_reducible refine s_un ?_
  | with_reducible refine s_ifS ?_
  | with_reducible refine s_cb ?_
  | with_reducible refine s_cons ?_
  | with_reducible refine s_nil ?_
  | with_reducible refine s_call ?_
  | with_reducible refine s_test ?_
  | with_reducible refine s_tB ?_
  | with_reducible refine s_bl ?_
  | with_reducible refine s_and ?_
  | with_reducible refine s_or ?_
  | with_reducible refine s_not ?_
  | with_reducible refine s_andV ?_
  | with_reducible refine s_orV ?_
  | with_reducible refine s_notV ?_
  | with_reducible refine s_blV ?_
  | with_reducible refine s_if ?_
  | with_reducible refine s_tup ?_
  | with_reducible refine s_lst ?_
  | with_reducible refine s_drop ?_
  | with_reducible refine s_next ?_
  | with_reducible refine s_sub ?_
  | with_reducible refine s_bm ?_
  | with_reducible refine s_callK ?_
  | with_reducible refine s_brk ?_
  | with_reducible refine s_cont ?_
  | with_reducible refine r_I0 ?_
  | with_reducible refine r_U ?_
  | with_reducible refine r_eqI ?_
  | with_reducible refine r_neI ?_
  | with_reducible refine r_isB ?_
  | with_reducible refine r_notB ?_
  | with_reducible refine i_t ?_
  | with_reducible refine i_f ?_
  | with_reducible refine i_nt ?_
  | with_reducible refine i_nf ?_
  | ((with_reducible refine' r_I ?hc ?_); (case hc => walk_at "cond"))
  | (with_reducible refine .inl ⟨_, rfl, ?_⟩)
  | (with_reducible refine ⟨_, rfl, ?_⟩)
  | ((with_reducible refine' r_ixL ?hx ?ha ?_); (case hx => walk_at "at"); (case ha => rfl))
  | ((with_reducible refine' r_ixT ?hx ?ha ?_); (case hx => walk_at "at"); (case ha => rfl))
  | ((with_reducible refine' r_setL ?hx ?ha ?_); (case hx => walk_at "at"); (case ha => rfl); intro H2 k2 h2; (try dsimp only [List.set, Int.toNat] at h2))
  | ((with_reducible refine' r_app ?hx ?hl ?_); (case hx => walk_at "at"); (case hl => first | exact Nat.lt_of_ble_eq_true rfl | omega); intro H2 k2 h2)
  | ((with_reducible refine' ty_list ?hx ?_); (case hx => walk_at "at"))
  | (refine And.intro (by (with_reducible show _ ≤ sizeLine); walk_at "sz") ?_; walk_at "new")
  | with_reducible refine s_exv ?_
  | walk_at "newx")
local macro_rules | `(tactic| walk_at "sx") => `(tactic| repeat (walk_at "s1"))
local macro_rules | `(tactic| walk_at "s2") => `(tactic| first
  | ((with_reducible refine' r_ixG ?hx ?hn ?_); (case hx => walk_at "at"); (case hn => omega))
  | ((with_reducible refine' r_ixGT ?hx ?hn ?_); (case hx => walk_at "at"); (case hn => omega))
  | (with_reducible refine ig_cons (fun hix => ?_) (fun hix => ?_))
  | ((with_reducible refine ig_nil ?_); omega)
  | ((with_reducible refine' i_T ?hc ?_); (case hc => omega))
  | ((with_reducible refine' i_F ?hc ?_); (case hc => omega))
  | (with_reducible refine i_2 (fun hc => ?_) (fun hc => ?_))
  | (with_reducible refine i_n2 (fun hc => ?_) (fun hc => ?_)))
local macro_rules | `(tactic| walk_at "go") => `(tactic| repeat' (first | walk_at "s1" | walk_at "s2"))

local macro_rules | `(tactic| walk_at "s1") => `(tactic| first
  | with_reducible refine s_chain ?_
  | with_reducible refine s_fldS ?_
  | with_reducible refine s_fld ?_
  | with_reducible refine s_dIn ?_
  | with_reducible refine s_dNotIn ?_
  | with_reducible refine s_sl ?_
  | with_reducible refine s_noPart ?_
  | with_reducible refine s_part ?_
  | with_reducible refine s_meth ?_
  | with_reducible refine s_make ?_)

section
variable {P : Program} {w : World} {K : PySem.W.Frag} {mg : Str → Option Value} {base : Heap} {A : Ad}

theorem c_makeR {C l : Addr} {n : Nat} {ks : List (Addr × List Int)} {H : Hp} {R : Addr → Hp → Prop} {E : XK} (hl : H l = some (.lst (ks.map rf))) (ne : ks ≠ []) (sz : ks.length ≤ 64) (sn : n < 1000) (rows : RowsAt H n ks)
    (q : ∀ x H' ks', Same H H' → Of ks ks' → RuAt C H' x n ks' → R x H') : ∀ x dx, H x = none → H dx = none → dx ≠ x → spMake C (.ref x :: ([.int n, .ref l] ++ [])) (upd (upd H dx (.own x)) x (.ins C dx [])) (fun v H2 => v = .non ∧ R x H2) E := by
  intro x dx nx nd hd
  have s := newx_same (H := H) (a := x) (d := dx) (o := .ins C dx []) (u := .own x) nx nd rfl
  refine ⟨x, dx, l, n, ks, rfl, upd_same, s _ _ hl, ne, sz, sn, rows.same s, fun p hp e => ?_, fun H' ks' k o r => ⟨rfl, q x H' ks' (Keep.toSame s nx k) o r⟩⟩
  have z := (rows p hp).1
  rw [e, nx] at z
  cases z
theorem cnt_le {b : Bool} {n : Nat} {ns : List Nat} (sn : n ≤ 5) : cntB b n ns ≤ 32 := by
  have w := List.length_filter_le (lotB b ns) (List.range (2 ^ n))
  rw [List.length_range] at w
  have p : (2 : Nat) ^ n ≤ 32 := Nat.pow_le_pow_right (n := 2) (by decide) sn
  show ((List.range (2 ^ n)).filter (lotB b ns)).length ≤ 32
  omega
def spProd : Sp := fun vs H Q _ => ∃ (o1 o2 : Addr) (n1 n2 : Nat) (ns1 ns2 : List Nat), vs = [.ref o1, .ref o2] ∧ Pr H o1 n1 ns1 ∧ Pr H o2 n2 ns2 ∧ n1 + n2 ≤ 5 ∧ ∀ H', Same H H' → Q (.bl true) H'
theorem ok_prod (T : Txt P K mg A) : FnOk P w K mg base CX0 9 A.a__law_product A.d__law_product ["one", "other"] spProd := by
  refine T.F__law_product.ok sc__law_product (fun vs H Q E h => ?_) (fun cdv A' outer s H vs Q E hr h => ?_)
  · obtain ⟨o1, o2, n1, n2, ns1, ns2, rfl, _⟩ := h
    rfl
  · obtain ⟨o1, o2, n1, n2, ns1, ns2, rfl, ⟨l1, h1, Lo⟩, ⟨l2, h2, Lt⟩, sn, k⟩ := h
    have G_Rules____init__ := ok_make (w := w) (base := base) T
    have G_Rules__beside := ok_beside (w := w) (base := base) T
    have G_dimension := ok_dim (w := w) (base := base) T
    have G_free_lots := ok_freeLots (w := w) (base := base) T
    have G_strong_lots := ok_strongLots (w := w) (base := base) T
    have G__law_is_integer := ok_isI (w := w) (base := base) T
    have G__law_halves := ok_hf (w := w) (base := base) T
    have G__law_chain := ok_chain (w := w) (base := base) T
    have N1 := Lo.N
    have N2 := Lt.N
    have N := prod_nums N1 N2 (by omega)
    obtain ⟨ks1, a1, r1, e1⟩ := id Lo.at_
    obtain ⟨ks2, a2, r2, e2⟩ := id Lt.at_
    have cf1 : cntB false n1 ns1 ≤ 32 := cnt_le (by omega)
    have cf2 : cntB false n2 ns2 ≤ 32 := cnt_le (by omega)
    have ct1 : cntB true n1 ns1 ≤ 32 := cnt_le (by omega)
    have ct2 : cntB true n2 ns2 ≤ 32 := cnt_le (by omega)
    refine ⟨_, (pss_cons (ps_set (i := 2) sc__law_product.nd rfl (Or.inl rfl) (pe_make T.mk_Rules G_Rules____init__ (hr.mono (by decide)) rfl T.g_Rules (B_Rules____init__ T) .nil pass0 (pa_cons (pe_ix (r := rIx K) ix_seq (pv 0) pe_int (fun _ _ => rfl)) (pa_cons (pe_ix (r := rIx K) ix_seq (pv 0) pe_int (fun _ _ => rfl)) pa_nil))))
  (pss_cons (ps_set (i := 3) sc__law_product.nd rfl (Or.inl rfl) (pe_make T.mk_Rules G_Rules____init__ (hr.mono (by decide)) rfl T.g_Rules (B_Rules____init__ T) .nil pass0 (pa_cons (pe_ix (r := rIx K) ix_seq (pv 1) pe_int (fun _ _ => rfl)) (pa_cons (pe_ix (r := rIx K) ix_seq (pv 1) pe_int (fun _ _ => rfl)) pa_nil))))
  (pss_cons (ps_set (i := 4) sc__law_product.nd rfl (Or.inl rfl) (pe_meth (pv 2) T.cl_Rules T.me_Rules_beside G_Rules__beside (hr.mono (by decide)) (B_Rules__beside T) .nil pass0 (pa_cons (pv 3) pa_nil)))
  (pss_cons (ps_set (i := 5) sc__law_product.nd rfl (Or.inl rfl) (pe_call G_dimension (hr.mono (by decide)) rfl T.g_dimension T.F_dimension.kp (B_dimension T) .nil pass0 (pa_cons (pv 4) pa_nil)))
  (pss_cons (ps_if (PW.pt (pw_or (pt_not (pt_val (pe_call G__law_is_integer (hr.mono (by decide)) rfl T.g__law_is_integer T.F__law_is_integer.kp (B__law_is_integer T) .nil pass0 (pa_cons (pv 5) (pa_cons pe_int (pa_cons pe_int pa_nil)))))) (pw_or1 (pt_cmpR op_ne (pv 5) (pe_op op_add (pe_call G_dimension (hr.mono (by decide)) rfl T.g_dimension T.F_dimension.kp (B_dimension T) .nil pass0 (pa_cons (pv 2) pa_nil)) (pe_call G_dimension (hr.mono (by decide)) rfl T.g_dimension T.F_dimension.kp (B_dimension T) .nil pass0 (pa_cons (pv 3) pa_nil))) (nomark _))))) (pss_one (ps_ret pe_bl)) pss_nil)
  (pss_cons (ps_set (i := 6) sc__law_product.nd rfl (Or.inl rfl) (pe_call G_free_lots (hr.mono (by decide)) rfl T.g_free_lots T.F_free_lots.kp (B_free_lots T) .nil pass0 (pa_cons (pv 4) pa_nil)))
  (pss_cons (ps_set (i := 7) sc__law_product.nd rfl (Or.inl rfl) (pe_call G_strong_lots (hr.mono (by decide)) rfl T.g_strong_lots T.F_strong_lots.kp (B_strong_lots T) .nil pass0 (pa_cons (pv 4) pa_nil)))
  (pss_cons (ps_if (PW.pt (pw_or (pt_not (pt_val (pe_call G__law_halves (hr.mono (by decide)) rfl T.g__law_halves T.F__law_halves.kp (B__law_halves T) .nil pass0 (pa_cons (pv 6) (pa_cons (pv 0) (pa_cons (pv 1) (pa_cons pe_bl pa_nil))))))) (pw_or1 (pt_not (pt_val (pe_call G__law_halves (hr.mono (by decide)) rfl T.g__law_halves T.F__law_halves.kp (B__law_halves T) .nil pass0 (pa_cons (pv 7) (pa_cons (pv 0) (pa_cons (pv 1) (pa_cons pe_bl pa_nil)))))))))) (pss_one (ps_ret pe_bl)) pss_nil)
  (pss_cons (ps_if (pt_cmpR op_ne (pe_callB call_len (by rfl) T.n_len (by decide +kernel) (pa_cons (pv 6) pa_nil)) (pe_op op_mul (pe_callB call_len (by rfl) T.n_len (by decide +kernel) (pa_cons (pe_call G_free_lots (hr.mono (by decide)) rfl T.g_free_lots T.F_free_lots.kp (B_free_lots T) .nil pass0 (pa_cons (pv 2) pa_nil)) pa_nil)) (pe_callB call_len (by rfl) T.n_len (by decide +kernel) (pa_cons (pe_call G_free_lots (hr.mono (by decide)) rfl T.g_free_lots T.F_free_lots.kp (B_free_lots T) .nil pass0 (pa_cons (pv 3) pa_nil)) pa_nil))) (nomark _)) (pss_one (ps_ret pe_bl)) pss_nil)
  (pss_cons (ps_if (pt_cmpR op_ne (pe_callB call_len (by rfl) T.n_len (by decide +kernel) (pa_cons (pv 7) pa_nil)) (pe_op op_mul (pe_callB call_len (by rfl) T.n_len (by decide +kernel) (pa_cons (pe_call G_strong_lots (hr.mono (by decide)) rfl T.g_strong_lots T.F_strong_lots.kp (B_strong_lots T) .nil pass0 (pa_cons (pv 2) pa_nil)) pa_nil)) (pe_callB call_len (by rfl) T.n_len (by decide +kernel) (pa_cons (pe_call G_strong_lots (hr.mono (by decide)) rfl T.g_strong_lots T.F_strong_lots.kp (B_strong_lots T) .nil pass0 (pa_cons (pv 3) pa_nil)) pa_nil))) (nomark _)) (pss_one (ps_ret pe_bl)) pss_nil)
  (pss_one (ps_ret (pe_and (pe_call G__law_chain (hr.mono (by decide)) rfl T.g__law_chain T.F__law_chain.kp (B__law_chain T) .nil pass0 (pa_cons (pv 2) (pa_cons (pe_ix (r := rIx K) ix_seq (pv 0) pe_int (fun _ _ => rfl)) (pa_cons (pe_ix (r := rIx K) ix_seq (pv 0) pe_int (fun _ _ => rfl)) pa_nil)))) (pe_one (pe_call G__law_chain (hr.mono (by decide)) rfl T.g__law_chain T.F__law_chain.kp (B__law_chain T) .nil pass0 (pa_cons (pv 3) (pa_cons (pe_ix (r := rIx K) ix_seq (pv 1) pe_int (fun _ _ => rfl)) (pa_cons (pe_ix (r := rIx K) ix_seq (pv 1) pe_int (fun _ _ => rfl)) pa_nil)))))))))))))))))), ?_⟩
    refine s_seq (s_asg (s_make (s_cons (s_op (s_var rfl (s_c (r_ixL h1 rfl ?_)))))))
    refine s_cons (s_op (s_var rfl (s_c (r_ixL h1 rfl ?_))))
    refine s_nil (c_makeR a1 (ls_ne N1 e1) (ls_few N1 e1) (by omega) r1 fun x H1 kx s1 ox rx => ?_)
    refine s_name ?_
    dsimp only
    refine s_seq (s_asg (s_make (s_cons (s_op (s_var rfl (s_c (r_ixL (s1 _ _ h2) rfl ?_)))))))
    refine s_cons (s_op (s_var rfl (s_c (r_ixL (s1 _ _ h2) rfl ?_))))
    refine s_nil (c_makeR (s1 _ _ a2) (ls_ne N2 e2) (ls_few N2 e2) (by omega) (r2.same s1) fun y H2 ky s2 oy ry => ?_)
    refine s_name ?_
    dsimp only
    have Rx := (rn_of N1 e1 ox rx).same s2
    have Ry := rn_of N2 e2 oy ry
    have s12 := s1.trans s2
    obtain ⟨_, ⟨dx, _, _, hx, _⟩, _⟩ := id Rx
    clear a1 a2 e1 e2 r1 r2
    walk_at "sx"
    refine ⟨x, dx, _, rfl, hx, rfl, ?_⟩
    walk_at "sx"
    refine ⟨x, y, n1, n2, ns1, ns2, rfl, Rx, Ry, N1, N2, by omega, fun z H3 s3 Rz => ?_⟩
    walk_at "sx"
    refine ⟨z, n1 + n2, _, rfl, Rz, N, by omega, fun b H4 s4 hb => ?_⟩
    obtain ⟨fs, zz, ez⟩ := free_last (n := n1 + n2) (by omega) N.ne
    obtain ⟨mx, dn, _⟩ := last_mxd (by omega) N ez (hb fs zz ez)
    walk_at "sx"
    refine ⟨_, _, _, rfl, by omega, by omega, ?_⟩
    have s24 := s3.trans s4
    walk_at "sx"
    refine ⟨x, n1, ns1, rfl, Rx.same s24, N1, by omega, fun b1 H5 s5 hb1 => ?_⟩
    obtain ⟨fs1, zz1, ez1⟩ := free_last (n := n1) (by omega) N1.ne
    obtain ⟨mx1, _, _⟩ := last_mxd (by omega) N1 ez1 (hb1 fs1 zz1 ez1)
    have s25 := s24.trans s5
    walk_at "sx"
    refine ⟨y, n2, ns2, rfl, Ry.same s25, N2, by omega, fun b2 H6 s6 hb2 => ?_⟩
    obtain ⟨fs2, zz2, ez2⟩ := free_last (n := n2) (by omega) N2.ne
    obtain ⟨mx2, _, _⟩ := last_mxd (by omega) N2 ez2 (hb2 fs2 zz2 ez2)
    have s26 := s25.trans s6
    have eb := mxd_prod (by omega) N1 N2 mx1 mx2 mx
    refine r_I0 ?_
    rw [show ((b1 : Int) + (b2 : Int)) = ((b : Nat) : Int) by omega]
    walk_at "sx"
    rw [show (!decide ((b : Int) = (b : Int))) = false by simp]
    have s36 := s4.trans (s5.trans s6)
    walk_at "sx"
    refine ⟨z, n1 + n2, _, rfl, Rz.same s36, N, by omega, fun pf kf H7 s7 hf0 nf ef => ?_⟩
    have hf : True → H7 pf = some (.tup (kf.map rN)) := fun _ => hf0
    clear hf0
    walk_at "sx"
    refine ⟨z, n1 + n2, _, rfl, Rz.same (s36.trans s7), N, by omega, fun pg kg H8 s8 hg0 ng eg => ?_⟩
    have hg : True → H8 pg = some (.tup (kg.map rN)) := fun _ => hg0
    clear hg0
    have s28 := s26.trans (s7.trans s8)
    have s08 := s12.trans s28
    have P1 : Pr H8 o1 n1 ns1 := Pr.same s08 ⟨l1, h1, Lo⟩
    have P2 : Pr H8 o2 n2 ns2 := Pr.same s08 ⟨l2, h2, Lt⟩
    walk_at "sx"
    refine ⟨false, pf, o1, o2, n1, n2, ns1, ns2, kf, rfl, s8 _ _ (hf trivial), nf.same s8, ef, P1, P2, sn, fun H9 s9 => ?_⟩
    walk_at "sx"
    refine ⟨true, pg, o1, o2, n1, n2, ns1, ns2, kg, rfl, s9 _ _ (hg trivial), ng.same s9, eg, P1.same s9, P2.same s9, sn, fun H10 s10 => ?_⟩
    have s2a := s28.trans (s9.trans s10)
    have hfa : True → H10 pf = some (.tup (kf.map rN)) := fun _ => s10 _ _ (s9 _ _ (s8 _ _ (hf trivial)))
    have hga : True → H10 pg = some (.tup (kg.map rN)) := fun _ => s10 _ _ (s9 _ _ (hg trivial))
    clear hf hg
    walk_at "sx"
    refine ⟨_, _, rfl, .inr ⟨_, SqT.of (hfa trivial), rfl⟩, ?_⟩
    rw [List.length_map, cnt_of (b := false) (by omega) ef, prod_cnt (by omega) N1 N2]
    walk_at "sx"
    refine ⟨x, n1, ns1, rfl, Rx.same s2a, N1, by omega, fun q1 k1 H11 s11 hq nq eq => ?_⟩
    walk_at "sx"
    refine ⟨_, _, rfl, .inr ⟨_, SqT.of hq, rfl⟩, ?_⟩
    rw [List.length_map, cnt_of (b := false) (by omega) eq]
    clear hq nq
    have s2b := s2a.trans s11
    walk_at "sx"
    refine ⟨y, n2, ns2, rfl, Ry.same s2b, N2, by omega, fun q2 k2 H12 s12' hq nq eq => ?_⟩
    walk_at "sx"
    refine ⟨_, _, rfl, .inr ⟨_, SqT.of hq, rfl⟩, ?_⟩
    rw [List.length_map, cnt_of (b := false) (by omega) eq]
    clear hq nq
    have s2c := s2b.trans s12'
    walk_at "sx"
    rw [show (!decide (((cntB false n1 ns1 * cntB false n2 ns2 : Nat) : Int) = (cntB false n1 ns1 : Int) * (cntB false n2 ns2 : Int))) = false by rw [Int.natCast_mul]; simp]
    have s2d : Same H10 H12 := s11.trans s12'
    clear cf1 cf2
    walk_at "sx"
    refine ⟨_, _, rfl, .inr ⟨_, SqT.of (s2d _ _ (hga trivial)), rfl⟩, ?_⟩
    rw [List.length_map, cnt_of (b := true) (by omega) eg, prod_cnt (by omega) N1 N2]
    walk_at "sx"
    refine ⟨x, n1, ns1, rfl, Rx.same s2c, N1, by omega, fun q1 k1 H13 s13 hq nq eq => ?_⟩
    walk_at "sx"
    refine ⟨_, _, rfl, .inr ⟨_, SqT.of hq, rfl⟩, ?_⟩
    rw [List.length_map, cnt_of (b := true) (by omega) eq]
    clear hq nq
    have s2e := s2c.trans s13
    walk_at "sx"
    refine ⟨y, n2, ns2, rfl, Ry.same s2e, N2, by omega, fun q2 k2 H14 s14 hq nq eq => ?_⟩
    walk_at "sx"
    refine ⟨_, _, rfl, .inr ⟨_, SqT.of hq, rfl⟩, ?_⟩
    rw [List.length_map, cnt_of (b := true) (by omega) eq]
    clear hq nq
    have s2f := s2e.trans s14
    walk_at "sx"
    rw [show (!decide (((cntB true n1 ns1 * cntB true n2 ns2 : Nat) : Int) = (cntB true n1 ns1 : Int) * (cntB true n2 ns2 : Int))) = false by rw [Int.natCast_mul]; simp]
    have s0f := s12.trans s2f
    have g1 : H14 o1 = some (.lst [.int n1, .ref l1]) := s0f _ _ h1
    walk_at "sx"
    refine ⟨x, l1, n1, ns1, rfl, Rx.same s2f, Lo.same s0f, fun H15 s15 => ?_⟩
    have g2 : H15 o2 = some (.lst [.int n2, .ref l2]) := s15 _ _ (s0f _ _ h2)
    walk_at "sx"
    refine ⟨y, l2, n2, ns2, rfl, Ry.same (s2f.trans s15), Lt.same (s0f.trans s15), fun H16 s16 => ?_⟩
    walk_at "sx"
    exact k _ (s0f.trans (s15.trans s16))
end
end K15

set_option Elab.async false
set_option linter.all false
set_option maxRecDepth 100000
set_option maxHeartbeats 4000000
namespace K15
open PySem L2 Sx
local macro_rules | `(tactic| walk_at "cond") => `(tactic| first
  | assumption
  | decide
  | exact c_mul_r (by first | decide | omega) (by first | decide | omega)
  | exact c_mul_l (by first | decide | omega) (by first | decide | omega)
  | exact c_div (by first | decide | omega) (by first | decide | omega)
  | exact c_pow (by first | decide | omega) (by first | decide | omega) (by first | decide | omega)
  | omega)
local macro_rules | `(tactic| walk_at "ne") => `(tactic| first
  | assumption
  | (refine Ne.symm ?_; assumption)
  | (refine' Flow.ne ?nh ?nn; (case nn => assumption); (case nh => walk_at "fl"))
  | (refine Ne.symm ?_; refine' Flow.ne ?nh ?nn; (case nn => assumption); (case nh => walk_at "fl"))
  | (refine' ne_of_none ?nh ?nn; (case nn => assumption); (case nh => walk_at "at"))
  | (refine Ne.symm ?_; refine' ne_of_none ?nh ?nn; (case nn => assumption); (case nh => walk_at "at")))
local macro_rules | `(tactic| walk_at "at") => `(tactic| first
  | assumption
  | (refine Same.up (by assumption) ?_; walk_at "at")
  | (refine Keep.up (by assumption) (by walk_at "ne") ?_; walk_at "at"))
local macro_rules | `(tactic| walk_at "fl") => `(tactic| first
  | assumption
  | (refine Flow.same (by assumption) ?_; walk_at "fl")
  | (refine Flow.keep (by assumption) (by walk_at "ne") ?_; walk_at "fl"))
local macro_rules | `(tactic| walk_at "fr") => `(tactic| first
  | assumption
  | (refine same_free (by assumption) ?_; walk_at "fr")
  | (refine Keep.free (by assumption) (by walk_at "ne") ?_; walk_at "fr"))
local macro_rules | `(tactic| walk_at "kp") => `(tactic| first
  | assumption
  | exact Keep.refl _ _
  | (refine Keep.trans ?_ (by assumption); walk_at "kp")
  | (refine Keep.trans ?_ (Keep.same (by assumption)); walk_at "kp"))
local macro_rules | `(tactic| walk_at "sm") => `(tactic| first
  | assumption
  | exact L2.Same.refl _
  | (refine L2.Same.trans ?_ (by assumption); walk_at "sm"))
local macro_rules | `(tactic| walk_at "sz") => `(tactic| first | exact Nat.le_of_ble_eq_true rfl | omega)
local macro_rules | `(tactic| walk_at "new") => `(tactic| (intro p np; generalize hE : upd _ p _ = H2; have s2 := new_same np hE; have h2 := new_at hE; clear hE))
local macro_rules | `(tactic| walk_at "newx") => `(tactic| (intro e d na nd hda; generalize hE : upd (upd _ d _) e _ = H2; have s2 := newx_same na nd hE; have h2 := newx_at hE; have h3 := newx_d hda hE; clear hE))
local macro_rules | `(tactic| walk_at "s1") => `(tactic| first
  | with_reducible refine s_seq ?_
  | with_reducible refine s_asg ?_
  | with_reducible refine s_name ?_
  | with_reducible refine s_ret ?_
  | with_reducible refine s_c ?_
  | ((with_reducible refine' s_var ?hv ?_); (case hv => rfl))
  | with_reducible refine s_op ?_
  | with_reducible refine s_un ?_
  | with_reducible refine s_ifS ?_
  | with_reducible refine s_cb ?_
  | with_reducible refine s_cons ?_
  | with_reducible refine s_nil ?_
  | with_reducible refine s_call ?_
  | with_reducible refine s_test ?_
  | with_reducible refine s_tB ?_
  | with_reducible refine s_bl ?_
  | with_reducible refine s_and ?_
  | with_reducible refine s_or ?_
  | with_reducible refine s_not ?_
  | with_reducible refine s_andV ?_
  | with_reducible refine s_orV ?_
  | with_reducible refine s_notV ?_
  | with_reducible refine s_blV ?_
  | with_reducible refine s_if ?_
  | with_reducible refine s_tup ?_
  | with_reducible refine s_lst ?_
  | with_reducible refine s_drop ?_
  | with_reducible refine s_next ?_
  | with_reducible refine s_sub ?_
  | with_reducible refine s_bm ?_
  | with_reducible refine s_callK ?_
  | with_reducible refine s_brk ?_
  | with_reducible refine s_cont ?_
  | with_reducible refine r_I0 ?_
  | with_reducible refine r_U ?_
  | with_reducible refine r_eqI ?_
  | with_reducible refine r_neI ?_
  | with_reducible refine r_isB ?_
  | with_reducible refine r_notB ?_
  | with_reducible refine i_t ?_
  | with_reducible refine i_f ?_
  | with_reducible refine i_nt ?_
  | with_reducible refine i_nf ?_
  | ((with_reducible refine' r_I ?hc ?_); (case hc => walk_at "cond"))
  | (with_reducible refine .inl ⟨_, rfl, ?_⟩)
  | (with_reducible refine ⟨_, rfl, ?_⟩)
  | ((with_reducible refine' r_ixL ?hx ?ha ?_); (case hx => walk_at "at"); (case ha => rfl))
  | ((with_reducible refine' r_ixT ?hx ?ha ?_); (case hx => walk_at "at"); (case ha => rfl))
  | ((with_reducible refine' r_setL ?hx ?ha ?_); (case hx => walk_at "at"); (case ha => rfl); intro H2 k2 h2; (try dsimp only [List.set, Int.toNat] at h2))
  | ((with_reducible refine' r_app ?hx ?hl ?_); (case hx => walk_at "at"); (case hl => first | exact Nat.lt_of_ble_eq_true rfl | omega); intro H2 k2 h2)
  | ((with_reducible refine' ty_list ?hx ?_); (case hx => walk_at "at"))
  | (refine And.intro (by (with_reducible show _ ≤ sizeLine); walk_at "sz") ?_; walk_at "new")
  | with_reducible refine s_exv ?_
  | walk_at "newx")
local macro_rules | `(tactic| walk_at "sx") => `(tactic| repeat (walk_at "s1"))
local macro_rules | `(tactic| walk_at "s2") => `(tactic| first
  | ((with_reducible refine' r_ixG ?hx ?hn ?_); (case hx => walk_at "at"); (case hn => omega))
  | ((with_reducible refine' r_ixGT ?hx ?hn ?_); (case hx => walk_at "at"); (case hn => omega))
  | (with_reducible refine ig_cons (fun hix => ?_) (fun hix => ?_))
  | ((with_reducible refine ig_nil ?_); omega)
  | ((with_reducible refine' i_T ?hc ?_); (case hc => omega))
  | ((with_reducible refine' i_F ?hc ?_); (case hc => omega))
  | (with_reducible refine i_2 (fun hc => ?_) (fun hc => ?_))
  | (with_reducible refine i_n2 (fun hc => ?_) (fun hc => ?_)))
local macro_rules | `(tactic| walk_at "go") => `(tactic| repeat' (first | walk_at "s1" | walk_at "s2"))

local macro_rules | `(tactic| walk_at "s1") => `(tactic| first
  | with_reducible refine s_chain ?_
  | with_reducible refine s_fldS ?_
  | with_reducible refine s_fld ?_
  | with_reducible refine s_dIn ?_
  | with_reducible refine s_dNotIn ?_
  | with_reducible refine s_sl ?_
  | with_reducible refine s_noPart ?_
  | with_reducible refine s_part ?_
  | with_reducible refine s_meth ?_
  | with_reducible refine s_make ?_)

section
variable {P : Program} {w : World} {K : PySem.W.Frag} {mg : Str → Option Value} {base : Heap} {A : Ad}
/-- the places of what is true, among the first i -/
def trues (bs : List Bool) (i : Nat) : List Nat := (List.range i).filter fun k => bs[k]? == some true
theorem trues_succ (bs : List Bool) (i : Nat) : trues bs (i + 1) = trues bs i ++ (if bs[i]? == some true then [i] else []) := by
  unfold trues
  rw [List.range_succ, List.filter_append, List.filter_cons, List.filter_nil]
theorem trues_le (bs : List Bool) (i : Nat) : (trues bs i).length ≤ i := by
  have := List.length_filter_le (fun k => bs[k]? == some true) (List.range i)
  rw [List.length_range] at this
  exact this
theorem trues_lt {bs : List Bool} {i x : Nat} (h : x ∈ trues bs i) : x < i := List.mem_range.mp (List.mem_filter.mp h).1
theorem trues_asc (bs : List Bool) (i : Nat) : (trues bs i).Pairwise (· < ·) := List.Pairwise.filter _ List.pairwise_lt_range
theorem trues_len (bs : List Bool) : ∀ i, (trues bs i).length = (bs.take i).count true
  | 0 => rfl
  | i + 1 => by
    rw [trues_succ, List.length_append, trues_len bs i, List.take_succ, List.count_append]
    cases h : bs[i]? with
    | none => simp
    | some b => cases b <;> simp
theorem count_set : ∀ (bs : List Bool) (e : Nat), (bs.set e true).count true ≤ bs.count true + 1
  | [], _ => by simp
  | b :: bs, 0 => by
    rw [List.set_cons_zero, List.count_cons, List.count_cons]
    simp
  | b :: bs, e + 1 => by
    rw [List.set_cons_succ, List.count_cons, List.count_cons]
    have := count_set bs e
    omega
theorem ix_in {n j : Nat} (h : j < n) : ixN n (j : Int) = some j := by
  unfold ixN
  rw [if_pos (Int.natCast_nonneg j), if_pos (by omega), Int.toNat_natCast]
theorem keep_new {a D : Addr} {H H8 H9 : Hp} (k : Keep a H H8) (n : H D = none) (k9 : Keep D H8 H9) : Keep a H H9 := fun b o hb h => k9 b o (ne_of_none h n) (k b o hb h)
/-- one bool more in the list at D -/
theorem bools_step {a D : Addr} {H H' H2 : Hp} {bs : List Bool} {b : Bool} {i : Nat} (hDa : a ≠ D) (hD : H D = none) (hD' : H' D = some (.lst (bs.map V.bl))) (F : Flow H2 a) (K' : Keep a H H') (K2 : Keep a H' H2) (lb : bs.length = i) (sz : i < 1000) :
    ∃ acc, H2 D = some (.lst acc) ∧ acc.length < sizeLine ∧ Flow (upd H2 D (.lst (acc ++ [V.bl b]))) a ∧ Keep a H (upd H2 D (.lst (acc ++ [V.bl b]))) ∧ ∃ bs' : List Bool, upd H2 D (.lst (acc ++ [V.bl b])) D = some (.lst (bs'.map V.bl)) ∧ bs'.length = i + 1 := by
  refine ⟨_, K2 _ _ hDa.symm hD', ?_, F.keep (put_keep rfl) hDa, keep_new (K'.trans K2) hD (put_keep rfl), bs ++ [b], ?_, ?_⟩
  · rw [List.length_map, lb]
    show i < 16777216
    omega
  · rw [upd_same, List.map_append]
    rfl
  · rw [List.length_append, lb]
    rfl
theorem s_seqP {s rest : TS} {D : L2.Ends} {σ : L2.St} {H : Hp} (P : L2.St → Hp → Prop) (h1 : ∀ X : L2.St → Hp → Prop, (∀ σ' H', P σ' H' → X σ' H') → s { D with nx := X } σ H) (h2 : ∀ σ' H', P σ' H' → rest D σ' H') : tSeq s rest D σ H := h1 (rest D) h2
def spOnes : Sp := fun vs H Q _ => ∃ k : Nat, vs = [.int k] ∧ ∀ z, Q (.int z) H
theorem ok_ones (T : Txt P K mg A) : FnOk P w K mg base CX0 1 A.a__law_ones A.d__law_ones ["number"] spOnes := by
  refine T.F__law_ones.ok sc__law_ones (fun vs H Q E h => ?_) (fun cdv A' outer s H vs Q E hr h => ?_)
  · obtain ⟨k, rfl, _⟩ := h
    rfl
  · obtain ⟨k, rfl, q⟩ := h
    refine ⟨_, (pss_cons (ps_set (i := 1) sc__law_ones.nd rfl (Or.inl rfl) pe_int)
  (pss_cons (ps_for PassesOwn.never rfl (pi_range1 rfl T.n_range (pa_cons pe_int pa_nil)) (pg_name (i := 2) sc__law_ones.nd rfl (Or.inl rfl))
  (pss_cons (ps_set (i := 1) sc__law_ones.nd rfl (Or.inl rfl) (pe_op op_add (pv 1) (pe_op op_mod (pe_callTy call_int1 (by rfl) T.n_int (by decide +kernel) (pa_cons (pv 0) pa_nil)) pe_int)))
  (pss_one (ps_set (i := 0) sc__law_ones.nd rfl (Or.inl rfl) (pe_op op_fdiv (pv 0) pe_int)))))
  (pss_one (ps_ret (pv 1))))), ?_⟩
    walk_at "sx"
    refine ⟨_, rfl, by decide, by decide, for_range (lo := 0) (n := 6) (fun i σ H' => H' = H ∧ ∃ (a b : Int) (v2 : Option V), σ = [some (.int a), some (.int b), v2]) ⟨rfl, _, _, none, rfl⟩ ?_ ?_⟩
    · rintro i σ H' hi ⟨rfl, a, b, v2, rfl⟩
      walk_at "sx"
      exact ⟨rfl, _, _, _, rfl⟩
    · rintro σ H' ⟨rfl, a, b, v2, rfl⟩
      walk_at "sx"
      exact q b
def spListed : Sp := fun vs H Q _ => ∃ (a : Addr) (n : Nat), vs = [.ref a, .int n] ∧ Flow H a ∧ n ≤ 5 ∧ ∀ (q l : Addr) (ns : List Nat) (ks : List (Addr × List Int)) H', H q = none → Flow H' a → Keep a H H' → H' q = some (.lst [.int n, .ref l]) → H' l = some (.lst (ks.map rf)) → RowsAt H' n ks → ks.map (·.2) = ns.map (bitsOf n) → Nums n ns → Q (.ref q) H'
theorem ok_listed (T : Txt P K mg A) : FnOk P w K mg base CX0 2 A.a__law_listed A.d__law_listed ["flow", "size"] spListed := by
  refine T.F__law_listed.ok sc__law_listed (fun vs H Q E h => ?_) (fun cdv A' outer s H vs Q E hr h => ?_)
  · obtain ⟨a, n, rfl, _⟩ := h
    rfl
  · obtain ⟨a, n, rfl, hF, sn, k⟩ := h
    have G__law_take := ok_take (w := w) (base := base) T
    have G__law_full := ok_full (w := w) (base := base) T
    have G__law_ones := ok_ones (w := w) (base := base) T
    have G__law_row := ok_rowOf (w := w) (base := base) T
    refine ⟨_, (pss_cons (ps_set (i := 2) sc__law_listed.nd rfl (Or.inl rfl) (pe_call G__law_full (hr.mono (by decide)) rfl T.g__law_full T.F__law_full.kp (B__law_full T) .nil pass0 (pa_cons (pv 1) pa_nil)))
  (pss_cons (ps_set (i := 3) sc__law_listed.nd rfl (Or.inl rfl) (pe_call G__law_take (hr.mono (by decide)) rfl T.g__law_take T.F__law_take.kp (B__law_take T) .nil pass0 (pa_cons (pv 0) (pa_cons pe_int pa_nil))))
  (pss_cons (ps_if (pt_cmpR op_eq (pv 1) pe_int (nomark _)) (pss_cons (ps_set (i := 5) sc__law_listed.nd rfl (Or.inr rfl) (pe_lc (own := [("k", 4)]) (g := (gName 4)) (by rfl) sc__law_listed.nd (pi_range1 rfl T.n_range (pa_cons (pv 2) pa_nil)) (blkOk_by (own := [("k", 4)]) (N := ["flow", "size", "full", "shape", "k", "kept", "odd", "one", "other", "numbers", "number"]) (sc := defScope s__law_listed) (by decide +kernel)) (fun _ _ _ _ _ => (pg_name (i := 4) sc__law_listed.nd rfl (Or.inl rfl))) (fun _ _ _ _ _ => pts_nil) (fun _ _ _ _ _ => pe_bl)))
  (pss_one (ps_for PassesOwn.never rfl (pi_range1 rfl T.n_range (pa_cons (pe_op op_add pe_int (pe_call G__law_take (hr.mono (by decide)) rfl T.g__law_take T.F__law_take.kp (B__law_take T) .nil pass0 (pa_cons (pv 0) (pa_cons pe_int pa_nil)))) pa_nil)) (pg_name (i := 4) sc__law_listed.nd rfl (Or.inl rfl))
  (pss_one (ps_asg pe_bl (pg_sub (pv 5) (pe_call G__law_take (hr.mono (by decide)) rfl T.g__law_take T.F__law_take.kp (B__law_take T) .nil pass0 (pa_cons (pv 0) (pa_cons (pv 2) pa_nil))) set_list)))))) (pss_one (ps_if (pt_cmpR op_eq (pv 3) pe_int (nomark _)) (pss_one (ps_set (i := 5) sc__law_listed.nd rfl (Or.inr rfl) (pe_lc (own := [("k", 4)]) (g := (gName 4)) (by rfl) sc__law_listed.nd (pi_range1 rfl T.n_range (pa_cons (pv 2) pa_nil)) (blkOk_by (own := [("k", 4)]) (N := ["flow", "size", "full", "shape", "k", "kept", "odd", "one", "other", "numbers", "number"]) (sc := defScope s__law_listed) (by decide +kernel)) (fun _ _ _ _ _ => (pg_name (i := 4) sc__law_listed.nd rfl (Or.inl rfl))) (fun _ _ _ _ _ => pts_nil) (fun _ _ _ _ _ => pe_bl)))) (pss_one (ps_if (pt_cmpR op_eq (pv 3) pe_int (nomark _)) (pss_cons (ps_set (i := 6) sc__law_listed.nd rfl (Or.inr rfl) (pe_call G__law_take (hr.mono (by decide)) rfl T.g__law_take T.F__law_take.kp (B__law_take T) .nil pass0 (pa_cons (pv 0) (pa_cons pe_int pa_nil))))
  (pss_one (ps_set (i := 5) sc__law_listed.nd rfl (Or.inr rfl) (pe_lc (own := [("k", 4)]) (g := (gName 4)) (by rfl) sc__law_listed.nd (pi_range1 rfl T.n_range (pa_cons (pv 2) pa_nil)) (blkOk_by (own := [("k", 4)]) (N := ["flow", "size", "full", "shape", "k", "kept", "odd", "one", "other", "numbers", "number"]) (sc := defScope s__law_listed) (by decide +kernel)) (fun _ _ _ _ _ => (pg_name (i := 4) sc__law_listed.nd rfl (Or.inl rfl))) (fun _ _ _ _ _ => pts_nil) (fun _ _ _ _ _ => (pe_cmpR op_eq (pe_op op_mod (pe_callTy call_int1 (by rfl) T.n_int (by decide +kernel) (pa_cons (pe_op op_add (pe_call G__law_ones (hr.mono (by decide)) rfl T.g__law_ones T.F__law_ones.kp (B__law_ones T) .nil pass0 (pa_cons (pv 4) pa_nil)) (pv 6)) pa_nil)) pe_int) pe_int (nomark _))))))) (pss_one (ps_if (pt_cmpR op_eq (pv 3) pe_int (nomark _)) (pss_cons (ps_set (i := 7) sc__law_listed.nd rfl (Or.inr rfl) (pe_call G__law_take (hr.mono (by decide)) rfl T.g__law_take T.F__law_take.kp (B__law_take T) .nil pass0 (pa_cons (pv 0) (pa_cons (pv 2) pa_nil))))
  (pss_cons (ps_set (i := 8) sc__law_listed.nd rfl (Or.inr rfl) (pe_call G__law_take (hr.mono (by decide)) rfl T.g__law_take T.F__law_take.kp (B__law_take T) .nil pass0 (pa_cons (pv 0) (pa_cons (pv 2) pa_nil))))
  (pss_one (ps_set (i := 5) sc__law_listed.nd rfl (Or.inr rfl) (pe_lc (own := [("k", 4)]) (g := (gName 4)) (by rfl) sc__law_listed.nd (pi_range1 rfl T.n_range (pa_cons (pv 2) pa_nil)) (blkOk_by (own := [("k", 4)]) (N := ["flow", "size", "full", "shape", "k", "kept", "odd", "one", "other", "numbers", "number"]) (sc := defScope s__law_listed) (by decide +kernel)) (fun _ _ _ _ _ => (pg_name (i := 4) sc__law_listed.nd rfl (Or.inl rfl))) (fun _ _ _ _ _ => pts_nil) (fun _ _ _ _ _ => (pe_or (pe_cmpR op_eq (pe_op op_and (pv 4) (pv 7)) (pv 4) (nomark _)) (pe_one (pe_cmpR op_eq (pe_op op_and (pv 4) (pv 8)) (pv 4) (nomark _)))))))))) (pss_one (ps_if (pt_cmpR op_eq (pv 3) pe_int (nomark _)) (pss_one (ps_set (i := 5) sc__law_listed.nd rfl (Or.inr rfl) (pe_lc (own := [("k", 4)]) (g := (gName 4)) (by rfl) sc__law_listed.nd (pi_range1 rfl T.n_range (pa_cons (pv 2) pa_nil)) (blkOk_by (own := [("k", 4)]) (N := ["flow", "size", "full", "shape", "k", "kept", "odd", "one", "other", "numbers", "number"]) (sc := defScope s__law_listed) (by decide +kernel)) (fun _ _ _ _ _ => (pg_name (i := 4) sc__law_listed.nd rfl (Or.inl rfl))) (fun _ _ _ _ _ => pts_nil) (fun _ _ _ _ _ => pe_bl)))) (pss_one (ps_set (i := 5) sc__law_listed.nd rfl (Or.inr rfl) (pe_lc (own := [("k", 4)]) (g := (gName 4)) (by rfl) sc__law_listed.nd (pi_range1 rfl T.n_range (pa_cons (pv 2) pa_nil)) (blkOk_by (own := [("k", 4)]) (N := ["flow", "size", "full", "shape", "k", "kept", "odd", "one", "other", "numbers", "number"]) (sc := defScope s__law_listed) (by decide +kernel)) (fun _ _ _ _ _ => (pg_name (i := 4) sc__law_listed.nd rfl (Or.inl rfl))) (fun _ _ _ _ _ => pts_nil) (fun _ _ _ _ _ => (pe_cmpR op_eq (pe_call G__law_take (hr.mono (by decide)) rfl T.g__law_take T.F__law_take.kp (B__law_take T) .nil pass0 (pa_cons (pv 0) (pa_cons pe_int pa_nil))) pe_int (nomark _)))))))))))))))
  (pss_cons (ps_setLc (i := 9) (own := [("k", 4)]) (g := (gName 4)) (by rfl) sc__law_listed.nd rfl rfl (sw_true rfl rfl rfl (by decide +kernel)) (pi_range1 rfl T.n_range (pa_cons (pv 2) pa_nil)) (blkOk_by (own := [("k", 4)]) (N := ["flow", "size", "full", "shape", "k", "kept", "odd", "one", "other", "numbers", "number"]) (sc := defScope s__law_listed) (by decide +kernel)) (fun _ _ _ _ _ => (pg_name (i := 4) sc__law_listed.nd rfl (Or.inl rfl))) (fun _ _ _ _ _ => pts_one (pt_val (pe_ix (r := rIx K) ix_seq (pv 5) (pv 4) (fun _ _ => rfl)))) (fun _ _ _ _ _ => (pv 4)))
  (pss_cons (ps_if (pt_cmpR op_eq (pe_callB call_len (by rfl) T.n_len (by decide +kernel) (pa_cons (pv 9) pa_nil)) pe_int (nomark _)) (pss_one (ps_set (i := 9) sc__law_listed.nd rfl (Or.inl rfl) (pe_lst (pa_cons (pe_call G__law_take (hr.mono (by decide)) rfl T.g__law_take T.F__law_take.kp (B__law_take T) .nil pass0 (pa_cons (pv 0) (pa_cons (pv 2) pa_nil))) pa_nil)))) pss_nil)
  (pss_one (ps_ret (pe_lst (pa_cons (pv 1) (pa_cons (pe_lc (own := [("number", 10)]) (g := (gName 10)) (by rfl) sc__law_listed.nd (pi_list (pv 9)) (blkOk_by (own := [("number", 10)]) (N := ["flow", "size", "full", "shape", "k", "kept", "odd", "one", "other", "numbers", "number"]) (sc := defScope s__law_listed) (by decide +kernel)) (fun _ _ _ _ _ => (pg_name (i := 10) sc__law_listed.nd rfl (Or.inl rfl))) (fun _ _ _ _ _ => pts_nil) (fun _ _ _ _ _ => (pe_call G__law_row (hr.mono (by decide)) rfl T.g__law_row T.F__law_row.kp (B__law_row T) .nil pass0 (pa_cons (pv 10) (pa_cons (pv 1) pa_nil))))) pa_nil)))))))))), ?_⟩
    walk_at "sx"
    refine ⟨n, rfl, sn, fun H1 s1 => ?_⟩
    walk_at "sx"
    refine c_take (hF.same s1) (by decide) (by decide) (fun d1 H5 l1 u1 F5 K5' => ?_)
    have K5 : Keep a H H5 := (Keep.same s1).trans K5'
    obtain ⟨pp, epp⟩ : ∃ pp, pp = 2 ^ n := ⟨_, rfl⟩
    have p8 : pp ≤ 32 := by
      rw [epp]
      exact Nat.pow_le_pow_right (n := 2) (by decide) sn
    have p6 : ¬ (n : Int) = 5 → pp ≤ 64 := fun c => by omega
    have p1 : 0 < pp := by
      rw [epp]
      exact Nat.pow_pos (by decide)
    rw [← epp]
    walk_at "s1"
    dsimp only
    refine s_seqP (fun σ' H' => Flow H' a ∧ Keep a H H' ∧ ∃ (D : Addr) (bs : List Bool) (v4 v6 v7 v8 v9 : Option V), a ≠ D ∧ H D = none ∧ (True → H' D = some (.lst (bs.map V.bl))) ∧ bs.length = pp ∧ bs.count true ≤ 64 ∧
      σ' = [some (.ref a), some (.int n), some (.int pp), some (.int d1), v4, some (.ref D), v6, v7, v8, v9, none]) (fun X hX => ?_) ?_
    · walk_at "sx"
      refine i_2 (fun c1 => ?_) (fun c1 => ?_)
      · walk_at "sx"
        refine ⟨_, rfl, _, rfl, by omega, by omega, fun D hD => lc_range (lo := 0) (n := pp) (fun i H' => Same H5 H' ∧ H' D = some (.lst ((List.replicate i false).map V.bl))) ⟨Same.new hD, upd_same⟩ ?_ ?_⟩
        · rintro i H' hi ⟨s', hD'⟩
          refine s_name ⟨rfl, ?_⟩
          refine s_yes (i_t ?_)
          refine s_c ⟨_, hD', ?_, Sx.Same.put s' hD, ?_⟩
          · rw [List.length_map, List.length_replicate]
            show i < 16777216
            omega
          · rw [upd_same, List.replicate_succ', List.map_append]
            rfl
        · rintro H' ⟨s', hD'⟩
          have hDa : a ≠ D := (F5.ne hD)
          refine s_name ?_
          unfold tFor iRng1
          walk_at "sx"
          
          refine c_take (F5.same s') (by omega) (by omega) (fun d6 H6 l6 u6 F6 K6 => ?_)
          obtain ⟨c, rfl⟩ := Int.eq_ofNat_of_zero_le l6
          walk_at "sx"
          refine ⟨by omega, by omega, for_range (lo := 0) (n := 1 + c) (fun i σ H7 => Flow H7 a ∧ Keep a H H7 ∧ (∃ bs : List Bool, (True → H7 D = some (.lst (bs.map V.bl))) ∧ bs.length = pp ∧ bs.count true ≤ i) ∧ ∃ v4, σ = [some (.ref a), some (.int n), some (.int pp), some (.int d1), v4, some (.ref D), none, none, none, none, none]) ?_ ?_ ?_⟩
          · exact ⟨F6, K5.trans ((Keep.same s').trans K6), ⟨_, fun _ => K6 _ _ hDa.symm hD', List.length_replicate, by rw [List.count_replicate]; simp⟩, none, rfl⟩
          · rintro i σ H7 hi ⟨F7, K7, ⟨bs, hb, lb, cb⟩, v4, rfl⟩
            walk_at "sx"
            refine c_take F7 (by omega) (by omega) (fun d8 H8 l8 u8 F8 K8 => ?_)
            obtain ⟨e, rfl⟩ := Int.eq_ofNat_of_zero_le l8
            have h8 := K8 _ _ hDa.symm (hb trivial)
            have he : e < bs.length := by omega
            refine r_setL h8 (ix_in (by rw [List.length_map]; exact he)) (fun H9 k9 h9 => ?_)
            exact ⟨F8.keep k9 hDa, keep_new (K7.trans K8) (Keep.free K5 hDa.symm hD) k9, ⟨bs.set e true, fun _ => by rw [h9, List.map_set], by rw [List.length_set]; exact lb, Nat.le_trans (count_set bs e) (by omega)⟩, _, rfl⟩
          · rintro σ H7 ⟨F7, K7, ⟨bs, hb, lb, cb⟩, v4, rfl⟩
            exact hX _ _ ⟨F7, K7, D, bs, _, _, _, _, _, hDa, Keep.free K5 hDa.symm hD, hb, lb, by omega, rfl⟩
      · have pp6 := p6 c1
        have few : ∀ bs : List Bool, bs.length = pp → bs.count true ≤ 64 := fun bs lb => by
          have := List.count_le_length (a := true) (l := bs)
          omega
        walk_at "sx"
        refine i_2 (fun c2 => ?_) (fun c2 => ?_)
        · walk_at "sx"
          refine ⟨_, rfl, _, rfl, by omega, by omega, fun D hD => lc_range (lo := 0) (n := pp) (fun i H' => Flow H' a ∧ Keep a H H' ∧ ∃ bs : List Bool, H' D = some (.lst (bs.map V.bl)) ∧ bs.length = i) ?_ ?_ ?_⟩
          · exact ⟨F5.same (Same.new hD), (K5).trans (Keep.same (Same.new hD)), [], upd_same, rfl⟩
          · rintro i H' hi ⟨F', K', bs, hD', lb⟩
            have hDa : a ≠ D := F5.ne hD
            have hD0 : H D = none := Keep.free (K5) hDa.symm hD
            refine s_name ⟨rfl, ?_⟩
            refine s_yes (i_t ?_)
            walk_at "sx"
            exact bools_step hDa hD0 hD' F' K' (Keep.refl a H') lb (by omega)
          · rintro H' ⟨F', K', bs, hD', lb⟩
            have hDa : a ≠ D := F5.ne hD
            refine s_name ?_
            walk_at "sx"
            exact hX _ _ ⟨F', K', D, bs, _, _, _, _, _, hDa, Keep.free (K5) hDa.symm hD, fun _ => hD', lb, few bs lb, rfl⟩
        · walk_at "sx"
          refine i_2 (fun c3 => ?_) (fun c3 => ?_)
          · walk_at "sx"
            refine c_take F5 (by omega) (by omega) (fun d6 H6 l6 u6 F6 K6 => ?_)
            walk_at "sx"
            refine ⟨_, rfl, _, rfl, by omega, by omega, fun D hD => lc_range (lo := 0) (n := pp) (fun i H' => Flow H' a ∧ Keep a H H' ∧ ∃ bs : List Bool, H' D = some (.lst (bs.map V.bl)) ∧ bs.length = i) ?_ ?_ ?_⟩
            · exact ⟨F6.same (Same.new hD), (K5.trans K6).trans (Keep.same (Same.new hD)), [], upd_same, rfl⟩
            · rintro i H' hi ⟨F', K', bs, hD', lb⟩
              have hDa : a ≠ D := F6.ne hD
              have hD0 : H D = none := Keep.free (K5.trans K6) hDa.symm hD
              refine s_name ⟨rfl, ?_⟩
              refine s_yes (i_t ?_)
              walk_at "sx"
              refine ⟨_, rfl, fun z3 => ?_⟩
              walk_at "sx"
              exact bools_step hDa hD0 hD' F' K' (Keep.refl a H') lb (by omega)
            · rintro H' ⟨F', K', bs, hD', lb⟩
              have hDa : a ≠ D := F6.ne hD
              refine s_name ?_
              walk_at "sx"
              exact hX _ _ ⟨F', K', D, bs, _, _, _, _, _, hDa, Keep.free (K5.trans K6) hDa.symm hD, fun _ => hD', lb, few bs lb, rfl⟩
          · walk_at "sx"
            refine i_2 (fun c4 => ?_) (fun c4 => ?_)
            · walk_at "sx"
              refine c_take F5 (by omega) (by omega) (fun d6 H6 l6 u6 F6 K6 => ?_)
              walk_at "sx"
              refine c_take F6 (by omega) (by omega) (fun d7 H7 l7 u7 F7 K7 => ?_)
              walk_at "sx"
              refine ⟨_, rfl, _, rfl, by omega, by omega, fun D hD => lc_range (lo := 0) (n := pp) (fun i H' => Flow H' a ∧ Keep a H H' ∧ ∃ bs : List Bool, H' D = some (.lst (bs.map V.bl)) ∧ bs.length = i) ?_ ?_ ?_⟩
              · exact ⟨F7.same (Same.new hD), (K5.trans (K6.trans K7)).trans (Keep.same (Same.new hD)), [], upd_same, rfl⟩
              · rintro i H' hi ⟨F', K', bs, hD', lb⟩
                have hDa : a ≠ D := F7.ne hD
                have hD0 : H D = none := Keep.free (K5.trans (K6.trans K7)) hDa.symm hD
                refine s_name ⟨rfl, ?_⟩
                refine s_yes (i_t ?_)
                walk_at "sx"
                refine i_2 (fun b1 => ?_) (fun b1 => ?_)
                · walk_at "sx"
                  exact bools_step hDa hD0 hD' F' K' (Keep.refl a H') lb (by omega)
                · walk_at "sx"
                  exact bools_step hDa hD0 hD' F' K' (Keep.refl a H') lb (by omega)
              · rintro H' ⟨F', K', bs, hD', lb⟩
                have hDa : a ≠ D := F7.ne hD
                refine s_name ?_
                walk_at "sx"
                exact hX _ _ ⟨F', K', D, bs, _, _, _, _, _, hDa, Keep.free (K5.trans (K6.trans K7)) hDa.symm hD, fun _ => hD', lb, few bs lb, rfl⟩
            · walk_at "sx"
              refine i_2 (fun c5 => ?_) (fun c5 => ?_)
              · walk_at "sx"
                refine ⟨_, rfl, _, rfl, by omega, by omega, fun D hD => lc_range (lo := 0) (n := pp) (fun i H' => Flow H' a ∧ Keep a H H' ∧ ∃ bs : List Bool, H' D = some (.lst (bs.map V.bl)) ∧ bs.length = i) ?_ ?_ ?_⟩
                · exact ⟨F5.same (Same.new hD), (K5).trans (Keep.same (Same.new hD)), [], upd_same, rfl⟩
                · rintro i H' hi ⟨F', K', bs, hD', lb⟩
                  have hDa : a ≠ D := F5.ne hD
                  have hD0 : H D = none := Keep.free (K5) hDa.symm hD
                  refine s_name ⟨rfl, ?_⟩
                  refine s_yes (i_t ?_)
                  walk_at "sx"
                  exact bools_step hDa hD0 hD' F' K' (Keep.refl a H') lb (by omega)
                · rintro H' ⟨F', K', bs, hD', lb⟩
                  have hDa : a ≠ D := F5.ne hD
                  refine s_name ?_
                  walk_at "sx"
                  exact hX _ _ ⟨F', K', D, bs, _, _, _, _, _, hDa, Keep.free (K5) hDa.symm hD, fun _ => hD', lb, few bs lb, rfl⟩
              · walk_at "sx"
                refine ⟨_, rfl, _, rfl, by omega, by omega, fun D hD => lc_range (lo := 0) (n := pp) (fun i H' => Flow H' a ∧ Keep a H H' ∧ ∃ bs : List Bool, H' D = some (.lst (bs.map V.bl)) ∧ bs.length = i) ?_ ?_ ?_⟩
                · exact ⟨F5.same (Same.new hD), (K5).trans (Keep.same (Same.new hD)), [], upd_same, rfl⟩
                · rintro i H' hi ⟨F', K', bs, hD', lb⟩
                  have hDa : a ≠ D := F5.ne hD
                  have hD0 : H D = none := Keep.free (K5) hDa.symm hD
                  refine s_name ⟨rfl, ?_⟩
                  refine s_yes (i_t ?_)
                  walk_at "sx"
                  refine c_take F' (by decide) (by decide) (fun e3 H8 l8 u8 F8 K8 => ?_)
                  walk_at "sx"
                  exact bools_step hDa hD0 hD' F8 K' K8 lb (by omega)
                · rintro H' ⟨F', K', bs, hD', lb⟩
                  have hDa : a ≠ D := F5.ne hD
                  refine s_name ?_
                  walk_at "sx"
                  exact hX _ _ ⟨F', K', D, bs, _, _, _, _, _, hDa, Keep.free (K5) hDa.symm hD, fun _ => hD', lb, few bs lb, rfl⟩
    rintro _ H6 ⟨F6, K6, pk, bs, v4, v6, v7, v8, v9, apk, npk, h6, lb, cb, rfl⟩
    walk_at "sx"
    have h6 : True → H6 pk = some (.lst (bs.map V.bl)) := h6
    refine ⟨_, rfl, _, rfl, by omega, by omega, fun D hD => lc_range (lo := 0) (n := pp) (fun i H' => Same H6 H' ∧ H' D = some (.lst ((trues bs i).map nv))) ⟨Same.new hD, upd_same⟩ ?_ ?_⟩
    · rintro i H' hi ⟨s', hD'⟩
      have hx : bs[i]? = some bs[i] := List.getElem?_eq_getElem (by omega)
      refine s_name ⟨rfl, ?_⟩
      walk_at "s1"
      walk_at "s1"
      refine s_var rfl ?_
      refine s_var rfl ?_
      refine r_ixL (s' _ _ (h6 trivial)) (v := .bl bs[i]) (by rw [Int.zero_add]; exact atI_nat (by rw [List.getElem?_map, hx]; rfl)) ?_
      refine ⟨_, rfl, ?_⟩
      refine i_b2 (fun hb => ?_) (fun hb => ?_)
      · refine s_var rfl ?_
        rw [Int.zero_add]
        refine ⟨_, hD', ?_, Sx.Same.put s' hD, ?_⟩
        · rw [List.length_map]
          have := trues_le bs i
          show (trues bs i).length < 16777216
          omega
        · rw [upd_same, trues_succ, hx, hb]
          simp
      · refine ⟨s', ?_⟩
        rw [hD', trues_succ, hx, hb]
        simp
    · rintro H' ⟨s', hD'⟩
      have F' := F6.same s'
      have K' : Keep a H H' := K6.trans (Keep.same s')
      have N0 : ∀ c : ¬ ((trues bs pp).map nv).length = 0, Nums n (trues bs pp) := fun c => ⟨trues_asc bs _, fun x hx => by rw [← epp]; exact trues_lt hx, fun e => c (by rw [e]; rfl), by
        rw [trues_len, ← lb, List.take_length]
        exact cb⟩
      walk_at "s1"
      dsimp only
      refine s_seqP (fun σ' H2 => Flow H2 a ∧ Keep a H H2 ∧ ∃ (D2 : Addr) (ns : List Nat) (v4 v6 v7 v8 : Option V), (True → H2 D2 = some (.lst (ns.map nv))) ∧ Nums n ns ∧
        σ' = [some (.ref a), some (.int n), some (.int pp), some (.int d1), v4, some (.ref pk), v6, v7, v8, some (.ref D2), none]) (fun X hX => ?_) ?_
      · walk_at "sx"
        refine ⟨_, _, rfl, .inl ⟨_, SqL.of hD', rfl⟩, ?_⟩
        walk_at "sx"
        refine i_2 (fun c => ?_) (fun c => ?_)
        · walk_at "sx"
          refine c_take F' (by omega) (by omega) (fun d H7 l7 u7 F7 K7 => ?_)
          obtain ⟨m, rfl⟩ := Int.eq_ofNat_of_zero_le l7
          walk_at "sx"
          rename_i p8' np8 H8 s8 h8
          exact hX _ _ ⟨F7.same s8, K'.trans (K7.trans (Keep.same s8)), p8', [m], _, _, _, _, fun _ => h8, ⟨List.pairwise_singleton _ _, fun x hx => by rw [List.mem_singleton.mp hx, ← epp]; omega, by simp, by simp⟩, rfl⟩
        · walk_at "sx"
          exact hX _ _ ⟨F', K', D, _, _, _, _, _, fun _ => hD', N0 (by omega), rfl⟩
      rintro _ H7 ⟨F7, K7, l1, ns, v4, v6, v7, v8, hl1, N, rfl⟩
      walk_at "sx"
      refine ⟨_, rfl, l1, rfl, ⟨_, SqL.of (hl1 trivial)⟩, fun D hD => lc_list (K := K) (a := l1) (xs := ns.map nv) (fun i H' => Same H7 H' ∧ ∃ ls : List (Addr × List Int), H' D = some (.lst (ls.map rf)) ∧ RowsAt H' n ls ∧ ls.map (·.2) = (ns.take i).map (bitsOf n))
        ⟨Same.new hD, [], upd_same, rows_nil, rfl⟩ (fun i H' _ ⟨s, _⟩ => SqL.of (s _ _ (hl1 trivial))) ?_ ?_⟩
      · have few := N.few
        rintro i y H' hy ⟨s', ls, hD', rl, el⟩
        obtain ⟨m, hm, rfl⟩ : ∃ m, ns[i]? = some m ∧ nv m = y := by
          rw [List.getElem?_map] at hy
          exact Option.map_eq_some_iff.mp hy
        refine s_name ⟨rfl, ?_⟩
        refine s_yes (i_t ?_)
        walk_at "sx"
        refine ⟨m, n, rfl, by omega, fun p H2 s2 hp2 => ?_⟩
        exact rows_step hD hD' s' s2 rl hp2 (bitsOf_bits n m) (by
          have e := congrArg List.length el
          simp only [List.length_map, List.length_take] at e
          omega) (by rw [el, List.take_succ, hm]; simp)
      rintro Ha ⟨sa, lsa, hDa0, rla, ela⟩
      rw [List.length_map, List.take_length] at ela
      have hDa : True → Ha D = _ := fun _ => hDa0
      clear hDa0
      walk_at "sx"
      rename_i p9 np9 H9 s9 h9
      exact k p9 D ns lsa H9 (Keep.free (K7.trans (Keep.same sa)) ((F7.same sa).ne np9).symm np9) (F7.same (sa.trans s9)) (K7.trans (Keep.same (sa.trans s9))) h9 (s9 _ _ (hDa trivial)) (rla.same s9) ela N
end
end K15

set_option Elab.async false
set_option linter.all false
set_option maxRecDepth 100000
set_option maxHeartbeats 4000000
namespace K15
open PySem L2 Sx
local macro_rules | `(tactic| walk_at "cond") => `(tactic| first
  | assumption
  | decide
  | exact c_mul_r (by first | decide | omega) (by first | decide | omega)
  | exact c_mul_l (by first | decide | omega) (by first | decide | omega)
  | exact c_div (by first | decide | omega) (by first | decide | omega)
  | exact c_pow (by first | decide | omega) (by first | decide | omega) (by first | decide | omega)
  | omega)
local macro_rules | `(tactic| walk_at "ne") => `(tactic| first
  | assumption
  | (refine Ne.symm ?_; assumption)
  | (refine' Flow.ne ?nh ?nn; (case nn => assumption); (case nh => walk_at "fl"))
  | (refine Ne.symm ?_; refine' Flow.ne ?nh ?nn; (case nn => assumption); (case nh => walk_at "fl"))
  | (refine' ne_of_none ?nh ?nn; (case nn => assumption); (case nh => walk_at "at"))
  | (refine Ne.symm ?_; refine' ne_of_none ?nh ?nn; (case nn => assumption); (case nh => walk_at "at")))
local macro_rules | `(tactic| walk_at "at") => `(tactic| first
  | assumption
  | (refine Same.up (by assumption) ?_; walk_at "at")
  | (refine Keep.up (by assumption) (by walk_at "ne") ?_; walk_at "at"))
local macro_rules | `(tactic| walk_at "fl") => `(tactic| first
  | assumption
  | (refine Flow.same (by assumption) ?_; walk_at "fl")
  | (refine Flow.keep (by assumption) (by walk_at "ne") ?_; walk_at "fl"))
local macro_rules | `(tactic| walk_at "fr") => `(tactic| first
  | assumption
  | (refine same_free (by assumption) ?_; walk_at "fr")
  | (refine Keep.free (by assumption) (by walk_at "ne") ?_; walk_at "fr"))
local macro_rules | `(tactic| walk_at "kp") => `(tactic| first
  | assumption
  | exact Keep.refl _ _
  | (refine Keep.trans ?_ (by assumption); walk_at "kp")
  | (refine Keep.trans ?_ (Keep.same (by assumption)); walk_at "kp"))
local macro_rules | `(tactic| walk_at "sm") => `(tactic| first
  | assumption
  | exact L2.Same.refl _
  | (refine L2.Same.trans ?_ (by assumption); walk_at "sm"))
local macro_rules | `(tactic| walk_at "sz") => `(tactic| first | exact Nat.le_of_ble_eq_true rfl | omega)
local macro_rules | `(tactic| walk_at "new") => `(tactic| (intro p np; generalize hE : upd _ p _ = H2; have s2 := new_same np hE; have h2 := new_at hE; clear hE))
local macro_rules | `(tactic| walk_at "newx") => `(tactic| (intro e d na nd hda; generalize hE : upd (upd _ d _) e _ = H2; have s2 := newx_same na nd hE; have h2 := newx_at hE; have h3 := newx_d hda hE; clear hE))
local macro_rules | `(tactic| walk_at "s1") => `(tactic| first
  | with_reducible refine s_seq ?_
  | with_reducible refine s_asg ?_
  | with_reducible refine s_name ?_
  | with_reducible refine s_ret ?_
  | with_reducible refine s_c ?_
  | ((with_reducible refine' s_var ?hv ?_); (case hv => rfl))
  | with_reducible refine s_op ?_
  | with_reducible refine s_un ?_
  | with_reducible refine s_ifS ?_
  | with_reducible refine s_cb ?_
  | with_reducible refine s_cons ?_
  | with_reducible refine s_nil ?_
  | with_reducible refine s_call ?_
  | with_reducible refine s_test ?_
  | with_reducible refine s_tB ?_
  | with_reducible refine s_bl ?_
  | with_reducible refine s_and ?_
  | with_reducible refine s_or ?_
  | with_reducible refine s_not ?_
  | with_reducible refine s_andV ?_
  | with_reducible refine s_orV ?_
  | with_reducible refine s_notV ?_
  | with_reducible refine s_blV ?_
  | with_reducible refine s_if ?_
  | with_reducible refine s_tup ?_
  | with_reducible refine s_lst ?_
  | with_reducible refine s_drop ?_
  | with_reducible refine s_next ?_
  | with_reducible refine s_sub ?_
  | with_reducible refine s_bm ?_
  | with_reducible refine s_callK ?_
  | with_reducible refine s_brk ?_
  | with_reducible refine s_cont ?_
  | with_reducible refine r_I0 ?_
  | with_reducible refine r_U ?_
  | with_reducible refine r_eqI ?_
  | with_reducible refine r_neI ?_
  | with_reducible refine r_isB ?_
  | with_reducible refine r_notB ?_
  | with_reducible refine i_t ?_
  | with_reducible refine i_f ?_
  | with_reducible refine i_nt ?_
  | with_reducible refine i_nf ?_
  | ((with_reducible refine' r_I ?hc ?_); (case hc => walk_at "cond"))
  | (with_reducible refine .inl ⟨_, rfl, ?_⟩)
  | (with_reducible refine ⟨_, rfl, ?_⟩)
  | ((with_reducible refine' r_ixL ?hx ?ha ?_); (case hx => walk_at "at"); (case ha => rfl))
  | ((with_reducible refine' r_ixT ?hx ?ha ?_); (case hx => walk_at "at"); (case ha => rfl))
  | ((with_reducible refine' r_setL ?hx ?ha ?_); (case hx => walk_at "at"); (case ha => rfl); intro H2 k2 h2; (try dsimp only [List.set, Int.toNat] at h2))
  | ((with_reducible refine' r_app ?hx ?hl ?_); (case hx => walk_at "at"); (case hl => first | exact Nat.lt_of_ble_eq_true rfl | omega); intro H2 k2 h2)
  | ((with_reducible refine' ty_list ?hx ?_); (case hx => walk_at "at"))
  | (refine And.intro (by (with_reducible show _ ≤ sizeLine); walk_at "sz") ?_; walk_at "new")
  | with_reducible refine s_exv ?_
  | walk_at "newx")
local macro_rules | `(tactic| walk_at "sx") => `(tactic| repeat (walk_at "s1"))
local macro_rules | `(tactic| walk_at "s2") => `(tactic| first
  | ((with_reducible refine' r_ixG ?hx ?hn ?_); (case hx => walk_at "at"); (case hn => omega))
  | ((with_reducible refine' r_ixGT ?hx ?hn ?_); (case hx => walk_at "at"); (case hn => omega))
  | (with_reducible refine ig_cons (fun hix => ?_) (fun hix => ?_))
  | ((with_reducible refine ig_nil ?_); omega)
  | ((with_reducible refine' i_T ?hc ?_); (case hc => omega))
  | ((with_reducible refine' i_F ?hc ?_); (case hc => omega))
  | (with_reducible refine i_2 (fun hc => ?_) (fun hc => ?_))
  | (with_reducible refine i_n2 (fun hc => ?_) (fun hc => ?_)))
local macro_rules | `(tactic| walk_at "go") => `(tactic| repeat' (first | walk_at "s1" | walk_at "s2"))

local macro_rules | `(tactic| walk_at "s1") => `(tactic| first
  | with_reducible refine s_chain ?_
  | with_reducible refine s_fldS ?_
  | with_reducible refine s_fld ?_
  | with_reducible refine s_dIn ?_
  | with_reducible refine s_dNotIn ?_
  | with_reducible refine s_sl ?_
  | with_reducible refine s_noPart ?_
  | with_reducible refine s_part ?_
  | with_reducible refine s_meth ?_
  | with_reducible refine s_make ?_)

section
variable {P : Program} {w : World} {K : PySem.W.Frag} {mg : Str → Option Value} {base : Heap} {A : Ad}

theorem ixL (L : List Nat) (B : Nat) (hB : ∀ x ∈ L, x ≤ B) {d : Int} (l : 0 ≤ d) (u : d < L.length) : ∃ s : Nat, s ≤ B ∧ atI (L.map nv) d = some (.int s) := by
  obtain ⟨j, rfl⟩ := Int.eq_ofNat_of_zero_le l
  have hj : j < L.length := by omega
  exact ⟨L[j], hB _ (List.getElem_mem hj), atI_nat (by rw [List.getElem?_map, List.getElem?_eq_getElem hj]; rfl)⟩
theorem cut_mid (xs : List V) (s k : Nat) (h : s ≤ xs.length) : cutV xs (some (s : Int)) (some ((s + k : Nat) : Int)) = (xs.drop s).take k := by
  unfold cutV
  rw [HT.sIx_nat, HT.sIx_nat, Nat.min_eq_left h]
  by_cases h2 : s + k ≤ xs.length
  · rw [Nat.min_eq_left h2, show s + k - s = k by omega]
  · rw [Nat.min_eq_right (by omega), List.take_of_length_le (by rw [List.length_drop]; omega), List.take_of_length_le (by rw [List.length_drop]; omega)]
theorem nums_mid {n s : Nat} {ns : List Nat} (N : Nums n ns) (h : s < ns.length) : Nums n ((ns.drop s).take 5) := by
  refine ⟨(N.asc.drop).take, fun m hm => N.lt m (List.mem_of_mem_drop (List.mem_of_mem_take hm)), fun e => ?_, ?_⟩
  · have z := congrArg List.length e
    rw [List.length_take, List.length_drop, List.length_nil] at z
    omega
  · rw [List.length_take, List.length_drop]
    omega
def spAll (K : PySem.W.Frag) : Sp := fun vs H Q _ => ∃ (l : Addr) (ns : List Int), vs = [.ref l] ∧ SqL K H l (ns.map V.int) ∧ ∀ H', Q (.bl true) H'
theorem ok_all (T : Txt P K mg A) : FnOk P w K mg base CX0 10 A.a__law_all A.d__law_all ["script"] (spAll K) := by
  refine T.F__law_all.ok sc__law_all (fun vs H Q E h => ?_) (fun cdv A' outer s H vs Q E hr h => ?_)
  · obtain ⟨l, ns, rfl, _⟩ := h
    rfl
  · obtain ⟨l, is, rfl, hl, k⟩ := h
    have G__law_flow := ok_flow (w := w) (base := base) T
    have G__law_take := ok_take (w := w) (base := base) T
    have G__law_listed := ok_listed (w := w) (base := base) T
    have G_Rules____init__ := ok_make (w := w) (base := base) T
    have G__law_chain := ok_chain (w := w) (base := base) T
    have G__law_complement := ok_comp (w := w) (base := base) T
    have G__law_product := ok_prod (w := w) (base := base) T
    refine ⟨_, (pss_cons (ps_set (i := 1) sc__law_all.nd rfl (Or.inl rfl) (pe_call G__law_flow (hr.mono (by decide)) rfl T.g__law_flow T.F__law_flow.kp (B__law_flow T) .nil pass0 (pa_cons (pv 0) (pa_cons pe_int pa_nil))))
  (pss_cons (ps_set (i := 2) sc__law_all.nd rfl (Or.inl rfl) (pe_call G__law_listed (hr.mono (by decide)) rfl T.g__law_listed T.F__law_listed.kp (B__law_listed T) .nil pass0 (pa_cons (pv 1) (pa_cons (pe_ix ix_seq (pe_lst (pa_cons pe_int (pa_cons pe_int (pa_cons pe_int (pa_cons pe_int (pa_cons pe_int (pa_cons pe_int (pa_cons pe_int (pa_cons pe_int (pa_cons pe_int (pa_cons pe_int (pa_cons pe_int (pa_cons pe_int pa_nil))))))))))))) (pe_call G__law_take (hr.mono (by decide)) rfl T.g__law_take T.F__law_take.kp (B__law_take T) .nil pass0 (pa_cons (pv 1) (pa_cons pe_int pa_nil))) (fun _ _ => rfl)) pa_nil))))
  (pss_cons (ps_set (i := 3) sc__law_all.nd rfl (Or.inl rfl) (pe_make T.mk_Rules G_Rules____init__ (hr.mono (by decide)) rfl T.g_Rules (B_Rules____init__ T) .nil pass0 (pa_cons (pe_ix (r := rIx K) ix_seq (pv 2) pe_int (fun _ _ => rfl)) (pa_cons (pe_ix (r := rIx K) ix_seq (pv 2) pe_int (fun _ _ => rfl)) pa_nil))))
  (pss_cons (ps_if (PW.pt (pw_or (pt_not (pt_val (pe_call G__law_chain (hr.mono (by decide)) rfl T.g__law_chain T.F__law_chain.kp (B__law_chain T) .nil pass0 (pa_cons (pv 3) (pa_cons (pe_ix (r := rIx K) ix_seq (pv 2) pe_int (fun _ _ => rfl)) (pa_cons (pe_ix (r := rIx K) ix_seq (pv 2) pe_int (fun _ _ => rfl)) pa_nil)))))) (pw_or1 (pt_not (pt_val (pe_call G__law_complement (hr.mono (by decide)) rfl T.g__law_complement T.F__law_complement.kp (B__law_complement T) .nil pass0 (pa_cons (pv 3) (pa_cons (pe_ix (r := rIx K) ix_seq (pv 2) pe_int (fun _ _ => rfl)) (pa_cons (pe_ix (r := rIx K) ix_seq (pv 2) pe_int (fun _ _ => rfl)) pa_nil))))))))) (pss_one (ps_ret pe_bl)) pss_nil)
  (pss_cons (ps_set (i := 1) sc__law_all.nd rfl (Or.inl rfl) (pe_call G__law_flow (hr.mono (by decide)) rfl T.g__law_flow T.F__law_flow.kp (B__law_flow T) .nil pass0 (pa_cons (pv 0) (pa_cons pe_int pa_nil))))
  (pss_cons (ps_set (i := 4) sc__law_all.nd rfl (Or.inl rfl) (pe_call G__law_listed (hr.mono (by decide)) rfl T.g__law_listed T.F__law_listed.kp (B__law_listed T) .nil pass0 (pa_cons (pv 1) (pa_cons (pe_ix ix_seq (pe_lst (pa_cons pe_int (pa_cons pe_int (pa_cons pe_int (pa_cons pe_int (pa_cons pe_int (pa_cons pe_int pa_nil))))))) (pe_call G__law_take (hr.mono (by decide)) rfl T.g__law_take T.F__law_take.kp (B__law_take T) .nil pass0 (pa_cons (pv 1) (pa_cons pe_int pa_nil))) (fun _ _ => rfl)) pa_nil))))
  (pss_cons (ps_set (i := 1) sc__law_all.nd rfl (Or.inl rfl) (pe_call G__law_flow (hr.mono (by decide)) rfl T.g__law_flow T.F__law_flow.kp (B__law_flow T) .nil pass0 (pa_cons (pv 0) (pa_cons pe_int pa_nil))))
  (pss_cons (ps_set (i := 5) sc__law_all.nd rfl (Or.inl rfl) (pe_call G__law_listed (hr.mono (by decide)) rfl T.g__law_listed T.F__law_listed.kp (B__law_listed T) .nil pass0 (pa_cons (pv 1) (pa_cons (pe_ix ix_seq (pe_lst (pa_cons pe_int (pa_cons pe_int (pa_cons pe_int (pa_cons pe_int pa_nil))))) (pe_call G__law_take (hr.mono (by decide)) rfl T.g__law_take T.F__law_take.kp (B__law_take T) .nil pass0 (pa_cons (pv 1) (pa_cons pe_int pa_nil))) (fun _ _ => rfl)) pa_nil))))
  (pss_cons (ps_set (i := 6) sc__law_all.nd rfl (Or.inl rfl) (pe_call G__law_take (hr.mono (by decide)) rfl T.g__law_take T.F__law_take.kp (B__law_take T) .nil pass0 (pa_cons (pe_call G__law_flow (hr.mono (by decide)) rfl T.g__law_flow T.F__law_flow.kp (B__law_flow T) .nil pass0 (pa_cons (pv 0) (pa_cons pe_int pa_nil))) (pa_cons (pe_callB call_len (by rfl) T.n_len (by decide +kernel) (pa_cons (pe_ix (r := rIx K) ix_seq (pv 4) pe_int (fun _ _ => rfl)) pa_nil)) pa_nil))))
  (pss_cons (ps_asg (pe_slice sl_list (pe_ix (r := rIx K) ix_seq (pv 4) pe_int (fun _ _ => rfl)) (po_some (pv 6)) (po_some (pe_op op_add (pv 6) pe_int))) (pg_sub (pv 4) pe_int set_list))
  (pss_one (ps_ret (pe_and (pe_call G__law_product (hr.mono (by decide)) rfl T.g__law_product T.F__law_product.kp (B__law_product T) .nil pass0 (pa_cons (pv 4) (pa_cons (pv 5) pa_nil))) (pe_one (pe_call G__law_product (hr.mono (by decide)) rfl T.g__law_product T.F__law_product.kp (B__law_product T) .nil pass0 (pa_cons (pv 5) (pa_cons (pv 4) pa_nil))))))))))))))))), ?_⟩
    walk_at "sx"
    refine c_flow (by decide) hl fun f0 H1 n0 s1 F0 => ?_
    walk_at "sx"
    rename_i p2 np2 H2 s2 h2
    refine c_take (F0.same s2) (by decide) (by decide) (fun d1 H3 l1 u1 F3 K3 => ?_)
    obtain ⟨n, hn, ez⟩ := ixL [4, 3, 2, 4, 5, 1, 4, 3, 5, 0, 3, 4] 5 (by decide) l1 u1
    have h3 := K3 p2 _ (fun e => by rw [e] at np2; obtain ⟨o, ho⟩ := F0.at; rw [ho] at np2; cases np2) h2
    refine r_ixL h3 ez ?_
    walk_at "sx"
    refine ⟨f0, n, rfl, F3, hn, fun q l0 ns ks H4 nq0 F4 K4 hq hl0 rows e N => ?_⟩
    have s04 : Same H H4 := Keep.toSame s1 n0 ((Keep.same s2).trans (K3.trans K4))
    have L0 : Lst H4 l0 n ns := ⟨⟨ks, hl0, rows, e⟩, N, hn⟩
    refine s_name ?_
    dsimp only
    refine s_seq (s_asg (s_make (s_cons (s_op (s_var rfl (s_c (r_ixL hq rfl ?_)))))))
    refine s_cons (s_op (s_var rfl (s_c (r_ixL hq rfl ?_))))
    refine s_nil (c_makeR hl0 (ls_ne N e) (ls_few N e) (by omega) rows fun x H5 kx s5 ox rx => ?_)
    have Rx := rn_of N e ox rx
    clear hl0 h2 h3
    have hq5 : H5 q = some (.lst [.int n, .ref l0]) := s5 _ _ hq
    walk_at "sx"
    refine ⟨x, l0, n, ns, rfl, Rx, L0.same s5, fun H6 s6 => ?_⟩
    have hq6 : H6 q = some (.lst [.int n, .ref l0]) := s6 _ _ hq5
    walk_at "sx"
    refine ⟨x, l0, n, ns, rfl, Rx.same s6, L0.same (s5.trans s6), fun H7 s7 => ?_⟩
    walk_at "sx"
    have s07 : Same H H7 := s04.trans (s5.trans (s6.trans s7))
    clear hq hq5 hq6 hn

    refine c_flow (by decide) (s07.seq hl) fun f1 G1 m0 t1 J0 => ?_
    walk_at "sx"
    rename_i p2' np2' G2 t2 g2
    refine c_take (J0.same t2) (by decide) (by decide) (fun d2 G3 l2 u2 J3 X3 => ?_)
    obtain ⟨n1, hn1, ez1⟩ := ixL [3, 2, 3, 1, 2, 0] 3 (by decide) l2 u2
    have g3 := X3 p2' _ (fun e => by rw [e] at np2'; obtain ⟨o, ho⟩ := J0.at; rw [ho] at np2'; cases np2') g2
    refine r_ixL g3 ez1 ?_
    walk_at "sx"
    refine ⟨f1, n1, rfl, J3, by omega, fun q1 la ns1 ks1 G4 nq1 J4 X4 hqa hla rows1 e1 N1 => ?_⟩
    have t04 : Same H7 G4 := Keep.toSame t1 m0 ((Keep.same t2).trans (X3.trans X4))
    have s0g : Same H G4 := s07.trans t04
    have hla' : True → G4 la = some (.lst (ks1.map rf)) := fun _ => hla
    clear g2 g3 hla
    walk_at "sx"
    refine c_flow (by decide) (s0g.seq hl) fun f2 I1 o0 v1 W0 => ?_
    walk_at "sx"
    rename_i p3 np3 I2 v2 i2
    refine c_take (W0.same v2) (by decide) (by decide) (fun d3 I3 l3 u3 W3 Y3 => ?_)
    obtain ⟨n2, hn2, ez2⟩ := ixL [2, 1, 2, 0] 2 (by decide) l3 u3
    have i3 := Y3 p3 _ (fun e => by rw [e] at np3; obtain ⟨o, ho⟩ := W0.at; rw [ho] at np3; cases np3) i2
    refine r_ixL i3 ez2 ?_
    walk_at "sx"
    refine ⟨f2, n2, rfl, W3, by omega, fun q2 lb ns2 ks2 I4 nq2 W4 Y4 hqb hlb rows2 e2 N2 => ?_⟩
    have v04 : Same G4 I4 := Keep.toSame v1 o0 ((Keep.same v2).trans (Y3.trans Y4))
    have s0i : Same H I4 := s0g.trans v04
    have hlb' : True → I4 lb = some (.lst (ks2.map rf)) := fun _ => hlb
    have q21 : q1 ≠ q2 := fun z => by
      have a1 : I3 q1 = _ := Y3 q1 _ (fun e => by rw [← e] at o0; rw [hqa] at o0; cases o0) (v2 _ _ (v1 _ _ hqa))
      rw [z, nq2] at a1
      cases a1
    clear i2 i3 hlb
    have lk1 : ks1.length = ns1.length := by simpa using congrArg List.length e1
    have pos1 : 0 < ns1.length := List.length_pos_iff.mpr N1.ne
    have few1 := N1.few
    walk_at "sx"
    refine c_flow (by decide) (s0i.seq hl) fun f3 I5 z0 v5 U0 => ?_
    have hqa5 : I5 q1 = some (.lst [.int n1, .ref la]) := v5 _ _ (v04 _ _ hqa)
    walk_at "sx"
    refine ⟨_, _, rfl, .inl ⟨_, SqL.of (v5 _ _ (v04 _ _ (hla' trivial))), rfl⟩, ?_⟩
    rw [List.length_map, lk1]
    walk_at "sx"
    refine c_take U0 (by omega) (by omega) (fun d4 I6 l4 u4 U6 Z6 => ?_)
    obtain ⟨st, rfl⟩ := Int.eq_ofNat_of_zero_le l4
    have v46 : Same I4 I6 := Keep.toSame v5 z0 Z6
    have S6 : Same G4 I6 := v04.trans v46
    have hqa6 : I6 q1 = some (.lst [.int n1, .ref la]) := S6 _ _ hqa
    clear hqa5
    walk_at "sx"
    refine ⟨la, _, rfl, SqL.of (S6 _ _ (hla' trivial)), fun p np => ?_⟩
    have ec : cutV (ks1.map rf) (some (st : Int)) (some ((st : Int) + 5)) = (((ks1.drop st).take 5).map rf) := by
      rw [show ((st : Int) + 5) = ((st + 5 : Nat) : Int) by omega, cut_mid _ _ _ (by rw [List.length_map]; omega), List.map_take, List.map_drop]
    rw [ec]
    generalize hE : upd I6 p _ = I7
    have s7' := new_same np hE
    have h7 : True → I7 p = some (.lst (((ks1.drop st).take 5).map rf)) := fun _ => new_at hE
    clear hE
    have hqa7 : I7 q1 = some (.lst [.int n1, .ref la]) := s7' _ _ hqa6
    have pq : p ≠ q1 := fun z => by
      rw [z, hqa6] at np
      cases np
    have S7 := S6.trans s7'
    have V7 : Same I4 I7 := v46.trans s7'
    have hqb7 : True → I7 q2 = some (.lst [.int n2, .ref lb]) := fun _ => V7 _ _ hqb
    have hlb7 : True → I7 lb = some (.lst (ks2.map rf)) := fun _ => V7 _ _ (hlb' trivial)
    have lbq : lb ≠ q1 := fun z => by
      have a1 := hlb7 trivial
      rw [z, hqa7] at a1
      have a2 := HO.lst.inj (Option.some.inj a1)
      cases ks2 with
      | nil => cases a2
      | cons y ys => cases a2
    clear hqa hqa6 hqb
    walk_at "sx"
    rename_i I8 k8 h8
    have R1 : RowsAt I8 n1 ((ks1.drop st).take 5) := fun z hz => by
      have zz := rows1 z (List.mem_of_mem_drop (List.mem_of_mem_take hz))
      exact ⟨k8 _ _ (fun e => by rw [← e, S7 _ _ zz.1] at hqa7; cases hqa7) (S7 _ _ zz.1), zz.2⟩
    have R2 : RowsAt I8 n2 ks2 := fun z hz => by
      have zz := rows2 z hz
      exact ⟨k8 _ _ (fun e => by rw [← e, V7 _ _ zz.1] at hqa7; cases hqa7) (V7 _ _ zz.1), zz.2⟩
    have P1 : Pr I8 q1 n1 ((ns1.drop st).take 5) := ⟨p, h8, ⟨⟨(ks1.drop st).take 5, k8 _ _ pq (h7 trivial), R1, by rw [List.map_take, List.map_drop, e1, List.map_take, List.map_drop]⟩, nums_mid N1 (by omega), by omega⟩⟩
    have P2 : Pr I8 q2 n2 ns2 := ⟨lb, k8 _ _ q21.symm (hqb7 trivial), ⟨⟨ks2, k8 _ _ lbq (hlb7 trivial), R2, e2⟩, N2, by omega⟩⟩
    clear h8 hqa7
    walk_at "sx"
    refine ⟨q1, q2, n1, n2, _, ns2, rfl, P1, P2, by omega, fun I9 s9 => ?_⟩
    walk_at "sx"
    refine ⟨q2, q1, n2, n1, ns2, _, rfl, P2.same s9, P1.same s9, by omega, fun I10 s10 => ?_⟩
    walk_at "sx"
    exact k _
end
end K15

set_option Elab.async false
set_option linter.all false
set_option maxRecDepth 100000
set_option maxHeartbeats 4000000
namespace K15
open PySem L2 Sx
local macro_rules | `(tactic| walk_at "cond") => `(tactic| first
  | assumption
  | decide
  | exact c_mul_r (by first | decide | omega) (by first | decide | omega)
  | exact c_mul_l (by first | decide | omega) (by first | decide | omega)
  | exact c_div (by first | decide | omega) (by first | decide | omega)
  | exact c_pow (by first | decide | omega) (by first | decide | omega) (by first | decide | omega)
  | omega)
local macro_rules | `(tactic| walk_at "ne") => `(tactic| first
  | assumption
  | (refine Ne.symm ?_; assumption)
  | (refine' Flow.ne ?nh ?nn; (case nn => assumption); (case nh => walk_at "fl"))
  | (refine Ne.symm ?_; refine' Flow.ne ?nh ?nn; (case nn => assumption); (case nh => walk_at "fl"))
  | (refine' ne_of_none ?nh ?nn; (case nn => assumption); (case nh => walk_at "at"))
  | (refine Ne.symm ?_; refine' ne_of_none ?nh ?nn; (case nn => assumption); (case nh => walk_at "at")))
local macro_rules | `(tactic| walk_at "at") => `(tactic| first
  | assumption
  | (refine Same.up (by assumption) ?_; walk_at "at")
  | (refine Keep.up (by assumption) (by walk_at "ne") ?_; walk_at "at"))
local macro_rules | `(tactic| walk_at "fl") => `(tactic| first
  | assumption
  | (refine Flow.same (by assumption) ?_; walk_at "fl")
  | (refine Flow.keep (by assumption) (by walk_at "ne") ?_; walk_at "fl"))
local macro_rules | `(tactic| walk_at "fr") => `(tactic| first
  | assumption
  | (refine same_free (by assumption) ?_; walk_at "fr")
  | (refine Keep.free (by assumption) (by walk_at "ne") ?_; walk_at "fr"))
local macro_rules | `(tactic| walk_at "kp") => `(tactic| first
  | assumption
  | exact Keep.refl _ _
  | (refine Keep.trans ?_ (by assumption); walk_at "kp")
  | (refine Keep.trans ?_ (Keep.same (by assumption)); walk_at "kp"))
local macro_rules | `(tactic| walk_at "sm") => `(tactic| first
  | assumption
  | exact L2.Same.refl _
  | (refine L2.Same.trans ?_ (by assumption); walk_at "sm"))
local macro_rules | `(tactic| walk_at "sz") => `(tactic| first | exact Nat.le_of_ble_eq_true rfl | omega)
local macro_rules | `(tactic| walk_at "new") => `(tactic| (intro p np; generalize hE : upd _ p _ = H2; have s2 := new_same np hE; have h2 := new_at hE; clear hE))
local macro_rules | `(tactic| walk_at "newx") => `(tactic| (intro e d na nd hda; generalize hE : upd (upd _ d _) e _ = H2; have s2 := newx_same na nd hE; have h2 := newx_at hE; have h3 := newx_d hda hE; clear hE))
local macro_rules | `(tactic| walk_at "s1") => `(tactic| first
  | with_reducible refine s_seq ?_
  | with_reducible refine s_asg ?_
  | with_reducible refine s_name ?_
  | with_reducible refine s_ret ?_
  | with_reducible refine s_c ?_
  | ((with_reducible refine' s_var ?hv ?_); (case hv => rfl))
  | with_reducible refine s_op ?_
  | with_reducible refine s_un ?_
  | with_reducible refine s_ifS ?_
  | with_reducible refine s_cb ?_
  | with_reducible refine s_cons ?_
  | with_reducible refine s_nil ?_
  | with_reducible refine s_call ?_
  | with_reducible refine s_test ?_
  | with_reducible refine s_tB ?_
  | with_reducible refine s_bl ?_
  | with_reducible refine s_and ?_
  | with_reducible refine s_or ?_
  | with_reducible refine s_not ?_
  | with_reducible refine s_andV ?_
  | with_reducible refine s_orV ?_
  | with_reducible refine s_notV ?_
  | with_reducible refine s_blV ?_
  | with_reducible refine s_if ?_
  | with_reducible refine s_tup ?_
  | with_reducible refine s_lst ?_
  | with_reducible refine s_drop ?_
  | with_reducible refine s_next ?_
  | with_reducible refine s_sub ?_
  | with_reducible refine s_bm ?_
  | with_reducible refine s_callK ?_
  | with_reducible refine s_brk ?_
  | with_reducible refine s_cont ?_
  | with_reducible refine r_I0 ?_
  | with_reducible refine r_U ?_
  | with_reducible refine r_eqI ?_
  | with_reducible refine r_neI ?_
  | with_reducible refine r_isB ?_
  | with_reducible refine r_notB ?_
  | with_reducible refine i_t ?_
  | with_reducible refine i_f ?_
  | with_reducible refine i_nt ?_
  | with_reducible refine i_nf ?_
  | ((with_reducible refine' r_I ?hc ?_); (case hc => walk_at "cond"))
  | (with_reducible refine .inl ⟨_, rfl, ?_⟩)
  | (with_reducible refine ⟨_, rfl, ?_⟩)
  | ((with_reducible refine' r_ixL ?hx ?ha ?_); (case hx => walk_at "at"); (case ha => rfl))
  | ((with_reducible refine' r_ixT ?hx ?ha ?_); (case hx => walk_at "at"); (case ha => rfl))
  | ((with_reducible refine' r_setL ?hx ?ha ?_); (case hx => walk_at "at"); (case ha => rfl); intro H2 k2 h2; (try dsimp only [List.set, Int.toNat] at h2))
  | ((with_reducible refine' r_app ?hx ?hl ?_); (case hx => walk_at "at"); (case hl => first | exact Nat.lt_of_ble_eq_true rfl | omega); intro H2 k2 h2)
  | ((with_reducible refine' ty_list ?hx ?_); (case hx => walk_at "at"))
  | (refine And.intro (by (with_reducible show _ ≤ sizeLine); walk_at "sz") ?_; walk_at "new")
  | with_reducible refine s_exv ?_
  | walk_at "newx")
local macro_rules | `(tactic| walk_at "sx") => `(tactic| repeat (walk_at "s1"))
local macro_rules | `(tactic| walk_at "s2") => `(tactic| first
  | ((with_reducible refine' r_ixG ?hx ?hn ?_); (case hx => walk_at "at"); (case hn => omega))
  | ((with_reducible refine' r_ixGT ?hx ?hn ?_); (case hx => walk_at "at"); (case hn => omega))
  | (with_reducible refine ig_cons (fun hix => ?_) (fun hix => ?_))
  | ((with_reducible refine ig_nil ?_); omega)
  | ((with_reducible refine' i_T ?hc ?_); (case hc => omega))
  | ((with_reducible refine' i_F ?hc ?_); (case hc => omega))
  | (with_reducible refine i_2 (fun hc => ?_) (fun hc => ?_))
  | (with_reducible refine i_n2 (fun hc => ?_) (fun hc => ?_)))
local macro_rules | `(tactic| walk_at "go") => `(tactic| repeat' (first | walk_at "s1" | walk_at "s2"))

local macro_rules | `(tactic| walk_at "s1") => `(tactic| first
  | with_reducible refine s_chain ?_
  | with_reducible refine s_fldS ?_
  | with_reducible refine s_fld ?_
  | with_reducible refine s_dIn ?_
  | with_reducible refine s_dNotIn ?_
  | with_reducible refine s_sl ?_
  | with_reducible refine s_noPart ?_
  | with_reducible refine s_part ?_
  | with_reducible refine s_meth ?_
  | with_reducible refine s_make ?_)

section
variable {P : Program} {w : World} {K : PySem.W.Frag} {mg : Str → Option Value} {base : Heap} {A : Ad}
def spLaw (K : PySem.W.Frag) : Sp := fun vs H Q _ => ∃ (a : Addr) (ns : List Int), vs = [.ref a] ∧ SqL K H a (ns.map V.int) ∧ ns.length ≤ 63 ∧ ∀ H', Q (.bl true) H'
theorem ok_law (T : Txt P K mg A) : FnOk P w K mg base CX0 11 A.a_law A.d_law ["script"] (spLaw K) := by
  refine T.F_law.ok sc_law (fun vs H Q E h => ?_) (fun cdv A' outer s H vs Q E hr h => ?_)
  · obtain ⟨a, ns, rfl, _⟩ := h
    rfl
  · obtain ⟨a, ns, rfl, hS, hn, k⟩ := h
    have G__law_all := ok_all (w := w) (base := base) T
    refine ⟨_, (pss_one (ps_try_thru0 (pss_one (ps_ret (pe_call G__law_all (hr.mono (by decide)) rfl T.g__law_all T.F__law_all.kp (B__law_all T) .nil pass0 (pa_cons (pv 0) pa_nil)))))), ?_⟩
    walk_at "sx"
    exact ⟨a, ns, rfl, hS, k⟩
end
theorem all_mk {l : PySem.W.OpenLaw} {w : World} {K : PySem.W.Frag} {h : Heap} {mg : Str → Option Value} {fa : Addr} (X : K.In h) (G : h.Ns mainGlobals mg) (hfa : mg "law" = some (.ref fa))
    {C_Rules : Addr} {f0 : Addr} {od0 an0 : Option Addr} {sl0 : Array (Option Value)} {oc0 kV0 dc0 pm0 cd0 ct0 : Value} {f1 : Addr} {od1 an1 : Option Addr} {sl1 : Array (Option Value)} {oc1 kV1 dc1 pm1 cd1 ct1 : Value} {f2 : Addr} {od2 an2 : Option Addr} {sl2 : Array (Option Value)} {oc2 kV2 dc2 pm2 cd2 ct2 : Value} {f3 : Addr} {od3 an3 : Option Addr} {sl3 : Array (Option Value)} {oc3 kV3 dc3 pm3 cd3 ct3 : Value} {f4 : Addr} {od4 an4 : Option Addr} {sl4 : Array (Option Value)} {oc4 kV4 dc4 pm4 cd4 ct4 : Value} {f5 : Addr} {od5 an5 : Option Addr} {sl5 : Array (Option Value)} {oc5 kV5 dc5 pm5 cd5 ct5 : Value} {f6 : Addr} {od6 an6 : Option Addr} {sl6 : Array (Option Value)} {oc6 kV6 dc6 pm6 cd6 ct6 : Value} {f7 : Addr} {od7 an7 : Option Addr} {sl7 : Array (Option Value)} {oc7 kV7 dc7 pm7 cd7 ct7 : Value} {f8 : Addr} {od8 an8 : Option Addr} {sl8 : Array (Option Value)} {oc8 kV8 dc8 pm8 cd8 ct8 : Value} {f9 : Addr} {od9 an9 : Option Addr} {sl9 : Array (Option Value)} {oc9 kV9 dc9 pm9 cd9 ct9 : Value} {f10 : Addr} {od10 an10 : Option Addr} {sl10 : Array (Option Value)} {oc10 kV10 dc10 pm10 cd10 ct10 : Value} {f11 : Addr} {od11 an11 : Option Addr} {sl11 : Array (Option Value)} {oc11 kV11 dc11 pm11 cd11 ct11 : Value} {f12 : Addr} {od12 an12 : Option Addr} {sl12 : Array (Option Value)} {oc12 kV12 dc12 pm12 cd12 ct12 : Value} {f13 : Addr} {od13 an13 : Option Addr} {sl13 : Array (Option Value)} {oc13 kV13 dc13 pm13 cd13 ct13 : Value} {f14 : Addr} {od14 an14 : Option Addr} {sl14 : Array (Option Value)} {oc14 kV14 dc14 pm14 cd14 ct14 : Value} {f15 : Addr} {od15 an15 : Option Addr} {sl15 : Array (Option Value)} {oc15 kV15 dc15 pm15 cd15 ct15 : Value} {f16 : Addr} {od16 an16 : Option Addr} {sl16 : Array (Option Value)} {oc16 kV16 dc16 pm16 cd16 ct16 : Value} {f17 : Addr} {od17 an17 : Option Addr} {sl17 : Array (Option Value)} {oc17 kV17 dc17 pm17 cd17 ct17 : Value} {f18 : Addr} {od18 an18 : Option Addr} {sl18 : Array (Option Value)} {oc18 kV18 dc18 pm18 cd18 ct18 : Value} {f19 : Addr} {od19 an19 : Option Addr} {sl19 : Array (Option Value)} {oc19 kV19 dc19 pm19 cd19 ct19 : Value} {f20 : Addr} {od20 an20 : Option Addr} {sl20 : Array (Option Value)} {oc20 kV20 dc20 pm20 cd20 ct20 : Value} {f21 : Addr} {od21 an21 : Option Addr} {sl21 : Array (Option Value)} {oc21 kV21 dc21 pm21 cd21 ct21 : Value} {f22 : Addr} {od22 an22 : Option Addr} {sl22 : Array (Option Value)} {oc22 kV22 dc22 pm22 cd22 ct22 : Value} {f23 : Addr} {od23 an23 : Option Addr} {sl23 : Array (Option Value)} {oc23 kV23 dc23 pm23 cd23 ct23 : Value} {f24 : Addr} {od24 an24 : Option Addr} {sl24 : Array (Option Value)} {oc24 kV24 dc24 pm24 cd24 ct24 : Value} {f25 : Addr} {od25 an25 : Option Addr} {sl25 : Array (Option Value)} {oc25 kV25 dc25 pm25 cd25 ct25 : Value} {f26 : Addr} {od26 an26 : Option Addr} {sl26 : Array (Option Value)} {oc26 kV26 dc26 pm26 cd26 ct26 : Value} {f27 : Addr} {od27 an27 : Option Addr} {sl27 : Array (Option Value)} {oc27 kV27 dc27 pm27 cd27 ct27 : Value} {f28 : Addr} {od28 an28 : Option Addr} {sl28 : Array (Option Value)} {oc28 kV28 dc28 pm28 cd28 ct28 : Value} {f29 : Addr} {od29 an29 : Option Addr} {sl29 : Array (Option Value)} {oc29 kV29 dc29 pm29 cd29 ct29 : Value} {f30 : Addr} {od30 an30 : Option Addr} {sl30 : Array (Option Value)} {oc30 kV30 dc30 pm30 cd30 ct30 : Value} {f31 : Addr} {od31 an31 : Option Addr} {sl31 : Array (Option Value)} {oc31 kV31 dc31 pm31 cd31 ct31 : Value} {f32 : Addr} {od32 an32 : Option Addr} {sl32 : Array (Option Value)} {oc32 kV32 dc32 pm32 cd32 ct32 : Value} {f33 : Addr} {od33 an33 : Option Addr} {sl33 : Array (Option Value)} {oc33 kV33 dc33 pm33 cd33 ct33 : Value} {f34 : Addr} {od34 an34 : Option Addr} {sl34 : Array (Option Value)} {oc34 kV34 dc34 pm34 cd34 ct34 : Value} {f35 : Addr} {od35 an35 : Option Addr} {sl35 : Array (Option Value)} {oc35 kV35 dc35 pm35 cd35 ct35 : Value} {f36 : Addr} {od36 an36 : Option Addr} {sl36 : Array (Option Value)} {oc36 kV36 dc36 pm36 cd36 ct36 : Value} {f37 : Addr} {od37 an37 : Option Addr} {sl37 : Array (Option Value)} {oc37 kV37 dc37 pm37 cd37 ct37 : Value} {f38 : Addr} {od38 an38 : Option Addr} {sl38 : Array (Option Value)} {oc38 kV38 dc38 pm38 cd38 ct38 : Value} {f39 : Addr} {od39 an39 : Option Addr} {sl39 : Array (Option Value)} {oc39 kV39 dc39 pm39 cd39 ct39 : Value} {f40 : Addr} {od40 an40 : Option Addr} {sl40 : Array (Option Value)} {oc40 kV40 dc40 pm40 cd40 ct40 : Value} {t_MOST_POINTS : Tok}
    (a0 : PySem.W.nsIn K mainGlobals "is_an_integer" = some (some (.ref f0)))
    (l0 : K.lookup f0 = some ⟨oc0, od0, .func (PySem.W.fnOf "is_an_integer" "is_an_integer" (defArgs s_is_an_integer) (defBody s_is_an_integer) (defScope s_is_an_integer) .none kV0 dc0 pm0 an0 cd0 ct0), sl0⟩)
    (c0 : PySem.W.codeIn K cd0 "is_an_integer" = true)
    (k0 : PySem.W.keepIn K (.ref f0) = true)
    (a1 : PySem.W.nsIn K mainGlobals "is_number" = some (some (.ref f1)))
    (l1 : K.lookup f1 = some ⟨oc1, od1, .func (PySem.W.fnOf "is_number" "is_number" (defArgs s_is_number) (defBody s_is_number) (defScope s_is_number) .none kV1 dc1 pm1 an1 cd1 ct1), sl1⟩)
    (c1 : PySem.W.codeIn K cd1 "is_number" = true)
    (k1 : PySem.W.keepIn K (.ref f1) = true)
    (a2 : PySem.W.nsIn K mainGlobals "is_value" = some (some (.ref f2)))
    (l2 : K.lookup f2 = some ⟨oc2, od2, .func (PySem.W.fnOf "is_value" "is_value" (defArgs s_is_value) (defBody s_is_value) (defScope s_is_value) .none kV2 dc2 pm2 an2 cd2 ct2), sl2⟩)
    (c2 : PySem.W.codeIn K cd2 "is_value" = true)
    (k2 : PySem.W.keepIn K (.ref f2) = true)
    (a3 : PySem.W.nsIn K mainGlobals "code_of" = some (some (.ref f3)))
    (l3 : K.lookup f3 = some ⟨oc3, od3, .func (PySem.W.fnOf "code_of" "code_of" (defArgs s_code_of) (defBody s_code_of) (defScope s_code_of) .none kV3 dc3 pm3 an3 cd3 ct3), sl3⟩)
    (c3 : PySem.W.codeIn K cd3 "code_of" = true)
    (k3 : PySem.W.keepIn K (.ref f3) = true)
    (a4 : PySem.W.nsIn K mainGlobals "codes_of" = some (some (.ref f4)))
    (l4 : K.lookup f4 = some ⟨oc4, od4, .func (PySem.W.fnOf "codes_of" "codes_of" (defArgs s_codes_of) (defBody s_codes_of) (defScope s_codes_of) .none kV4 dc4 pm4 an4 cd4 ct4), sl4⟩)
    (c4 : PySem.W.codeIn K cd4 "codes_of" = true)
    (k4 : PySem.W.keepIn K (.ref f4) = true)
    (a5 : PySem.W.nsIn K mainGlobals "row_of" = some (some (.ref f5)))
    (l5 : K.lookup f5 = some ⟨oc5, od5, .func (PySem.W.fnOf "row_of" "row_of" (defArgs s_row_of) (defBody s_row_of) (defScope s_row_of) .none kV5 dc5 pm5 an5 cd5 ct5), sl5⟩)
    (c5 : PySem.W.codeIn K cd5 "row_of" = true)
    (k5 : PySem.W.keepIn K (.ref f5) = true)
    (a6 : PySem.W.nsIn K mainGlobals "mask_of" = some (some (.ref f6)))
    (l6 : K.lookup f6 = some ⟨oc6, od6, .func (PySem.W.fnOf "mask_of" "mask_of" (defArgs s_mask_of) (defBody s_mask_of) (defScope s_mask_of) .none kV6 dc6 pm6 an6 cd6 ct6), sl6⟩)
    (c6 : PySem.W.codeIn K cd6 "mask_of" = true)
    (k6 : PySem.W.keepIn K (.ref f6) = true)
    (a7 : PySem.W.nsIn K mainGlobals "is_row" = some (some (.ref f7)))
    (l7 : K.lookup f7 = some ⟨oc7, od7, .func (PySem.W.fnOf "is_row" "is_row" (defArgs s_is_row) (defBody s_is_row) (defScope s_is_row) .none kV7 dc7 pm7 an7 cd7 ct7), sl7⟩)
    (c7 : PySem.W.codeIn K cd7 "is_row" = true)
    (k7 : PySem.W.keepIn K (.ref f7) = true)
    (a8 : PySem.W.nsIn K mainGlobals "all_rows" = some (some (.ref f8)))
    (l8 : K.lookup f8 = some ⟨oc8, od8, .func (PySem.W.fnOf "all_rows" "all_rows" (defArgs s_all_rows) (defBody s_all_rows) (defScope s_all_rows) .none kV8 dc8 pm8 an8 cd8 ct8), sl8⟩)
    (c8 : PySem.W.codeIn K cd8 "all_rows" = true)
    (k8 : PySem.W.keepIn K (.ref f8) = true)
    (a9 : PySem.W.nsIn K mainGlobals "reads_all" = some (some (.ref f9)))
    (l9 : K.lookup f9 = some ⟨oc9, od9, .func (PySem.W.fnOf "reads_all" "reads_all" (defArgs s_reads_all) (defBody s_reads_all) (defScope s_reads_all) .none kV9 dc9 pm9 an9 cd9 ct9), sl9⟩)
    (c9 : PySem.W.codeIn K cd9 "reads_all" = true)
    (k9 : PySem.W.keepIn K (.ref f9) = true)
    (a10 : PySem.W.nsIn K mainGlobals "holds_all" = some (some (.ref f10)))
    (l10 : K.lookup f10 = some ⟨oc10, od10, .func (PySem.W.fnOf "holds_all" "holds_all" (defArgs s_holds_all) (defBody s_holds_all) (defScope s_holds_all) .none kV10 dc10 pm10 an10 cd10 ct10), sl10⟩)
    (c10 : PySem.W.codeIn K cd10 "holds_all" = true)
    (k10 : PySem.W.keepIn K (.ref f10) = true)
    (a11 : PySem.W.nsIn K mainGlobals "free_lots" = some (some (.ref f11)))
    (l11 : K.lookup f11 = some ⟨oc11, od11, .func (PySem.W.fnOf "free_lots" "free_lots" (defArgs s_free_lots) (defBody s_free_lots) (defScope s_free_lots) .none kV11 dc11 pm11 an11 cd11 ct11), sl11⟩)
    (c11 : PySem.W.codeIn K cd11 "free_lots" = true)
    (k11 : PySem.W.keepIn K (.ref f11) = true)
    (a12 : PySem.W.nsIn K mainGlobals "strong_lots" = some (some (.ref f12)))
    (l12 : K.lookup f12 = some ⟨oc12, od12, .func (PySem.W.fnOf "strong_lots" "strong_lots" (defArgs s_strong_lots) (defBody s_strong_lots) (defScope s_strong_lots) .none kV12 dc12 pm12 an12 cd12 ct12), sl12⟩)
    (c12 : PySem.W.codeIn K cd12 "strong_lots" = true)
    (k12 : PySem.W.keepIn K (.ref f12) = true)
    (a13 : PySem.W.nsIn K mainGlobals "lots_of" = some (some (.ref f13)))
    (l13 : K.lookup f13 = some ⟨oc13, od13, .func (PySem.W.fnOf "lots_of" "lots_of" (defArgs s_lots_of) (defBody s_lots_of) (defScope s_lots_of) .none kV13 dc13 pm13 an13 cd13 ct13), sl13⟩)
    (c13 : PySem.W.codeIn K cd13 "lots_of" = true)
    (k13 : PySem.W.keepIn K (.ref f13) = true)
    (a14 : PySem.W.nsIn K mainGlobals "lots_to" = some (some (.ref f14)))
    (l14 : K.lookup f14 = some ⟨oc14, od14, .func (PySem.W.fnOf "lots_to" "lots_to" (defArgs s_lots_to) (defBody s_lots_to) (defScope s_lots_to) .none kV14 dc14 pm14 an14 cd14 ct14), sl14⟩)
    (c14 : PySem.W.codeIn K cd14 "lots_to" = true)
    (k14 : PySem.W.keepIn K (.ref f14) = true)
    (a15 : PySem.W.nsIn K mainGlobals "all_lots" = some (some (.ref f15)))
    (l15 : K.lookup f15 = some ⟨oc15, od15, .func (PySem.W.fnOf "all_lots" "all_lots" (defArgs s_all_lots) (defBody s_all_lots) (defScope s_all_lots) .none kV15 dc15 pm15 an15 cd15 ct15), sl15⟩)
    (c15 : PySem.W.codeIn K cd15 "all_lots" = true)
    (k15 : PySem.W.keepIn K (.ref f15) = true)
    (a16 : PySem.W.nsIn K mainGlobals "dimension" = some (some (.ref f16)))
    (l16 : K.lookup f16 = some ⟨oc16, od16, .func (PySem.W.fnOf "dimension" "dimension" (defArgs s_dimension) (defBody s_dimension) (defScope s_dimension) .none kV16 dc16 pm16 an16 cd16 ct16), sl16⟩)
    (c16 : PySem.W.codeIn K cd16 "dimension" = true)
    (k16 : PySem.W.keepIn K (.ref f16) = true)
    (a17 : PySem.W.nsIn K mainGlobals "lots_up_to" = some (some (.ref f17)))
    (l17 : K.lookup f17 = some ⟨oc17, od17, .func (PySem.W.fnOf "lots_up_to" "lots_up_to" (defArgs s_lots_up_to) (defBody s_lots_up_to) (defScope s_lots_up_to) .none kV17 dc17 pm17 an17 cd17 ct17), sl17⟩)
    (c17 : PySem.W.codeIn K cd17 "lots_up_to" = true)
    (k17 : PySem.W.keepIn K (.ref f17) = true)
    (a18 : PySem.W.nsIn K mainGlobals "are_rows" = some (some (.ref f18)))
    (l18 : K.lookup f18 = some ⟨oc18, od18, .func (PySem.W.fnOf "are_rows" "are_rows" (defArgs s_are_rows) (defBody s_are_rows) (defScope s_are_rows) .none kV18 dc18 pm18 an18 cd18 ct18), sl18⟩)
    (c18 : PySem.W.codeIn K cd18 "are_rows" = true)
    (k18 : PySem.W.keepIn K (.ref f18) = true)
    (a19 : PySem.W.findIn K (.ref C_Rules) "__init__" = some (some (.ref f19)))
    (l19 : K.lookup f19 = some ⟨oc19, od19, .func (PySem.W.fnOf "__init__" "Rules.__init__" (defArgs s_Rules____init__) (defBody s_Rules____init__) (defScope s_Rules____init__) .none kV19 dc19 pm19 an19 cd19 ct19), sl19⟩)
    (c19 : PySem.W.codeIn K cd19 "Rules.__init__" = true)
    (k19 : PySem.W.keepIn K (.ref f19) = true)
    (a20 : PySem.W.findIn K (.ref C_Rules) "has" = some (some (.ref f20)))
    (l20 : K.lookup f20 = some ⟨oc20, od20, .func (PySem.W.fnOf "has" "Rules.has" (defArgs s_Rules__has) (defBody s_Rules__has) (defScope s_Rules__has) .none kV20 dc20 pm20 an20 cd20 ct20), sl20⟩)
    (c20 : PySem.W.codeIn K cd20 "Rules.has" = true)
    (k20 : PySem.W.keepIn K (.ref f20) = true)
    (a21 : PySem.W.findIn K (.ref C_Rules) "others" = some (some (.ref f21)))
    (l21 : K.lookup f21 = some ⟨oc21, od21, .func (PySem.W.fnOf "others" "Rules.others" (defArgs s_Rules__others) (defBody s_Rules__others) (defScope s_Rules__others) .none kV21 dc21 pm21 an21 cd21 ct21), sl21⟩)
    (c21 : PySem.W.codeIn K cd21 "Rules.others" = true)
    (k21 : PySem.W.keepIn K (.ref f21) = true)
    (a22 : PySem.W.findIn K (.ref C_Rules) "beside" = some (some (.ref f22)))
    (l22 : K.lookup f22 = some ⟨oc22, od22, .func (PySem.W.fnOf "beside" "Rules.beside" (defArgs s_Rules__beside) (defBody s_Rules__beside) (defScope s_Rules__beside) .none kV22 dc22 pm22 an22 cd22 ct22), sl22⟩)
    (c22 : PySem.W.codeIn K cd22 "Rules.beside" = true)
    (k22 : PySem.W.keepIn K (.ref f22) = true)
    (a23 : PySem.W.nsIn K mainGlobals "_law_flow" = some (some (.ref f23)))
    (l23 : K.lookup f23 = some ⟨oc23, od23, .func (PySem.W.fnOf "_law_flow" "_law_flow" (defArgs s__law_flow) (defBody s__law_flow) (defScope s__law_flow) .none kV23 dc23 pm23 an23 cd23 ct23), sl23⟩)
    (c23 : PySem.W.codeIn K cd23 "_law_flow" = true)
    (k23 : PySem.W.keepIn K (.ref f23) = true)
    (a24 : PySem.W.nsIn K mainGlobals "_law_take" = some (some (.ref f24)))
    (l24 : K.lookup f24 = some ⟨oc24, od24, .func (PySem.W.fnOf "_law_take" "_law_take" (defArgs s__law_take) (defBody s__law_take) (defScope s__law_take) .none kV24 dc24 pm24 an24 cd24 ct24), sl24⟩)
    (c24 : PySem.W.codeIn K cd24 "_law_take" = true)
    (k24 : PySem.W.keepIn K (.ref f24) = true)
    (a25 : PySem.W.nsIn K mainGlobals "_law_full" = some (some (.ref f25)))
    (l25 : K.lookup f25 = some ⟨oc25, od25, .func (PySem.W.fnOf "_law_full" "_law_full" (defArgs s__law_full) (defBody s__law_full) (defScope s__law_full) .none kV25 dc25 pm25 an25 cd25 ct25), sl25⟩)
    (c25 : PySem.W.codeIn K cd25 "_law_full" = true)
    (k25 : PySem.W.keepIn K (.ref f25) = true)
    (a26 : PySem.W.nsIn K mainGlobals "_law_row" = some (some (.ref f26)))
    (l26 : K.lookup f26 = some ⟨oc26, od26, .func (PySem.W.fnOf "_law_row" "_law_row" (defArgs s__law_row) (defBody s__law_row) (defScope s__law_row) .none kV26 dc26 pm26 an26 cd26 ct26), sl26⟩)
    (c26 : PySem.W.codeIn K cd26 "_law_row" = true)
    (k26 : PySem.W.keepIn K (.ref f26) = true)
    (a27 : PySem.W.nsIn K mainGlobals "_law_ones" = some (some (.ref f27)))
    (l27 : K.lookup f27 = some ⟨oc27, od27, .func (PySem.W.fnOf "_law_ones" "_law_ones" (defArgs s__law_ones) (defBody s__law_ones) (defScope s__law_ones) .none kV27 dc27 pm27 an27 cd27 ct27), sl27⟩)
    (c27 : PySem.W.codeIn K cd27 "_law_ones" = true)
    (k27 : PySem.W.keepIn K (.ref f27) = true)
    (a28 : PySem.W.nsIn K mainGlobals "_law_listed" = some (some (.ref f28)))
    (l28 : K.lookup f28 = some ⟨oc28, od28, .func (PySem.W.fnOf "_law_listed" "_law_listed" (defArgs s__law_listed) (defBody s__law_listed) (defScope s__law_listed) .none kV28 dc28 pm28 an28 cd28 ct28), sl28⟩)
    (c28 : PySem.W.codeIn K cd28 "_law_listed" = true)
    (k28 : PySem.W.keepIn K (.ref f28) = true)
    (a29 : PySem.W.nsIn K mainGlobals "_law_is_integer" = some (some (.ref f29)))
    (l29 : K.lookup f29 = some ⟨oc29, od29, .func (PySem.W.fnOf "_law_is_integer" "_law_is_integer" (defArgs s__law_is_integer) (defBody s__law_is_integer) (defScope s__law_is_integer) .none kV29 dc29 pm29 an29 cd29 ct29), sl29⟩)
    (c29 : PySem.W.codeIn K cd29 "_law_is_integer" = true)
    (k29 : PySem.W.keepIn K (.ref f29) = true)
    (a30 : PySem.W.nsIn K mainGlobals "_law_is_lot" = some (some (.ref f30)))
    (l30 : K.lookup f30 = some ⟨oc30, od30, .func (PySem.W.fnOf "_law_is_lot" "_law_is_lot" (defArgs s__law_is_lot) (defBody s__law_is_lot) (defScope s__law_is_lot) .none kV30 dc30 pm30 an30 cd30 ct30), sl30⟩)
    (c30 : PySem.W.codeIn K cd30 "_law_is_lot" = true)
    (k30 : PySem.W.keepIn K (.ref f30) = true)
    (a31 : PySem.W.nsIn K mainGlobals "_law_is_free" = some (some (.ref f31)))
    (l31 : K.lookup f31 = some ⟨oc31, od31, .func (PySem.W.fnOf "_law_is_free" "_law_is_free" (defArgs s__law_is_free) (defBody s__law_is_free) (defScope s__law_is_free) .none kV31 dc31 pm31 an31 cd31 ct31), sl31⟩)
    (c31 : PySem.W.codeIn K cd31 "_law_is_free" = true)
    (k31 : PySem.W.keepIn K (.ref f31) = true)
    (a32 : PySem.W.nsIn K mainGlobals "_law_is_strong" = some (some (.ref f32)))
    (l32 : K.lookup f32 = some ⟨oc32, od32, .func (PySem.W.fnOf "_law_is_strong" "_law_is_strong" (defArgs s__law_is_strong) (defBody s__law_is_strong) (defScope s__law_is_strong) .none kV32 dc32 pm32 an32 cd32 ct32), sl32⟩)
    (c32 : PySem.W.codeIn K cd32 "_law_is_strong" = true)
    (k32 : PySem.W.keepIn K (.ref f32) = true)
    (a33 : PySem.W.nsIn K mainGlobals "_law_true_lots" = some (some (.ref f33)))
    (l33 : K.lookup f33 = some ⟨oc33, od33, .func (PySem.W.fnOf "_law_true_lots" "_law_true_lots" (defArgs s__law_true_lots) (defBody s__law_true_lots) (defScope s__law_true_lots) .none kV33 dc33 pm33 an33 cd33 ct33), sl33⟩)
    (c33 : PySem.W.codeIn K cd33 "_law_true_lots" = true)
    (k33 : PySem.W.keepIn K (.ref f33) = true)
    (a34 : PySem.W.nsIn K mainGlobals "_law_up_to" = some (some (.ref f34)))
    (l34 : K.lookup f34 = some ⟨oc34, od34, .func (PySem.W.fnOf "_law_up_to" "_law_up_to" (defArgs s__law_up_to) (defBody s__law_up_to) (defScope s__law_up_to) .none kV34 dc34 pm34 an34 cd34 ct34), sl34⟩)
    (c34 : PySem.W.codeIn K cd34 "_law_up_to" = true)
    (k34 : PySem.W.keepIn K (.ref f34) = true)
    (a35 : PySem.W.nsIn K mainGlobals "_law_chain" = some (some (.ref f35)))
    (l35 : K.lookup f35 = some ⟨oc35, od35, .func (PySem.W.fnOf "_law_chain" "_law_chain" (defArgs s__law_chain) (defBody s__law_chain) (defScope s__law_chain) .none kV35 dc35 pm35 an35 cd35 ct35), sl35⟩)
    (c35 : PySem.W.codeIn K cd35 "_law_chain" = true)
    (k35 : PySem.W.keepIn K (.ref f35) = true)
    (a36 : PySem.W.nsIn K mainGlobals "_law_complement" = some (some (.ref f36)))
    (l36 : K.lookup f36 = some ⟨oc36, od36, .func (PySem.W.fnOf "_law_complement" "_law_complement" (defArgs s__law_complement) (defBody s__law_complement) (defScope s__law_complement) .none kV36 dc36 pm36 an36 cd36 ct36), sl36⟩)
    (c36 : PySem.W.codeIn K cd36 "_law_complement" = true)
    (k36 : PySem.W.keepIn K (.ref f36) = true)
    (a37 : PySem.W.nsIn K mainGlobals "_law_halves" = some (some (.ref f37)))
    (l37 : K.lookup f37 = some ⟨oc37, od37, .func (PySem.W.fnOf "_law_halves" "_law_halves" (defArgs s__law_halves) (defBody s__law_halves) (defScope s__law_halves) .none kV37 dc37 pm37 an37 cd37 ct37), sl37⟩)
    (c37 : PySem.W.codeIn K cd37 "_law_halves" = true)
    (k37 : PySem.W.keepIn K (.ref f37) = true)
    (a38 : PySem.W.nsIn K mainGlobals "_law_product" = some (some (.ref f38)))
    (l38 : K.lookup f38 = some ⟨oc38, od38, .func (PySem.W.fnOf "_law_product" "_law_product" (defArgs s__law_product) (defBody s__law_product) (defScope s__law_product) .none kV38 dc38 pm38 an38 cd38 ct38), sl38⟩)
    (c38 : PySem.W.codeIn K cd38 "_law_product" = true)
    (k38 : PySem.W.keepIn K (.ref f38) = true)
    (a39 : PySem.W.nsIn K mainGlobals "_law_all" = some (some (.ref f39)))
    (l39 : K.lookup f39 = some ⟨oc39, od39, .func (PySem.W.fnOf "_law_all" "_law_all" (defArgs s__law_all) (defBody s__law_all) (defScope s__law_all) .none kV39 dc39 pm39 an39 cd39 ct39), sl39⟩)
    (c39 : PySem.W.codeIn K cd39 "_law_all" = true)
    (k39 : PySem.W.keepIn K (.ref f39) = true)
    (a40 : PySem.W.nsIn K mainGlobals "law" = some (some (.ref f40)))
    (l40 : K.lookup f40 = some ⟨oc40, od40, .func (PySem.W.fnOf "law" "law" (defArgs s_law) (defBody s_law) (defScope s_law) .none kV40 dc40 pm40 an40 cd40 ct40), sl40⟩)
    (c40 : PySem.W.codeIn K cd40 "law" = true)
    (k40 : PySem.W.keepIn K (.ref f40) = true)
    (gC_Rules : PySem.W.nsIn K mainGlobals "Rules" = some (some (.ref C_Rules)))
    (pg_Rules : PySem.W.plainGet K C_Rules Str.empty = true)
    (hd_Rules : PySem.W.hasDictIn K C_Rules = true)
    (po_Rules : PySem.W.plainOver K C_Rules = true)
    (sa_Rules : PySem.W.findIn K (.ref C_Rules) "__setattr__" = some (some (.builtin "object.__setattr__")))
    (mk_Rules : PySem.W.makesIn K C_Rules = true)
    (kC_Rules : PySem.W.keepIn K (.ref C_Rules) = true)
    (fn_Rules___init__ : PySem.W.isFn K (.ref f19) = true)
    (fn_Rules_has : PySem.W.isFn K (.ref f20) = true)
    (fn_Rules_others : PySem.W.isFn K (.ref f21) = true)
    (fn_Rules_beside : PySem.W.isFn K (.ref f22) = true)
    (no_Rules_size : PySem.W.findIn K (.ref C_Rules) "size" = some none)
    (no_Rules_rows : PySem.W.findIn K (.ref C_Rules) "rows" = some none)
    (no_Rules__known : PySem.W.findIn K (.ref C_Rules) "_known" = some none)
    (is_Rules : PySem.W.subIn K (.ref C_Rules) (.ref C_Rules) = some true)
    (mo_Rules : PySem.W.mroIn K C_Rules (.type "object") = some true)
    (co_Rules : PySem.W.findIn K (.ref C_Rules) "__class__" = some (some (.builtin "object.__class__")))
    (nint_Rules : PySem.W.subIn K (.ref C_Rules) (.type "int") = some false)
    (nbool_Rules : PySem.W.subIn K (.ref C_Rules) (.type "bool") = some false)
    (ntuple_Rules : PySem.W.subIn K (.ref C_Rules) (.type "tuple") = some false)
    (nstr_Rules : PySem.W.subIn K (.ref C_Rules) (.type "str") = some false)
    (nlist_Rules : PySem.W.subIn K (.ref C_Rules) (.type "list") = some false)
    (sp1 : PySem.W.specialIn K (.builtin "object.__class__") "__get__" = some (some (.builtin "getset_descriptor.__get__")))
    (sp2 : PySem.W.takesIn K (.builtin "object.__class__") = some true)
    (z_abs : PySem.W.nsIn K mainGlobals "abs" = some none)
    (z_all : PySem.W.nsIn K mainGlobals "all" = some none)
    (z_bool : PySem.W.nsIn K mainGlobals "bool" = some none)
    (z_int : PySem.W.nsIn K mainGlobals "int" = some none)
    (z_isinstance : PySem.W.nsIn K mainGlobals "isinstance" = some none)
    (z_len : PySem.W.nsIn K mainGlobals "len" = some none)
    (z_list : PySem.W.nsIn K mainGlobals "list" = some none)
    (z_max : PySem.W.nsIn K mainGlobals "max" = some none)
    (z_min : PySem.W.nsIn K mainGlobals "min" = some none)
    (z_range : PySem.W.nsIn K mainGlobals "range" = some none)
    (z_set : PySem.W.nsIn K mainGlobals "set" = some none)
    (z_sorted : PySem.W.nsIn K mainGlobals "sorted" = some none)
    (z_sum : PySem.W.nsIn K mainGlobals "sum" = some none)
    (z_tuple : PySem.W.nsIn K mainGlobals "tuple" = some none)
    (m_combinations : PySem.W.nsIn K mainGlobals "combinations" = some (some (.type "itertools.combinations")))
    (m_comb : PySem.W.nsIn K mainGlobals "comb" = some (some (.builtin "math.comb")))
    (kc_MOST_POINTS : PySem.W.nsIn K mainGlobals "MOST_POINTS" = some (some (.int 8 t_MOST_POINTS)))
    : ∃ fd : FuncData, (∀ (s : Shared) (v : Value), BindsTo s fd ⟨[v], []⟩ [("script", v)]) ∧ ∀ base : Heap, K.In base → base.Ns mainGlobals mg → FnOk l.prog w K mg base CX0 11 fa fd ["script"] (spLaw K) := by
  have e := hfa.symm.trans (PySem.W.mg_of X G a40)
  cases e

  let A : Ad := ⟨f0, (PySem.W.fnOf "is_an_integer" "is_an_integer" (defArgs s_is_an_integer) (defBody s_is_an_integer) (defScope s_is_an_integer) .none kV0 dc0 pm0 an0 cd0 ct0), f1, (PySem.W.fnOf "is_number" "is_number" (defArgs s_is_number) (defBody s_is_number) (defScope s_is_number) .none kV1 dc1 pm1 an1 cd1 ct1), f2, (PySem.W.fnOf "is_value" "is_value" (defArgs s_is_value) (defBody s_is_value) (defScope s_is_value) .none kV2 dc2 pm2 an2 cd2 ct2), f3, (PySem.W.fnOf "code_of" "code_of" (defArgs s_code_of) (defBody s_code_of) (defScope s_code_of) .none kV3 dc3 pm3 an3 cd3 ct3), f4, (PySem.W.fnOf "codes_of" "codes_of" (defArgs s_codes_of) (defBody s_codes_of) (defScope s_codes_of) .none kV4 dc4 pm4 an4 cd4 ct4), f5, (PySem.W.fnOf "row_of" "row_of" (defArgs s_row_of) (defBody s_row_of) (defScope s_row_of) .none kV5 dc5 pm5 an5 cd5 ct5), f6, (PySem.W.fnOf "mask_of" "mask_of" (defArgs s_mask_of) (defBody s_mask_of) (defScope s_mask_of) .none kV6 dc6 pm6 an6 cd6 ct6), f7, (PySem.W.fnOf "is_row" "is_row" (defArgs s_is_row) (defBody s_is_row) (defScope s_is_row) .none kV7 dc7 pm7 an7 cd7 ct7), f8, (PySem.W.fnOf "all_rows" "all_rows" (defArgs s_all_rows) (defBody s_all_rows) (defScope s_all_rows) .none kV8 dc8 pm8 an8 cd8 ct8), f9, (PySem.W.fnOf "reads_all" "reads_all" (defArgs s_reads_all) (defBody s_reads_all) (defScope s_reads_all) .none kV9 dc9 pm9 an9 cd9 ct9), f10, (PySem.W.fnOf "holds_all" "holds_all" (defArgs s_holds_all) (defBody s_holds_all) (defScope s_holds_all) .none kV10 dc10 pm10 an10 cd10 ct10), f11, (PySem.W.fnOf "free_lots" "free_lots" (defArgs s_free_lots) (defBody s_free_lots) (defScope s_free_lots) .none kV11 dc11 pm11 an11 cd11 ct11), f12, (PySem.W.fnOf "strong_lots" "strong_lots" (defArgs s_strong_lots) (defBody s_strong_lots) (defScope s_strong_lots) .none kV12 dc12 pm12 an12 cd12 ct12), f13, (PySem.W.fnOf "lots_of" "lots_of" (defArgs s_lots_of) (defBody s_lots_of) (defScope s_lots_of) .none kV13 dc13 pm13 an13 cd13 ct13), f14, (PySem.W.fnOf "lots_to" "lots_to" (defArgs s_lots_to) (defBody s_lots_to) (defScope s_lots_to) .none kV14 dc14 pm14 an14 cd14 ct14), f15, (PySem.W.fnOf "all_lots" "all_lots" (defArgs s_all_lots) (defBody s_all_lots) (defScope s_all_lots) .none kV15 dc15 pm15 an15 cd15 ct15), f16, (PySem.W.fnOf "dimension" "dimension" (defArgs s_dimension) (defBody s_dimension) (defScope s_dimension) .none kV16 dc16 pm16 an16 cd16 ct16), f17, (PySem.W.fnOf "lots_up_to" "lots_up_to" (defArgs s_lots_up_to) (defBody s_lots_up_to) (defScope s_lots_up_to) .none kV17 dc17 pm17 an17 cd17 ct17), f18, (PySem.W.fnOf "are_rows" "are_rows" (defArgs s_are_rows) (defBody s_are_rows) (defScope s_are_rows) .none kV18 dc18 pm18 an18 cd18 ct18), f19, (PySem.W.fnOf "__init__" "Rules.__init__" (defArgs s_Rules____init__) (defBody s_Rules____init__) (defScope s_Rules____init__) .none kV19 dc19 pm19 an19 cd19 ct19), f20, (PySem.W.fnOf "has" "Rules.has" (defArgs s_Rules__has) (defBody s_Rules__has) (defScope s_Rules__has) .none kV20 dc20 pm20 an20 cd20 ct20), f21, (PySem.W.fnOf "others" "Rules.others" (defArgs s_Rules__others) (defBody s_Rules__others) (defScope s_Rules__others) .none kV21 dc21 pm21 an21 cd21 ct21), f22, (PySem.W.fnOf "beside" "Rules.beside" (defArgs s_Rules__beside) (defBody s_Rules__beside) (defScope s_Rules__beside) .none kV22 dc22 pm22 an22 cd22 ct22), f23, (PySem.W.fnOf "_law_flow" "_law_flow" (defArgs s__law_flow) (defBody s__law_flow) (defScope s__law_flow) .none kV23 dc23 pm23 an23 cd23 ct23), f24, (PySem.W.fnOf "_law_take" "_law_take" (defArgs s__law_take) (defBody s__law_take) (defScope s__law_take) .none kV24 dc24 pm24 an24 cd24 ct24), f25, (PySem.W.fnOf "_law_full" "_law_full" (defArgs s__law_full) (defBody s__law_full) (defScope s__law_full) .none kV25 dc25 pm25 an25 cd25 ct25), f26, (PySem.W.fnOf "_law_row" "_law_row" (defArgs s__law_row) (defBody s__law_row) (defScope s__law_row) .none kV26 dc26 pm26 an26 cd26 ct26), f27, (PySem.W.fnOf "_law_ones" "_law_ones" (defArgs s__law_ones) (defBody s__law_ones) (defScope s__law_ones) .none kV27 dc27 pm27 an27 cd27 ct27), f28, (PySem.W.fnOf "_law_listed" "_law_listed" (defArgs s__law_listed) (defBody s__law_listed) (defScope s__law_listed) .none kV28 dc28 pm28 an28 cd28 ct28), f29, (PySem.W.fnOf "_law_is_integer" "_law_is_integer" (defArgs s__law_is_integer) (defBody s__law_is_integer) (defScope s__law_is_integer) .none kV29 dc29 pm29 an29 cd29 ct29), f30, (PySem.W.fnOf "_law_is_lot" "_law_is_lot" (defArgs s__law_is_lot) (defBody s__law_is_lot) (defScope s__law_is_lot) .none kV30 dc30 pm30 an30 cd30 ct30), f31, (PySem.W.fnOf "_law_is_free" "_law_is_free" (defArgs s__law_is_free) (defBody s__law_is_free) (defScope s__law_is_free) .none kV31 dc31 pm31 an31 cd31 ct31), f32, (PySem.W.fnOf "_law_is_strong" "_law_is_strong" (defArgs s__law_is_strong) (defBody s__law_is_strong) (defScope s__law_is_strong) .none kV32 dc32 pm32 an32 cd32 ct32), f33, (PySem.W.fnOf "_law_true_lots" "_law_true_lots" (defArgs s__law_true_lots) (defBody s__law_true_lots) (defScope s__law_true_lots) .none kV33 dc33 pm33 an33 cd33 ct33), f34, (PySem.W.fnOf "_law_up_to" "_law_up_to" (defArgs s__law_up_to) (defBody s__law_up_to) (defScope s__law_up_to) .none kV34 dc34 pm34 an34 cd34 ct34), f35, (PySem.W.fnOf "_law_chain" "_law_chain" (defArgs s__law_chain) (defBody s__law_chain) (defScope s__law_chain) .none kV35 dc35 pm35 an35 cd35 ct35), f36, (PySem.W.fnOf "_law_complement" "_law_complement" (defArgs s__law_complement) (defBody s__law_complement) (defScope s__law_complement) .none kV36 dc36 pm36 an36 cd36 ct36), f37, (PySem.W.fnOf "_law_halves" "_law_halves" (defArgs s__law_halves) (defBody s__law_halves) (defScope s__law_halves) .none kV37 dc37 pm37 an37 cd37 ct37), f38, (PySem.W.fnOf "_law_product" "_law_product" (defArgs s__law_product) (defBody s__law_product) (defScope s__law_product) .none kV38 dc38 pm38 an38 cd38 ct38), f39, (PySem.W.fnOf "_law_all" "_law_all" (defArgs s__law_all) (defBody s__law_all) (defScope s__law_all) .none kV39 dc39 pm39 an39 cd39 ct39), fa, (PySem.W.fnOf "law" "law" (defArgs s_law) (defBody s_law) (defScope s_law) .none kV40 dc40 pm40 an40 cd40 ct40), C_Rules, t_MOST_POINTS⟩
  have T : Txt l.prog K mg A := ⟨PySem.W.mg_of X G a0, fun_mk (st := s_is_an_integer) l0 c0 k0, PySem.W.mg_of X G a1, fun_mk (st := s_is_number) l1 c1 k1, PySem.W.mg_of X G a2, fun_mk (st := s_is_value) l2 c2 k2, PySem.W.mg_of X G a3, fun_mk (st := s_code_of) l3 c3 k3, PySem.W.mg_of X G a4, fun_mk (st := s_codes_of) l4 c4 k4, PySem.W.mg_of X G a5, fun_mk (st := s_row_of) l5 c5 k5, PySem.W.mg_of X G a6, fun_mk (st := s_mask_of) l6 c6 k6, PySem.W.mg_of X G a7, fun_mk (st := s_is_row) l7 c7 k7, PySem.W.mg_of X G a8, fun_mk (st := s_all_rows) l8 c8 k8, PySem.W.mg_of X G a9, fun_mk (st := s_reads_all) l9 c9 k9, PySem.W.mg_of X G a10, fun_mk (st := s_holds_all) l10 c10 k10, PySem.W.mg_of X G a11, fun_mk (st := s_free_lots) l11 c11 k11, PySem.W.mg_of X G a12, fun_mk (st := s_strong_lots) l12 c12 k12, PySem.W.mg_of X G a13, fun_mk (st := s_lots_of) l13 c13 k13, PySem.W.mg_of X G a14, fun_mk (st := s_lots_to) l14 c14 k14, PySem.W.mg_of X G a15, fun_mk (st := s_all_lots) l15 c15 k15, PySem.W.mg_of X G a16, fun_mk (st := s_dimension) l16 c16 k16, PySem.W.mg_of X G a17, fun_mk (st := s_lots_up_to) l17 c17 k17, PySem.W.mg_of X G a18, fun_mk (st := s_are_rows) l18 c18 k18, fun_mk (st := s_Rules____init__) l19 c19 k19, fun_mk (st := s_Rules__has) l20 c20 k20, fun_mk (st := s_Rules__others) l21 c21 k21, fun_mk (st := s_Rules__beside) l22 c22 k22, PySem.W.mg_of X G a23, fun_mk (st := s__law_flow) l23 c23 k23, PySem.W.mg_of X G a24, fun_mk (st := s__law_take) l24 c24 k24, PySem.W.mg_of X G a25, fun_mk (st := s__law_full) l25 c25 k25, PySem.W.mg_of X G a26, fun_mk (st := s__law_row) l26 c26 k26, PySem.W.mg_of X G a27, fun_mk (st := s__law_ones) l27 c27 k27, PySem.W.mg_of X G a28, fun_mk (st := s__law_listed) l28 c28 k28, PySem.W.mg_of X G a29, fun_mk (st := s__law_is_integer) l29 c29 k29, PySem.W.mg_of X G a30, fun_mk (st := s__law_is_lot) l30 c30 k30, PySem.W.mg_of X G a31, fun_mk (st := s__law_is_free) l31 c31 k31, PySem.W.mg_of X G a32, fun_mk (st := s__law_is_strong) l32 c32 k32, PySem.W.mg_of X G a33, fun_mk (st := s__law_true_lots) l33 c33 k33, PySem.W.mg_of X G a34, fun_mk (st := s__law_up_to) l34 c34 k34, PySem.W.mg_of X G a35, fun_mk (st := s__law_chain) l35 c35 k35, PySem.W.mg_of X G a36, fun_mk (st := s__law_complement) l36 c36 k36, PySem.W.mg_of X G a37, fun_mk (st := s__law_halves) l37 c37 k37, PySem.W.mg_of X G a38, fun_mk (st := s__law_product) l38 c38 k38, PySem.W.mg_of X G a39, fun_mk (st := s__law_all) l39 c39 k39, PySem.W.mg_of X G a40, fun_mk (st := s_law) l40 c40 k40, PySem.W.mg_of X G gC_Rules, ⟨⟨pg_Rules, hd_Rules, po_Rules, sa_Rules⟩, co_Rules, sp1, sp2, mo_Rules, is_Rules, nint_Rules, nbool_Rules, ntuple_Rules, nstr_Rules, nlist_Rules⟩, ⟨mk_Rules, a19, fn_Rules___init__, kC_Rules⟩, no_Rules_size, no_Rules_rows, no_Rules__known, ⟨a20, fn_Rules_has, k20⟩, ⟨a21, fn_Rules_others, k21⟩, ⟨a22, fn_Rules_beside, k22⟩, PySem.W.mg_none_of X G z_abs, PySem.W.mg_none_of X G z_all, PySem.W.mg_none_of X G z_bool, PySem.W.mg_none_of X G z_int, PySem.W.mg_none_of X G z_isinstance, PySem.W.mg_none_of X G z_len, PySem.W.mg_none_of X G z_list, PySem.W.mg_none_of X G z_max, PySem.W.mg_none_of X G z_min, PySem.W.mg_none_of X G z_range, PySem.W.mg_none_of X G z_set, PySem.W.mg_none_of X G z_sorted, PySem.W.mg_none_of X G z_sum, PySem.W.mg_none_of X G z_tuple, PySem.W.mg_of X G m_combinations, PySem.W.mg_of X G m_comb, PySem.W.mg_of X G kc_MOST_POINTS⟩
  exact ⟨PySem.W.fnOf "law" "law" (defArgs s_law) (defBody s_law) (defScope s_law) .none kV40 dc40 pm40 an40 cd40 ct40, fun s v => .of_eq rfl, fun base _ _ => ok_law T⟩
theorem walk {l : PySem.W.OpenLaw} {q : Program} {loose : List Str} {XP : (Str → Option Value) → Heap → Prop} {YP : World → Heap → Prop} {d : DefRec} {K : Params → PySem.W.Frag} (hn : l.most = some 63) (hdf : d.params.defaults = [])
    (hY : ∀ (w : World) (h : Heap), YP w h → (K w.params).In h)
    (F : ∀ (w : World) (mg : Str → Option Value) (fa : Addr) (h : Heap), (K w.params).In h → h.Ns mainGlobals mg → mg d.name = some (.ref fa) →
      ∃ fd : FuncData, (∀ (s : Shared) (u : Value), BindsTo s fd ⟨[u], []⟩ [("script", u)]) ∧ ∀ base : Heap, (K w.params).In base → base.Ns mainGlobals mg → FnOk l.prog w (K w.params) mg base CX0 11 fa fd ["script"] (spLaw (K w.params))) :
    PySem.W.WalkO q loose XP YP l.row.toRowW d [] (fun f vs => PySem.call f vs) :=
  L2.walk_of (n := 63) (k := 11) (x := "script") (CX := fun _ => CX0) (sp := fun w => spLaw (K w.params)) hn (by decide) hdf ⟨rfl, by decide, by decide⟩ hY F (fun _ _ a ns hl _ hS => ⟨a, ns, rfl, hS, hl, fun _ => rfl⟩) fun _ _ _ _ _ z => z
end K15

set_option Elab.async false
set_option linter.all false
set_option maxRecDepth 100000
open PySem PySem.W PyProof.Rows
set_option maxRecDepth 100000 in
set_option maxHeartbeats 0 in
theorem PySem.Challenge.cw_nextguess_k15_whole_sandwich_holds : PySem.Challenge.rw_nextguess_k15_whole_sandwich.Holds := by
  w_on; o_law; k_head; (case hw => w_witness2)
  k_fill
  refine K15.walk (l := PySem.Challenge.rw_nextguess_k15_whole_sandwich) rfl rfl (fun w h Y => PySem.W.kIn_of Y) ?F
  case F =>
    intro w mg fa h KX G hmg
    refine' K15.all_mk KX G hmg ?a0 ?l0 ?c0 ?k0 ?a1 ?l1 ?c1 ?k1 ?a2 ?l2 ?c2 ?k2 ?a3 ?l3 ?c3 ?k3 ?a4 ?l4 ?c4 ?k4 ?a5 ?l5 ?c5 ?k5 ?a6 ?l6 ?c6 ?k6 ?a7 ?l7 ?c7 ?k7 ?a8 ?l8 ?c8 ?k8 ?a9 ?l9 ?c9 ?k9 ?a10 ?l10 ?c10 ?k10 ?a11 ?l11 ?c11 ?k11 ?a12 ?l12 ?c12 ?k12 ?a13 ?l13 ?c13 ?k13 ?a14 ?l14 ?c14 ?k14 ?a15 ?l15 ?c15 ?k15 ?a16 ?l16 ?c16 ?k16 ?a17 ?l17 ?c17 ?k17 ?a18 ?l18 ?c18 ?k18 ?a19 ?l19 ?c19 ?k19 ?a20 ?l20 ?c20 ?k20 ?a21 ?l21 ?c21 ?k21 ?a22 ?l22 ?c22 ?k22 ?a23 ?l23 ?c23 ?k23 ?a24 ?l24 ?c24 ?k24 ?a25 ?l25 ?c25 ?k25 ?a26 ?l26 ?c26 ?k26 ?a27 ?l27 ?c27 ?k27 ?a28 ?l28 ?c28 ?k28 ?a29 ?l29 ?c29 ?k29 ?a30 ?l30 ?c30 ?k30 ?a31 ?l31 ?c31 ?k31 ?a32 ?l32 ?c32 ?k32 ?a33 ?l33 ?c33 ?k33 ?a34 ?l34 ?c34 ?k34 ?a35 ?l35 ?c35 ?k35 ?a36 ?l36 ?c36 ?k36 ?a37 ?l37 ?c37 ?k37 ?a38 ?l38 ?c38 ?k38 ?a39 ?l39 ?c39 ?k39 ?a40 ?l40 ?c40 ?k40 ?gC_Rules ?pg_Rules ?hd_Rules ?po_Rules ?sa_Rules ?mk_Rules ?kC_Rules ?fn_Rules___init__ ?fn_Rules_has ?fn_Rules_others ?fn_Rules_beside ?no_Rules_size ?no_Rules_rows ?no_Rules__known ?is_Rules ?mo_Rules ?co_Rules ?nint_Rules ?nbool_Rules ?ntuple_Rules ?nstr_Rules ?nlist_Rules ?sp1 ?sp2 ?z_abs ?z_all ?z_bool ?z_int ?z_isinstance ?z_len ?z_list ?z_max ?z_min ?z_range ?z_set ?z_sorted ?z_sum ?z_tuple ?m_combinations ?m_comb ?kc_MOST_POINTS
    (case gC_Rules => k_is)
    (case kc_MOST_POINTS => k_is)
    (case a0 => k_is)
    (case l0 => k_is)
    (case c0 => k_is)
    (case k0 => k_is)
    (case a1 => k_is)
    (case l1 => k_is)
    (case c1 => k_is)
    (case k1 => k_is)
    (case a2 => k_is)
    (case l2 => k_is)
    (case c2 => k_is)
    (case k2 => k_is)
    (case a3 => k_is)
    (case l3 => k_is)
    (case c3 => k_is)
    (case k3 => k_is)
    (case a4 => k_is)
    (case l4 => k_is)
    (case c4 => k_is)
    (case k4 => k_is)
    (case a5 => k_is)
    (case l5 => k_is)
    (case c5 => k_is)
    (case k5 => k_is)
    (case a6 => k_is)
    (case l6 => k_is)
    (case c6 => k_is)
    (case k6 => k_is)
    (case a7 => k_is)
    (case l7 => k_is)
    (case c7 => k_is)
    (case k7 => k_is)
    (case a8 => k_is)
    (case l8 => k_is)
    (case c8 => k_is)
    (case k8 => k_is)
    (case a9 => k_is)
    (case l9 => k_is)
    (case c9 => k_is)
    (case k9 => k_is)
    (case a10 => k_is)
    (case l10 => k_is)
    (case c10 => k_is)
    (case k10 => k_is)
    (case a11 => k_is)
    (case l11 => k_is)
    (case c11 => k_is)
    (case k11 => k_is)
    (case a12 => k_is)
    (case l12 => k_is)
    (case c12 => k_is)
    (case k12 => k_is)
    (case a13 => k_is)
    (case l13 => k_is)
    (case c13 => k_is)
    (case k13 => k_is)
    (case a14 => k_is)
    (case l14 => k_is)
    (case c14 => k_is)
    (case k14 => k_is)
    (case a15 => k_is)
    (case l15 => k_is)
    (case c15 => k_is)
    (case k15 => k_is)
    (case a16 => k_is)
    (case l16 => k_is)
    (case c16 => k_is)
    (case k16 => k_is)
    (case a17 => k_is)
    (case l17 => k_is)
    (case c17 => k_is)
    (case k17 => k_is)
    (case a18 => k_is)
    (case l18 => k_is)
    (case c18 => k_is)
    (case k18 => k_is)
    (case a19 => k_is)
    (case l19 => k_is)
    (case c19 => k_is)
    (case k19 => k_is)
    (case a20 => k_is)
    (case l20 => k_is)
    (case c20 => k_is)
    (case k20 => k_is)
    (case a21 => k_is)
    (case l21 => k_is)
    (case c21 => k_is)
    (case k21 => k_is)
    (case a22 => k_is)
    (case l22 => k_is)
    (case c22 => k_is)
    (case k22 => k_is)
    (case a23 => k_is)
    (case l23 => k_is)
    (case c23 => k_is)
    (case k23 => k_is)
    (case a24 => k_is)
    (case l24 => k_is)
    (case c24 => k_is)
    (case k24 => k_is)
    (case a25 => k_is)
    (case l25 => k_is)
    (case c25 => k_is)
    (case k25 => k_is)
    (case a26 => k_is)
    (case l26 => k_is)
    (case c26 => k_is)
    (case k26 => k_is)
    (case a27 => k_is)
    (case l27 => k_is)
    (case c27 => k_is)
    (case k27 => k_is)
    (case a28 => k_is)
    (case l28 => k_is)
    (case c28 => k_is)
    (case k28 => k_is)
    (case a29 => k_is)
    (case l29 => k_is)
    (case c29 => k_is)
    (case k29 => k_is)
    (case a30 => k_is)
    (case l30 => k_is)
    (case c30 => k_is)
    (case k30 => k_is)
    (case a31 => k_is)
    (case l31 => k_is)
    (case c31 => k_is)
    (case k31 => k_is)
    (case a32 => k_is)
    (case l32 => k_is)
    (case c32 => k_is)
    (case k32 => k_is)
    (case a33 => k_is)
    (case l33 => k_is)
    (case c33 => k_is)
    (case k33 => k_is)
    (case a34 => k_is)
    (case l34 => k_is)
    (case c34 => k_is)
    (case k34 => k_is)
    (case a35 => k_is)
    (case l35 => k_is)
    (case c35 => k_is)
    (case k35 => k_is)
    (case a36 => k_is)
    (case l36 => k_is)
    (case c36 => k_is)
    (case k36 => k_is)
    (case a37 => k_is)
    (case l37 => k_is)
    (case c37 => k_is)
    (case k37 => k_is)
    (case a38 => k_is)
    (case l38 => k_is)
    (case c38 => k_is)
    (case k38 => k_is)
    (case a39 => k_is)
    (case l39 => k_is)
    (case c39 => k_is)
    (case k39 => k_is)
    (case a40 => k_is)
    (case l40 => k_is)
    (case c40 => k_is)
    (case k40 => k_is)
    (case pg_Rules => k_is)
    (case hd_Rules => k_is)
    (case po_Rules => k_is)
    (case sa_Rules => k_is)
    (case mk_Rules => k_is)
    (case kC_Rules => k_is)
    (case fn_Rules___init__ => k_is)
    (case fn_Rules_has => k_is)
    (case fn_Rules_others => k_is)
    (case fn_Rules_beside => k_is)
    (case no_Rules_size => k_is)
    (case no_Rules_rows => k_is)
    (case no_Rules__known => k_is)
    (case is_Rules => k_is)
    (case mo_Rules => k_is)
    (case co_Rules => k_is)
    (case nint_Rules => k_is)
    (case nbool_Rules => k_is)
    (case ntuple_Rules => k_is)
    (case nstr_Rules => k_is)
    (case nlist_Rules => k_is)
    (case sp1 => k_is)
    (case sp2 => k_is)
    (case z_abs => k_is)
    (case z_all => k_is)
    (case z_bool => k_is)
    (case z_int => k_is)
    (case z_isinstance => k_is)
    (case z_len => k_is)
    (case z_list => k_is)
    (case z_max => k_is)
    (case z_min => k_is)
    (case z_range => k_is)
    (case z_set => k_is)
    (case z_sorted => k_is)
    (case z_sum => k_is)
    (case z_tuple => k_is)
    (case m_combinations => k_is)
    (case m_comb => k_is)
